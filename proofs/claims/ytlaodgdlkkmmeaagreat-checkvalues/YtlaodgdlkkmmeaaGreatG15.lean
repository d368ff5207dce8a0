/-
  Lists of items in memory. Sources. Depth.
-/
import Derived.Test.YtlaodgdlkkmmeaaGreatG14
namespace Go.Proofs.YtlaodgdlkkmmeaaGreat
open Go.RowKit Go.Deep
open Go.Value renaming int->I,slice->Γ
open Go.IntKind renaming i64->J
def itCells (i:It) (ka:Option Addr) (kn kc:Nat):List Value:=[I J i.kind,.string (bs i.name),Γ ka kn kc,I J i.pl]
def ItsAt (o:Bool) (S:Nat -> Prop) (w:World):List It -> Option Addr -> Nat -> Prop
 | [],_,n=>n = 0
 | i :: r,ao,n=>∃ g off ka kn kc m,n = m + 1 /\ ao = some ⟨g,off,none⟩ /\ S g /\ (o = true -> off % 4 = 0 /\ ∃ cs,w.heap[g]? = some (.cells cs 67 (0,0))) /\ ItOk i /\ kn <= maxLen /\
     CellsAt w g off (itCells i ka kn kc) /\ FoAt o S w i.args ka kn /\ ItsAt o S w r (some ⟨g,off + 4,none⟩) m
theorem itsAt_len {o:Bool} {S:Nat -> Prop} {w:World}:∀ {l:List It} {ao:Option Addr} {n:Nat},ItsAt o S w l ao n -> n = l.length
 | [],_,_,h=>h
 | _ :: r,_,_,h=>by
   obtain ⟨g,off,ka,kn,kc,m,hn,_,_,_,_,_,_,_,hr⟩:=h
   rw [hn,itsAt_len hr]; rfl
theorem itsAt_keep {o:Bool} {S:Nat -> Prop} {w w':World} (hk:∀ g,g < w.heap.size -> S g -> w'.heap[g]? = w.heap[g]?):∀ {l:List It} {ao:Option Addr} {n:Nat},ItsAt o S w l ao n -> ItsAt o S w' l ao n
 | [],_,_,h=>h
 | i :: r,ao,n,hh=>by
   obtain ⟨g,off,ka,kn,kc,m,hn,ha,hB,ho,hok,hkn,hc,hk1,hr⟩:=hh
   have hlt:g < w.heap.size:=World.block_lt_of_cell? w _ (hc 0 _ rfl)
   have he:=hk g hlt hB
   exact ⟨g,off,ka,kn,kc,m,hn,ha,hB,fun e=>⟨(ho e).1,by rw [he]; exact (ho e).2⟩,hok,hkn,hc.of_heap he,foAt_keep hk hk1,itsAt_keep hk hr⟩
theorem ItsAt.below {o:Bool} {S:Nat -> Prop} {w w':World} {l:List It} {ao:Option Addr} {n:Nat} (h:ItsAt o S w l ao n) (hk:Below w.heap.size w w'):ItsAt o S w' l ao n:=
 itsAt_keep (fun g hg _=>hk.block g hg) h
theorem ItsAt.base {o:Bool} {S S':Nat -> Prop} {w:World} (hB:∀ g,g < w.heap.size -> S g -> S' g):∀ {l:List It} {ao:Option Addr} {n:Nat},ItsAt o S w l ao n -> ItsAt o S' w l ao n
 | [],_,_,h=>h
 | i :: r,ao,n,hh=>by
   obtain ⟨g,off,ka,kn,kc,m,hn,ha,hg,ho,hok,hkn,hc,hk1,hr⟩:=hh
   exact ⟨g,off,ka,kn,kc,m,hn,ha,hB g (World.block_lt_of_cell? w _ (hc 0 _ rfl)) hg,ho,hok,hkn,hc,hk1.base hB,ItsAt.base hB hr⟩
theorem ItsAt.loose {S:Nat -> Prop} {w:World}:∀ {l:List It} {ao:Option Addr} {n:Nat},ItsAt true S w l ao n -> ItsAt false S w l ao n
 | [],_,_,h=>h
 | i :: r,ao,n,hh=>by
   obtain ⟨g,off,ka,kn,kc,m,hn,ha,hg,ho,hok,hkn,hc,hk1,hr⟩:=hh
   exact ⟨g,off,ka,kn,kc,m,hn,ha,hg,(fun e=>by cases e),hok,hkn,hc,hk1.loose,ItsAt.loose hr⟩
abbrev Is:=It × Option Addr × Nat × Nat
def isCells (x:Is):List Value:=itCells x.1 x.2.1 x.2.2.1 x.2.2.2
theorem is_len (x:Is):(isCells x).length = 4:=rfl
theorem is_one (x:Is):∀ u ∈ isCells x,u.oneCell' = true:=by
 intro u hu
 simp [isCells,itCells] at hu
 rcases hu with rfl | rfl | rfl | rfl <;> rfl
def iRow (l:List Is):List Value:=l.flatMap isCells
theorem iRow_length (l:List Is):(iRow l).length = l.length * 4:=by
 induction l with
 | nil=>rfl
 | cons q r ih=>simp only [iRow,List.flatMap_cons,List.length_append,List.length_cons] at ih ⊢; rw [ih,is_len]; omega
theorem iRow_snoc (l:List Is) (q:Is):iRow (l ++ [q]) = iRow l ++ isCells q:=by simp [iRow]
/-- An item with its expressions in memory. -/
structure IsAt (o:Bool) (S:Nat -> Prop) (w:World) (x:Is):Prop where
 ok:ItOk x.1
 few:x.2.2.1 <= maxLen
 fo:FoAt o S w x.1.args x.2.1 x.2.2.1
theorem IsAt.kp {o:Bool} {b:Nat} {S:Nat -> Prop} {w w':World} {x:Is} (h:IsAt o S w x) (hk:Kp b w w') (hB:¬ S b):IsAt o S w' x:=⟨h.ok,h.few,h.fo.kp hk hB⟩
theorem IsAt.base {o:Bool} {S S':Nat -> Prop} {w:World} {x:Is} (h:IsAt o S w x) (hB:∀ g,g < w.heap.size -> S g -> S' g):IsAt o S' w x:=⟨h.ok,h.few,h.fo.base hB⟩
theorem IsAt.below {o:Bool} {S:Nat -> Prop} {w w':World} {x:Is} (h:IsAt o S w x) (hk:Below w.heap.size w w'):IsAt o S w' x:=⟨h.ok,h.few,h.fo.below hk⟩
theorem IsAt.keep {o:Bool} {S:Nat -> Prop} {w w':World} {x:Is} (h:IsAt o S w x) (hk:∀ g,g < w.heap.size -> S g -> w'.heap[g]? = w.heap[g]?):IsAt o S w' x:=⟨h.ok,h.few,foAt_keep hk h.fo⟩
theorem itsAt_row {o:Bool} {S:Nat -> Prop} {g:Nat} {w:World} (hB:S g) {cs:Array Value} (hg:w.heap[g]? = some (.cells cs 67 (0,0))):∀ (l:List Is) (off:Nat),(o = true -> off % 4 = 0) -> (∀ i u,(iRow l)[i]? = some u -> cs[off + i]? = some u) ->
 (∀ x ∈ l,IsAt o S w x) -> ItsAt o S w (l.map (·.1)) (some ⟨g,off,none⟩) l.length
 | [],off,_,_,_=>rfl
 | x :: r,off,h5,hc,hx=>by
   have hx0:=hx x (by simp)
   refine ⟨g,off,x.2.1,x.2.2.1,x.2.2.2,r.length,rfl,rfl,hB,fun e=>⟨h5 e,cs,hg⟩,hx0.ok,hx0.few,fun i u hi=>?_,hx0.fo,?_⟩
   ·rw [cell_of_row w g (off + i) cs 67 (0,0) hg]
    have hi':(isCells x)[i]? = some u:=hi
    exact hc i u (by rw [iRow,List.flatMap_cons,List.getElem?_append_left (List.getElem?_eq_some_iff.1 hi').1]; exact hi')
   ·refine itsAt_row hB hg r (off + 4) (fun e=>by have:=h5 e; omega) (fun i u hi=>?_) fun y hy=>hx y (by simp [hy])
    have:=hc (4 + i) u (by rw [iRow,List.flatMap_cons,List.getElem?_append_right (by rw [is_len]; omega),is_len,Nat.add_sub_cancel_left]; exact hi)
    rw [show off + 4 + i = off + (4 + i) by omega]; exact this
theorem itsAt_owned {o:Bool} {S:Nat -> Prop} {B:Nat} {w:World} {ao:Option Addr} {n cap:Nat} {l:List Is} (hS:∀ g,some g = (Value.slice ao n cap).ownBlock -> B <= g -> S g) (h:w.ownsRow B 67 4 (Γ ao n cap) n (iRow l)) (hx:∀ x ∈ l,IsAt o S w x):ItsAt o S w (l.map (·.1)) ao n /\ n = l.length:=by
 have hl:n = l.length:=by have:=h.1; rw [iRow_length] at this; omega
 refine ⟨?_,hl⟩
 rcases h.2 with ⟨hv,h0⟩ | ⟨g,cap',cur,hv,hb,hg,h1,h2,h3,h4⟩
 ·subst h0
  have:l = []:=List.eq_nil_of_length_eq_zero hl.symm
  subst this; rfl
 ·cases hv
  rw [hl]
  refine itsAt_row (hS g rfl hb) hg l 0 (fun _=>rfl) (fun i u hi=>?_) hx
  rw [<- h4] at hi
  have h5:i < (cur.toList.take (n * 4)).length:=(List.getElem?_eq_some_iff.1 hi).1
  have h6:i < n * 4:=by simp at h5; omega
  rw [List.getElem?_take_of_lt h6] at hi
  simpa using hi
structure SL (b:Nat) (ta:Option Addr) (tn tc:Nat) (T:List Tk) (w:World) (l:List Tk) (f:Int × Int) (xs:List Is) (v:Value) (n:Nat) (W:World):Prop where
 p:PAt b ta tn tc T l f W
 kp:Kp b w W
 nb:b < w.heap.size
 own:W.ownsRow w.heap.size 67 4 v n (iRow xs)
 ex:∀ x ∈ xs,IsAt true (fun g=>w.heap.size <= g /\ some g ≠ v.ownBlock) W x
section
variable {b:Nat} {ta:Option Addr} {tn tc:Nat} {T:List Tk} {w:World} {l:List Tk} {f:Int × Int} {xs:List Is} {v:Value} {n:Nat} {W W':World}
theorem SL.go (h:SL b ta tn tc T w l f xs v n W) (hk:Kp b W W') {l':List Tk} {f':Int × Int} (hp:PAt b ta tn tc T l' f' W'):SL b ta tn tc T w l' f' xs v n W':=
 ⟨hp,h.kp.trans hk,h.nb,owned_of_block h.own fun g cur hg hc=>hk.block g (lt_block hc) (by have:=(h.own.lt g hg).1; have:=h.nb; omega),fun x hx=>(h.ex x hx).kp hk (fun hb=>by have:=hb.1; have:=h.nb; omega)⟩
theorem SL.next (h:SL b ta tn tc T w l f xs v n W) (hk:Below W.heap.size W W'):SL b ta tn tc T w l f xs v n W':=h.go (Kp.of_below hk) (h.p.below hk)
theorem SL.len (h:SL b ta tn tc T w l f xs v n W):n = xs.length:=by have:=h.own.1; rw [iRow_length] at this; omega
theorem SL.add (h:SL b ta tn tc T w l f xs v n W) {x:Is} (hx:IsAt true (fun g=>w.heap.size <= g /\ some g ≠ v.ownBlock) W x) {v':Value} {w4:World}
 (ho:w4.ownsRow w.heap.size 67 4 v' (n + 1) (iRow xs ++ isCells x)) (hg:W.grownBy w4 v.ownBlock) (hf:∀ g,v'.ownBlock = some g -> some g = v.ownBlock \/ W.heap.size <= g):SL b ta tn tc T w l f (xs ++ [x]) v' (n + 1) w4:=by
 have hnb:=h.nb
 have hkeep:∀ g,g < W.heap.size -> (w.heap.size <= g /\ some g ≠ v.ownBlock) -> w4.heap[g]? = W.heap[g]?:=fun g h1 h2=>hg.block g h1 h2.2
 have hbase:∀ g,g < W.heap.size -> (w.heap.size <= g /\ some g ≠ v.ownBlock) -> (w.heap.size <= g /\ some g ≠ v'.ownBlock):=fun g h1 h2=>by
  refine ⟨h2.1,fun e=>?_⟩
  rcases hf g e.symm with h3 | h3
  ·exact h2.2 h3
  ·omega
 have hold:∀ g,g < w.heap.size -> w4.heap[g]? = W.heap[g]?:=fun g hgw=>hg.block g (Nat.lt_of_lt_of_le hgw h.kp.size) (fun e=>by have:=(h.own.lt g e.symm).1; omega)
 obtain ⟨kk,q1,q2,q3⟩:=h.p.block
 refine ⟨⟨⟨kk,q1,q2,by rw [hold b hnb]; exact q3⟩,?_,h.p.low,h.p.last,h.p.few⟩,h.kp.grown hg (fun k hk=>(h.own.lt k hk).1),hnb,by rw [iRow_snoc]; exact ho,fun y hy=>?_⟩
 ·refine h.p.toks.keep fun a ha=>hold a.block ?_
  have:=h.p.low a ha
  omega
 ·have hE:IsAt true (fun g=>w.heap.size <= g /\ some g ≠ v.ownBlock) W y:=by
   rcases List.mem_append.1 hy with hy | hy
   ·exact h.ex y hy
   ·rw [List.mem_singleton.1 hy]; exact hx
  have h1:IsAt true (fun g=>(w.heap.size <= g /\ some g ≠ v.ownBlock) /\ (w.heap.size <= g /\ some g ≠ v'.ownBlock)) W y:=hE.base fun g h1 h2=>⟨h2,hbase g h1 h2⟩
  exact (h1.keep fun g h2 h3=>hkeep g h2 h3.1).base fun g _ h2=>h2.2
theorem SL.start (h:PAt b ta tn tc T l f w):SL b ta tn tc T w l f [] (Γ none 0 0) 0 w:=⟨h,Kp.refl _ _,h.lt,World.ownsRow_nil _ _ _ _,fun x hx=>by cases hx⟩
def VIts (B:Nat) (its:List It) (v:Value) (w:World):Prop:=∃ ao n c,v = Γ ao n c /\ n <= 4002 /\ ItsAt true (fun g=>B <= g) w its ao n
theorem SL.done (h:SL b ta tn tc T w l f xs v n W) (hn:n <= 4002):VIts w.heap.size (xs.map (·.1)) v W:=by
 obtain ⟨ao,cap,rfl⟩:=owned_shape h.own
 exact ⟨ao,n,cap,rfl,hn,(itsAt_owned (fun g _ hg=>hg) h.own fun x hx=>(h.ex x hx).base fun g _ hg=>hg.1).1⟩
end
open Go.Value renaming int->I,pointer->Φ,string->Ψ,slice->Γ
open Go.Ending renaming returned->Ω
set_option maxRecDepth 20000
set_option maxHeartbeats 2000000
theorem info42:(Tryz.prog.info? 67).map (fun i=>(i.zero,i.size,i.bytes)) = some (some (.agg #[I J 0,Ψ ByteArray.empty,Γ none 0 0,I J 0]),4,56):=by kernel_rfl
theorem cell_i_new (W:World) (x:Is):∀ (i:Nat) (u:Value),(isCells x)[i]? = some u -> (W.alloc (.cells #[I J x.1.kind,Ψ (bs x.1.name),Γ x.2.1 x.2.2.1 x.2.2.2,I J x.1.pl] 67)).cell? ((⟨W.heap.size,0,none⟩:Addr).add i) = some u:=by
 intro i u hi
 rw [Addr.add_lit,Nat.zero_add,cell_of_row _ _ _ _ _ _ (heap_alloc_new W _)]
 simpa [isCells,itCells] using hi
theorem body_suf {ex:List Tk -> Rs Ex} (hsuf:∀ l,(ex l).rest <:+ l) (k:Int) (l:List Tk):(bodyG ex k l).rest <:+ l:=by
 have hn:∀ l,(nameG l).rest <:+ l:=fun l=>by
  cases l with
  | nil=>exact List.suffix_refl _
  | cons t r=>
    show (if t.kind = 3 then pure' t.text r else wrong' (t :: r)).rest <:+ _
    split
    ·exact List.suffix_cons _ _
    ·exact List.suffix_refl _
 have hw:∀ l,(wayG l).rest <:+ l:=fun l=>by
  cases l with
  | nil=>exact List.suffix_refl _
  | cons t r=>
    show (if t.kind = 4 /\ isWayB t.text = true then pure' t.text r else wrong' (t :: r)).rest <:+ _
    split
    ·exact List.suffix_cons _ _
    ·exact List.suffix_refl _
 have ho:∀ l,(oneG ex l).rest <:+ l:=fun l=>bind_suf (hsuf l) fun _=>List.suffix_refl _
 have hb:∀ s l,(bothG ex s l).rest <:+ l:=fun s l=>bind_suf (hsuf l) fun _=>bind_suf (sign_suf s _) fun _=>bind_suf (hsuf _) fun _=>List.suffix_refl _
 unfold bodyG
 repeat' split
 ·exact bind_suf (hn l) fun _=>bind_suf (sign_suf _ _) fun _=>bind_suf (ho _) fun _=>List.suffix_refl _
 ·exact bind_suf (hw l) fun _=>List.suffix_refl _
 ·exact bind_suf (hb _ l) fun _=>List.suffix_refl _
 ·exact bind_suf (hb _ l) fun _=>List.suffix_refl _
 ·exact bind_suf (ho l) fun _=>List.suffix_refl _
/-- An item that is read takes a token. -/
theorem item_suf {ex:List Tk -> Rs Ex} (hsuf:∀ l,(ex l).rest <:+ l) {t:Tk} {r:List Tk} {i:It} (h:(itemG ex (t :: r)).val = some i):(itemG ex (t :: r)).rest <:+ r:=by
 have he:itemG ex (t :: r) = if t.kind = 4 /\ itemKindB t.text ≠ 0 then (closeG [59] (bodyG ex (itemKindB t.text) r)).map (fun b=>⟨itemKindB t.text,b.1,b.2,t.pl⟩) else wrong' (t :: r):=rfl
 rw [he] at h ⊢
 split at h
 ·rename_i hc
  rw [if_pos hc]
  exact close_suf (body_suf hsuf _ _)
 ·cases h
theorem source_calls {b:Nat} {ta:Option Addr} {tn tc:Nat} {T:List Tk} (ex:List Tk -> Rs Ex) (hsuf:∀ l,(ex l).rest <:+ l)
 (HX:∀ l f w,PAt b ta tn tc T l f w -> l.length <= mx -> Calls Tryz.prog 112 #[Φ (some ⟨b,0,none⟩)] w (PPost b ta tn tc T f (ex l) (VEx w.heap.size) w)) (l:List Tk) (f:Int × Int) (w:World) (h:PAt b ta tn tc T l f w) :
 Calls Tryz.prog 38 #[Φ (some ⟨b,0,none⟩)] w (PPost b ta tn tc T f (sourceGo ex mx [] l) (VIts w.heap.size) w):=by
 have HQ:Hid (Eqv (sourceGo ex mx [] l) (sourceGo ex mx (([]:List Is).map (·.1)) l) f f):=eqv_refl _ _
 have HM:Hid (l.length <= mx):=h.len
 have HK:Hid (SL b ta tn tc T w l f [] (Γ none 0 0) 0 w):=SL.start h
 generalize sourceGo ex mx [] l = X at *
 have HZ:Hid (∀ v w' l',X.val = none /\ X.rest = l' -> Kp b w w' -> PAt b ta tn tc T l' (70,plOf l') w' -> PPost b ta tn tc T f X (VIts w.heap.size) w (.panicked [{ v:=.iface 32 v,recovered:=false }]) w'):=fun v w' l' h1 h3 h4=>⟨h3,.inr ⟨h1.1,⟨v,rfl⟩,by rw [h1.2]; exact h4⟩⟩
 clear h
 go_enter Tryz.func38,Tryz.ntmps38
 go_wp2_with fail
 go_loopg [3] l.length (fun k v wr=>∃ l' f' xs ao m cap m',v = Γ ao m cap /\ l'.length = k /\ Hid (SL b ta tn tc T w l' f' xs (Γ ao m cap) m wr) /\ Hid (l'.length <= m' /\ xs.length + l'.length <= 4001 /\ Eqv X (sourceGo ex m' (xs.map (·.1)) l') f f'))
 case atStart=>exact ⟨l,f,[],none,0,0,mx,rfl,rfl,HK.out,HM.out,(by have h1:l.length <= 4001:=HM.out; simp; omega),HQ.out⟩
 case round=>
  clear HK HQ HM
  obtain ⟨l',f',xs,ao,m,cap,m',rfl,rfl,HT,HL⟩:=hrel
  obtain ⟨t,r,rfl⟩:=HT.out.p.here1
  have hfd:=fld48_0
  have HH:Hid (Calls Tryz.prog 74 #[Φ (some ⟨b,0,none⟩)] wr fun e w'=>e = Ω (.agg #[I J t.kind,I J t.num,Ψ (bs t.text),I J (t.pl:Int)]) /\ Below wr.heap.size wr w'):=here_calls wr HT.out.p
  by_cases hs:t.kind = 1
  ·have q:(t.kind != 1) = false:=by rw [hs]; rfl
   have HX1:Hid (Eqv X (pure' (xs.map (·.1)) (t :: r)) f f'):=by
    obtain ⟨h2,_,h3⟩:=HL.out
    cases m' with
    | zero=>simp at h2
    | succ m'=>rw [sourceGo,if_pos hs] at h3; exact h3
   have hm0:m <= 4002:=by
    have h1:=HT.out.len
    have h2:=HL.out.2.1
    omega
   clear hs HL HX
   go_wp2_with fail
   refine HH.out.mono ?_
   rintro e w3 ⟨rfl,hb3⟩
   have HT3:Hid (SL b ta tn tc T w (t :: r) f' xs (Γ ao m cap) m w3):=HT.out.next hb3
   clear hb3 HH HT
   go_wp2
   go_ret
   refine ⟨HT3.out.kp,.inl ⟨_,_,HX1.out.1,rfl,HT3.out.done hm0,?_⟩⟩
   rw [HX1.out.2.1,HX1.out.2.2]
   exact (flt_nil f').symm ▸ HT3.out.p
  ·have q:(t.kind != 1) = true:=by simpa using hs
   obtain ⟨m2,HX1⟩:∃ m2,Hid (r.length <= m2 /\ (t :: r).length <= 4001 /\ xs.length + r.length + 1 <= 4001 /\ Eqv X ((itemG ex (t :: r)).bind fun i l2=>sourceGo ex m2 ((xs.map (·.1)) ++ [i]) l2) f (flt (if decide ((xs.map (·.1)).length = 100) = true then [plOf (t :: r)] else []) f')):=by
    obtain ⟨h2,h4,h3⟩:=HL.out
    cases m' with
    | zero=>simp at h2
    | succ m2=>
      rw [sourceGo,if_neg hs,note_pre] at h3
      exact ⟨m2,by simp at h2; exact h2,HT.out.p.len,by simp at h4; omega,eqv_pre h3⟩
   have HLm:Hid (m = (xs.map (·.1)).length /\ m = xs.length):=⟨by have:=HT.out.len; simpa using this,HT.out.len⟩
   have HIt:Hid (∀ f W,PAt b ta tn tc T (t :: r) f W -> Calls Tryz.prog 76 #[Φ (some ⟨b,0,none⟩)] W (PPost b ta tn tc T f (itemG ex (t :: r)) (VIt W.heap.size) W)):=fun f W hW=>item_calls mx ex hsuf HX (t :: r) f W hW (by have h5:(t :: r).length <= 4001:=HX1.out.2.1; unfold mx; omega)
   clear hs HL HX
   go_wp2_with fail
   refine HH.out.mono ?_
   rintro e w4 ⟨rfl,hb3⟩
   have HT4:Hid (SL b ta tn tc T w (t :: r) f' xs (Γ ao m cap) m w4):=HT.out.next hb3
   clear hb3 HH HT
   by_cases h8:m = 100
   ·have hb8:((m:Int) == 100) = true:=by rw [beq_iff_eq]; omega
    have HTM:Hid (∀ W,PAt b ta tn tc T (t :: r) f' W -> Calls Tryz.prog 75 #[Φ (some ⟨b,0,none⟩)] W fun e w'=>e = Ω (.tuple #[]) /\ Kp b W w' /\ PAt b ta tn tc T (t :: r) (flt (if decide ((xs.map (·.1)).length = 100) = true then [plOf (t :: r)] else []) f') w'):=fun W hW=>by
     rw [if_pos (by rw [<- HLm.out.1]; simp [h8])]
     exact tooMany_calls W hW
    clear h8
    go_wp2_with fail
    refine (HTM.out _ HT4.out.p).mono ?_
    rintro e w5 ⟨rfl,hk5,hp5⟩
    have HT5:Hid (SL b ta tn tc T w (t :: r) (flt (if decide ((xs.map (·.1)).length = 100) = true then [plOf (t :: r)] else []) f') xs (Γ ao m cap) m w5):=HT4.out.go hk5 hp5
    clear hk5 hp5 HTM HT4
    generalize flt (if decide ((xs.map (·.1)).length = 100) = true then [plOf (t :: r)] else []) f' = f5 at *
    cases hx:(itemG ex (t :: r)).val with
    | none=>
      have HE:Hid (X.val = none /\ X.rest = (itemG ex (t :: r)).rest):=eqv_none HX1.out.2.2.2 hx
      have HNx:Hid (Calls Tryz.prog 76 #[Φ (some ⟨b,0,none⟩)] w5 fun e w'=>∃ v,e = .panicked [{ v:=.iface 32 v,recovered:=false }] /\ Kp b w5 w' /\ PAt b ta tn tc T (itemG ex (t :: r)).rest (70,plOf (itemG ex (t :: r)).rest) w'):=calls_no (HIt.out f5 w5 HT5.out.p) hx
      clear hx HX1
      go_wp2_with fail
      refine HNx.out.mono ?_
      rintro e w6 ⟨v,rfl,hk6,hp6⟩
      exact ⟨rfl,HZ.out _ _ _ HE.out (HT5.out.kp.trans hk6) hp6⟩
    | some i2=>
      have HQ3:Hid (Eqv X (sourceGo ex m2 ((xs.map (·.1)) ++ [i2]) (itemG ex (t :: r)).rest) f (flt (itemG ex (t :: r)).many f5)):=eqv_some HX1.out.2.2.2 hx
      have HNx:Hid (Calls Tryz.prog 76 #[Φ (some ⟨b,0,none⟩)] w5 fun e w'=>∃ ka kn kc,e = Ω (.agg #[I J i2.kind,Ψ (bs i2.name),Γ ka kn kc,I J i2.pl]) /\ IsAt true (fun g=>w5.heap.size <= g) w' (i2,ka,kn,kc) /\ Kp b w5 w' /\ PAt b ta tn tc T (itemG ex (t :: r)).rest (flt (itemG ex (t :: r)).many f5) w'):=by
       refine (calls_ok (HIt.out f5 w5 HT5.out.p) hx).mono ?_
       rintro e w' ⟨v,he,⟨ka,kn,kc,hv,hn,hF,hO⟩,hK,hP⟩
       exact ⟨ka,kn,kc,by rw [he,hv],⟨hO,hn,hF⟩,hK,hP⟩
      have HL3:Hid ((itemG ex (t :: r)).rest.length <= m2 /\ xs.length + 1 + (itemG ex (t :: r)).rest.length <= 4001 /\ (itemG ex (t :: r)).rest.length < r.length + 1):=by
       have:=suf_len (item_suf hsuf hx)
       obtain ⟨h1,h2,h3,_⟩:=HX1.out
       exact ⟨by omega,by omega,by omega⟩
      clear hx HX1 HIt
      generalize (itemG ex (t :: r)).rest = l6 at *
      generalize flt (itemG ex (t :: r)).many f5 = f6 at *
      go_wp2_with fail
      refine HNx.out.mono ?_
      rintro e w6 ⟨k2,n2,c2,rfl,hE6,hk6,hp6⟩
      have HT6:Hid (SL b ta tn tc T w l6 f6 xs (Γ ao m cap) m w6 /\ IsAt true (fun g=>w.heap.size <= g /\ some g ≠ (Value.slice ao m cap).ownBlock) w6 (i2,k2,n2,c2)):=by
       have h1:=HT5.out.go hk6 hp6
       refine ⟨h1,hE6.base fun g _ hg=>⟨?_,fun e=>?_⟩⟩
       ·have:=HT5.out.kp.size
        have h3:w5.heap.size <= g:=hg
        omega
       ·have:=(HT5.out.own.lt g e.symm).2
        have h3:w5.heap.size <= g:=hg
        omega
      clear hE6 hk6 hp6 HNx HT5
      obtain ⟨i0,hi,hz0,hz1,hz2⟩:=info_parts info42
      have hm4:m <= 4002:=by have h1:=HL3.out.2.1; have h2:=HLm.out.2; omega
      have HAl:Hid (∀ o,SL b ta tn tc T w l6 f6 xs (Γ ao m cap) m (w6.alloc o)):=fun o=>HT6.out.1.next ((Below.refl _ _).alloc (Nat.le_refl _) _)
      have HAx:Hid (∀ o,IsAt true (fun g=>w.heap.size <= g /\ some g ≠ (Value.slice ao m cap).ownBlock) (w6.alloc o) (i2,k2,n2,c2)):=fun o=>HT6.out.2.below ((Below.refl _ _).alloc (Nat.le_refl _) _)
      have HAs:Hid (w.heap.size <= w6.heap.size):=HT6.out.1.kp.size
      go_wp2_with (at_builtin; go_loud (refine wpList_append_fresh rfl _ _ 22 rfl w.heap.size 67 i0 (.agg #[I J 0,Ψ ByteArray.empty,Γ none 0 0,I J 0]) 4 56 Tryz.underlying22 hi hz0 hz1 hz2 rfl (by decide) (Γ ao m cap) m (iRow xs) rfl (HAl.out _).own ⟨_,0,none⟩ 1 1 (isCells (i2,k2,n2,c2)) rfl rfl (cell_i_new _ (i2,k2,n2,c2)) (is_one _) (by unfold maxLen; omega) (by omega) (by have:=HAs.out; simp; omega) ?_); intro v' w7 hown' hgrow' hfr')
      have HT7:=(HAl.out _).add (x:=(i2,k2,n2,c2)) (HAx.out _) hown' hgrow' hfr'
      obtain ⟨ao7,cap7,rfl⟩:=owned_shape hown'
      have HT8:=hid HT7
      clear HT7 hown' hgrow' hfr' HAl HAx HT6
      go_wp2_with fail
      go_roundg l6.length
      case measure=>exact HL3.out.2.2
      case rel=>
       refine ⟨l6,f6,xs ++ [(i2,k2,n2,c2)],ao7,m + 1,cap7,m2,rfl,rfl,HT8,HL3.out.1,by have:=HL3.out.2.1; simp; omega,?_⟩
       rw [List.map_append]; exact HQ3.out
   ·have hb8:((m:Int) == 100) = false:=by rw [beq_eq_false_iff_ne]; omega
    have HT5:Hid (SL b ta tn tc T w (t :: r) (flt (if decide ((xs.map (·.1)).length = 100) = true then [plOf (t :: r)] else []) f') xs (Γ ao m cap) m w4):=by
     have h1:=HT4.out
     rw [if_neg (by rw [<- HLm.out.1]; simp [h8]),flt_nil]; exact h1
    clear h8 HT4
    generalize flt (if decide ((xs.map (·.1)).length = 100) = true then [plOf (t :: r)] else []) f' = f5 at *
    cases hx:(itemG ex (t :: r)).val with
    | none=>
      have HE:Hid (X.val = none /\ X.rest = (itemG ex (t :: r)).rest):=eqv_none HX1.out.2.2.2 hx
      have HNx:Hid (Calls Tryz.prog 76 #[Φ (some ⟨b,0,none⟩)] w4 fun e w'=>∃ v,e = .panicked [{ v:=.iface 32 v,recovered:=false }] /\ Kp b w4 w' /\ PAt b ta tn tc T (itemG ex (t :: r)).rest (70,plOf (itemG ex (t :: r)).rest) w'):=calls_no (HIt.out f5 w4 HT5.out.p) hx
      clear hx HX1
      go_wp2_with fail
      refine HNx.out.mono ?_
      rintro e w6 ⟨v,rfl,hk6,hp6⟩
      exact ⟨rfl,HZ.out _ _ _ HE.out (HT5.out.kp.trans hk6) hp6⟩
    | some i2=>
      have HQ3:Hid (Eqv X (sourceGo ex m2 ((xs.map (·.1)) ++ [i2]) (itemG ex (t :: r)).rest) f (flt (itemG ex (t :: r)).many f5)):=eqv_some HX1.out.2.2.2 hx
      have HNx:Hid (Calls Tryz.prog 76 #[Φ (some ⟨b,0,none⟩)] w4 fun e w'=>∃ ka kn kc,e = Ω (.agg #[I J i2.kind,Ψ (bs i2.name),Γ ka kn kc,I J i2.pl]) /\ IsAt true (fun g=>w4.heap.size <= g) w' (i2,ka,kn,kc) /\ Kp b w4 w' /\ PAt b ta tn tc T (itemG ex (t :: r)).rest (flt (itemG ex (t :: r)).many f5) w'):=by
       refine (calls_ok (HIt.out f5 w4 HT5.out.p) hx).mono ?_
       rintro e w' ⟨v,he,⟨ka,kn,kc,hv,hn,hF,hO⟩,hK,hP⟩
       exact ⟨ka,kn,kc,by rw [he,hv],⟨hO,hn,hF⟩,hK,hP⟩
      have HL3:Hid ((itemG ex (t :: r)).rest.length <= m2 /\ xs.length + 1 + (itemG ex (t :: r)).rest.length <= 4001 /\ (itemG ex (t :: r)).rest.length < r.length + 1):=by
       have:=suf_len (item_suf hsuf hx)
       obtain ⟨h1,h2,h3,_⟩:=HX1.out
       exact ⟨by omega,by omega,by omega⟩
      clear hx HX1 HIt
      generalize (itemG ex (t :: r)).rest = l6 at *
      generalize flt (itemG ex (t :: r)).many f5 = f6 at *
      go_wp2_with fail
      refine HNx.out.mono ?_
      rintro e w6 ⟨k2,n2,c2,rfl,hE6,hk6,hp6⟩
      have HT6:Hid (SL b ta tn tc T w l6 f6 xs (Γ ao m cap) m w6 /\ IsAt true (fun g=>w.heap.size <= g /\ some g ≠ (Value.slice ao m cap).ownBlock) w6 (i2,k2,n2,c2)):=by
       have h1:=HT5.out.go hk6 hp6
       refine ⟨h1,hE6.base fun g _ hg=>⟨?_,fun e=>?_⟩⟩
       ·have:=HT5.out.kp.size
        have h3:w4.heap.size <= g:=hg
        omega
       ·have:=(HT5.out.own.lt g e.symm).2
        have h3:w4.heap.size <= g:=hg
        omega
      clear hE6 hk6 hp6 HNx HT5
      obtain ⟨i0,hi,hz0,hz1,hz2⟩:=info_parts info42
      have hm4:m <= 4002:=by have h1:=HL3.out.2.1; have h2:=HLm.out.2; omega
      have HAl:Hid (∀ o,SL b ta tn tc T w l6 f6 xs (Γ ao m cap) m (w6.alloc o)):=fun o=>HT6.out.1.next ((Below.refl _ _).alloc (Nat.le_refl _) _)
      have HAx:Hid (∀ o,IsAt true (fun g=>w.heap.size <= g /\ some g ≠ (Value.slice ao m cap).ownBlock) (w6.alloc o) (i2,k2,n2,c2)):=fun o=>HT6.out.2.below ((Below.refl _ _).alloc (Nat.le_refl _) _)
      have HAs:Hid (w.heap.size <= w6.heap.size):=HT6.out.1.kp.size
      go_wp2_with (at_builtin; go_loud (refine wpList_append_fresh rfl _ _ 22 rfl w.heap.size 67 i0 (.agg #[I J 0,Ψ ByteArray.empty,Γ none 0 0,I J 0]) 4 56 Tryz.underlying22 hi hz0 hz1 hz2 rfl (by decide) (Γ ao m cap) m (iRow xs) rfl (HAl.out _).own ⟨_,0,none⟩ 1 1 (isCells (i2,k2,n2,c2)) rfl rfl (cell_i_new _ (i2,k2,n2,c2)) (is_one _) (by unfold maxLen; omega) (by omega) (by have:=HAs.out; simp; omega) ?_); intro v' w7 hown' hgrow' hfr')
      have HT7:=(HAl.out _).add (x:=(i2,k2,n2,c2)) (HAx.out _) hown' hgrow' hfr'
      obtain ⟨ao7,cap7,rfl⟩:=owned_shape hown'
      have HT8:=hid HT7
      clear HT7 hown' hgrow' hfr' HAl HAx HT6
      go_wp2_with fail
      go_roundg l6.length
      case measure=>exact HL3.out.2.2
      case rel=>
       refine ⟨l6,f6,xs ++ [(i2,k2,n2,c2)],ao7,m + 1,cap7,m2,rfl,rfl,HT8,HL3.out.1,by have:=HL3.out.2.1; simp; omega,?_⟩
       rw [List.map_append]; exact HQ3.out
open Go.Value renaming int->I,string->Ψ,slice->Γ
set_option maxRecDepth 20000
set_option maxHeartbeats 2000000
/-- The depth of the deepest of a list, in the machine's numbers. -/
def depW:Fo -> Int
 | .nil=>0
 | .node _ _ _ k r=>max (wrap64 (depW k + 1)) (depW r)
theorem depW_pos:∀ (F:Fo),0 <= depW F
 | .nil=>Int.le_refl _
 | .node _ _ _ k r=>by
   have:=depW_pos r
   simp only [depW]
   omega
theorem foAt_addr {o:Bool} {S:Nat -> Prop} {w:World} {F:Fo} {ka:Option Addr} {kn:Nat} (h:FoAt o S w F ka kn):∃ g off,(0 < kn -> ka = some ⟨g,off,none⟩) /\ FoAt o S w F (some ⟨g,off + 0 * 5,none⟩) (kn - 0):=by
 cases F with
 | nil=>
   have h0:kn = 0:=h
   exact ⟨0,0,fun h1=>by omega,h0⟩
 | node _ _ hd k r=>
   have hh:=h
   obtain ⟨g,off,_,_,_,_,_,ha,_⟩:=hh
   exact ⟨g,off,fun _=>ha,by rw [Nat.zero_mul,Nat.add_zero,<- ha]; exact h⟩
/-- The first of a list in memory, and the others. -/
theorem foAt_head {o:Bool} {S:Nat -> Prop} {w:World} {G:Fo} {g off i kn:Nat} (h:FoAt o S w G (some ⟨g,off + i * 5,none⟩) (kn - i)) (hi:i < kn) :
 ∃ b0 o0 hd k r ka kc kk,G = .node b0 o0 hd k r /\ S g /\ HdOk hd /\ kc <= maxLen /\ (w.cell? ⟨g,off + i * 5,none⟩ = some (I J hd.kind) /\ w.cell? ⟨g,off + i * 5 + 1,none⟩ = some (I J hd.num) /\ w.cell? ⟨g,off + i * 5 + 2,none⟩ = some (Ψ (bs hd.text)) /\ w.cell? ⟨g,off + i * 5 + 3,none⟩ = some (Γ ka kc kk) /\ w.cell? ⟨g,off + i * 5 + 4,none⟩ = some (I J hd.pl)) /\
   FoAt o S w k ka kc /\ FoAt o S w r (some ⟨g,off + (i + 1) * 5,none⟩) (kn - (i + 1)):=by
 cases G with
 | nil=>have:kn - i = 0:=h; omega
 | node b0 o0 hd k r=>
   obtain ⟨g',off',ka,kc,kk,m,hn,ha,hS,_,hok,hkc,hc,hk,hr⟩:=h
   cases ha
   refine ⟨b0,o0,hd,k,r,ka,kc,kk,rfl,hS,hok,hkc,⟨hc 0 _ rfl,hc 1 _ rfl,hc 2 _ rfl,hc 3 _ rfl,hc 4 _ rfl⟩,hk,?_⟩
   rw [show off + (i + 1) * 5 = off + i * 5 + 5 by omega,show kn - (i + 1) = m by omega]
   exact hr
theorem depth_calls:∀ (N:Nat) (e:Ex) (ka:Option Addr) (kn kc:Nat) (w:World) (o:Bool) (S:Nat -> Prop),ExAt o S w e ka kn -> szF e.2 < N ->
 Calls Tryz.prog 77 #[.agg #[I J e.1.kind,I J e.1.num,Ψ (bs e.1.text),Γ ka kn kc,I J e.1.pl]] w fun e' w'=>e' = Ω (I J (wrap64 (depW e.2 + 1))) /\ Below w.heap.size w w'
 | 0,_,_,_,_,_,_,_,_,h=>by omega
 | N + 1,e,ka,kn,kc,w,o,S,hE,hN=>by
   have IH:Hid (∀ (e:Ex) (ka:Option Addr) (kn kc:Nat) (w:World),ExAt o S w e ka kn -> szF e.2 < N ->
    Calls Tryz.prog 77 #[.agg #[I J e.1.kind,I J e.1.num,Ψ (bs e.1.text),Γ ka kn kc,I J e.1.pl]] w fun e' w'=>e' = Ω (I J (wrap64 (depW e.2 + 1))) /\ Below w.heap.size w w'):=fun e ka kn kc w h1 h2=>depth_calls N e ka kn kc w o S h1 h2
   obtain ⟨g,off,hka,hF⟩:=foAt_addr hE.kids
   have hkm:=hE.few
   unfold maxLen at hkm
   have HF:Hid (FoAt o S w e.2 (some ⟨g,off + 0 * 5,none⟩) (kn - 0) /\ szF e.2 <= N):=⟨hF,by omega⟩
   generalize hD:depW e.2 = D at *
   have HD:Hid (depW e.2 = D):=hD
   generalize e.2 = F at *
   generalize e.1 = hd at *
   clear hF hE hN hD
   have hbx:Below w.heap.size w (w.alloc (.cells #[I J hd.kind,I J hd.num,Ψ (bs hd.text),Γ ka kn kc,I J hd.pl] 102)):=(Below.refl _ _).alloc (Nat.le_refl _) _
   have HB:=hid hbx
   have HF2:Hid (FoAt o S (w.alloc (.cells #[I J hd.kind,I J hd.num,Ψ (bs hd.text),Γ ka kn kc,I J hd.pl] 102)) F (some ⟨g,off + 0 * 5,none⟩) (kn - 0) /\ szF F <= N):=⟨HF.out.1.below hbx,HF.out.2⟩
   clear hbx HF
   go_enter Tryz.func77,Tryz.ntmps77
   go_wp2_with fail
   go_loopg [3,9] kn (fun k dv iv wr=>∃ (G:Fo) (i:Nat) (d:Int),0 <= d /\ dv = I J d /\ iv = I J (i:Int) /\ i + k = kn /\ Hid (FoAt o S wr G (some ⟨g,off + i * 5,none⟩) (kn - i) /\ szF G <= N /\ max d (depW G) = D /\ Below w.heap.size w wr))
   case atStart=>exact ⟨F,0,0,Int.le_refl _,rfl,rfl,by omega,HF2.out.1,HF2.out.2,by rw [<- HD.out]; have:=depW_pos F; omega,HB.out⟩
   case round=>
    clear HF2 HB HD
    obtain ⟨G,i,d,hd0,rfl,rfl,hik,HT⟩:=hrel
    by_cases hi:i < kn
    ·obtain ⟨b0,o0,h2,k2,r2,ka2,kc2,kk2,rfl,-,hok,hkc,⟨c0,c1,c2,c3,c4⟩,hk2,hr2⟩:=foAt_head HT.out.1 hi
     have hka2:=hka (by omega)
     subst hka2
     have HE2:Hid (∀ o',ExAt o S (wr.alloc o') (h2,k2) ka2 kc2):=fun o'=>⟨hok,hkc,hk2.below ((Below.refl _ _).alloc (Nat.le_refl _) _)⟩
     have HR:Hid (FoAt o S wr r2 (some ⟨g,off + (i + 1) * 5,none⟩) (kn - (i + 1)) /\ szF k2 < N /\ szF r2 <= N /\ max d (max (wrap64 (depW k2 + 1)) (depW r2)) = D /\ Below w.heap.size w wr):=by
      obtain ⟨_,h3,h4,h5⟩:=HT.out
      simp only [szF] at h3
      exact ⟨hr2,by omega,by omega,h4,h5⟩
     clear HT hk2 hr2 hok hkc
     go_wp2_with fail
     refine (IH.out (h2,k2) ka2 kc2 kk2 _ (HE2.out _) HR.out.2.1).mono ?_
     rintro e' w3 ⟨rfl,hb3⟩
     have HR3:Hid (FoAt o S w3 r2 (some ⟨g,off + (i + 1) * 5,none⟩) (kn - (i + 1)) /\ szF r2 <= N /\ max (max d (wrap64 (depW k2 + 1))) (depW r2) = D /\ Below w.heap.size w w3):=by
      have hb4:=below_box' hb3
      refine ⟨HR.out.1.below hb4,HR.out.2.2.1,?_,HR.out.2.2.2.2.trans (hb4.mono HR.out.2.2.2.2.size)⟩
      have:=HR.out.2.2.2.1
      omega
     clear hb3 HR HE2
     generalize wrap64 (depW k2 + 1) = dk at *
     go_wp2_with fail
     ·go_roundg (gk - 1)
      case measure=>omega
      case rel=>
       have h9:=HR3.out
       rw [show max d dk = dk by omega] at h9
       exact ⟨r2,i + 1,dk,by omega,rfl,by go_num,by omega,h9⟩
     ·go_roundg (gk - 1)
      case measure=>omega
      case rel=>
       have h9:=HR3.out
       rw [show max d dk = d by omega] at h9
       exact ⟨r2,i + 1,d,hd0,rfl,by go_num,by omega,h9⟩
    ·have HX:Hid (d = D /\ Below w.heap.size w wr):=by
      obtain ⟨h1,_,h3,h4⟩:=HT.out
      have:kn - i = 0:=by omega
      rw [this] at h1
      cases G with
      | nil=>simp only [depW] at h3; exact ⟨by omega,h4⟩
      | node b0 o0 h2 k r=>obtain ⟨_,_,_,_,_,m,hm,_⟩:=h1; omega
     clear HT
     go_wp2
     go_ret
     refine ⟨ret_int ?_,HX.out.2⟩
     rw [HX.out.1]
end Go.Proofs.YtlaodgdlkkmmeaaGreat
