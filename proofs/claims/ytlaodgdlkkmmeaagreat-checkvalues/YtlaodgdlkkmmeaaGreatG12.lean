/-
  What stands in memory while the Kids of min and max are read; how the rest of a rule says what the whole says. The Kids of min and max. Factors that have others within.
-/
import Derived.Test.YtlaodgdlkkmmeaaGreatG06
import Derived.Test.YtlaodgdlkkmmeaaGreatApp
namespace Go.Proofs.YtlaodgdlkkmmeaaGreat
open Go.RowKit Go.Deep
def pre {α:Type} (m:List Int) (x:Rs α):Rs α:=⟨x.val,x.rest,m ++ x.many⟩
theorem bind_pre {α β:Type} {x:Rs α} (f:α -> List Tk -> Rs β) {a:α} (h:x.val = some a):x.bind f = pre x.many (f a x.rest):=bind_some f h
theorem pre_bind {α β:Type} (m:List Int) (x:Rs α) (f:α -> List Tk -> Rs β):(pre m x).bind f = pre m (x.bind f):=by
 cases hx:x.val with
 | none=>rw [bind_none _ hx,bind_none (x:=pre m x) _ hx]; rfl
 | some a=>rw [bind_pre _ hx,bind_pre (x:=pre m x) _ hx]; simp [pre]
theorem close_pre {α:Type} (s:List UInt8) (m:List Int) (x:Rs α):closeG s (pre m x) = pre m (closeG s x):=pre_bind _ _ _
theorem note_pre {α:Type} (c:Bool) (l:List Tk) (x:Rs α):note c l x = pre (if c then [plOf l] else []) x:=by
 cases c <;> rfl
theorem eqv_refl {α:Type} (X:Rs α) (f:Int × Int):Eqv X X f f:=⟨rfl,rfl,rfl⟩
theorem eqv_pre {α:Type} {X Y:Rs α} {f f':Int × Int} {m:List Int} (h:Eqv X (pre m Y) f f'):Eqv X Y f (flt m f'):=
 ⟨h.1,h.2.1,h.2.2.trans (flt_append _ _ _)⟩
theorem eqv_none {α β:Type} {X:Rs β} {x:Rs α} {F:α -> List Tk -> Rs β} {f f':Int × Int} (h:Eqv X (x.bind F) f f') (hx:x.val = none):X.val = none /\ X.rest = x.rest:=by
 rw [bind_none _ hx] at h
 exact ⟨h.1,h.2.1⟩
theorem eqv_some {α β:Type} {X:Rs β} {x:Rs α} {F:α -> List Tk -> Rs β} {f f':Int × Int} (h:Eqv X (x.bind F) f f') {a:α} (hx:x.val = some a):Eqv X (F a x.rest) f (flt x.many f'):=by
 rw [bind_pre _ hx] at h
 exact eqv_pre h
theorem sign_many (s:List UInt8) (l:List Tk):(signG s l).many = []:=by
 cases l with
 | nil=>rfl
 | cons t r=>show (if isT 6 s t = true then pure' () r else wrong' (t :: r)).many = []; split <;> rfl
structure KL (b:Nat) (ta:Option Addr) (tn tc:Nat) (T:List Tk) (w:World) (l:List Tk) (f:Int × Int) (xs:List Xs) (v:Value) (n:Nat) (W:World):Prop where
 p:PAt b ta tn tc T l f W
 kp:Kp b w W
 nb:b < w.heap.size
 own:W.ownsRow w.heap.size 102 5 v n (xRow xs)
 ex:∀ x ∈ xs,ExAt true (fun g=>w.heap.size <= g /\ some g ≠ v.ownBlock) W x.1 x.2.1 x.2.2.1
section
variable {b:Nat} {ta:Option Addr} {tn tc:Nat} {T:List Tk} {w:World} {l:List Tk} {f:Int × Int} {xs:List Xs} {v:Value} {n:Nat} {W W':World}
theorem KL.go (h:KL b ta tn tc T w l f xs v n W) (hk:Kp b W W') {l':List Tk} {f':Int × Int} (hp:PAt b ta tn tc T l' f' W'):KL b ta tn tc T w l' f' xs v n W':=
 ⟨hp,h.kp.trans hk,h.nb,owned_of_block h.own fun g cur hg hc=>hk.block g (lt_block hc) (by have:=(h.own.lt g hg).1; have:=h.nb; omega),fun x hx=>(h.ex x hx).kp hk (fun hb=>by have:=hb.1; have:=h.nb; omega)⟩
theorem KL.next (h:KL b ta tn tc T w l f xs v n W) (hk:Below W.heap.size W W'):KL b ta tn tc T w l f xs v n W':=h.go (Kp.of_below hk) (h.p.below hk)
theorem KL.len (h:KL b ta tn tc T w l f xs v n W):n = xs.length:=by have:=h.own.1; rw [xRow_length] at this; omega
theorem KL.size (h:KL b ta tn tc T w l f xs v n W):w.heap.size <= W.heap.size:=h.kp.size
/-- One more. -/
theorem KL.add (h:KL b ta tn tc T w l f xs v n W) {x:Xs} (hx:ExAt true (fun g=>w.heap.size <= g /\ some g ≠ v.ownBlock) W x.1 x.2.1 x.2.2.1) {v':Value} {w4:World}
 (ho:w4.ownsRow w.heap.size 102 5 v' (n + 1) (xRow xs ++ xsCells x)) (hg:W.grownBy w4 v.ownBlock) (hf:∀ g,v'.ownBlock = some g -> some g = v.ownBlock \/ W.heap.size <= g):KL b ta tn tc T w l f (xs ++ [x]) v' (n + 1) w4:=by
 have hnb:=h.nb
 have hkeep:∀ g,g < W.heap.size -> (w.heap.size <= g /\ some g ≠ v.ownBlock) -> w4.heap[g]? = W.heap[g]?:=fun g h1 h2=>hg.block g h1 h2.2
 have hbase:∀ g,g < W.heap.size -> (w.heap.size <= g /\ some g ≠ v.ownBlock) -> (w.heap.size <= g /\ some g ≠ v'.ownBlock):=fun g h1 h2=>by
  refine ⟨h2.1,fun e=>?_⟩
  rcases hf g e.symm with h3 | h3
  ·exact h2.2 h3
  ·omega
 have hold:∀ g,g < w.heap.size -> w4.heap[g]? = W.heap[g]?:=fun g hgw=>hg.block g (Nat.lt_of_lt_of_le hgw h.kp.size) (fun e=>by have:=(h.own.lt g e.symm).1; omega)
 obtain ⟨kk,q1,q2,q3⟩:=h.p.block
 refine ⟨⟨⟨kk,q1,q2,by rw [hold b hnb]; exact q3⟩,?_,h.p.low,h.p.last,h.p.few⟩,h.kp.grown hg (fun k hk=>(h.own.lt k hk).1),hnb,by rw [xRow_snoc]; exact ho,fun y hy=>?_⟩
 ·refine h.p.toks.keep fun a ha=>hold a.block ?_
  have:=h.p.low a ha
  omega
 ·have hE:ExAt true (fun g=>w.heap.size <= g /\ some g ≠ v.ownBlock) W y.1 y.2.1 y.2.2.1:=by
   rcases List.mem_append.1 hy with hy | hy
   ·exact h.ex y hy
   ·rw [List.mem_singleton.1 hy]; exact hx
  have h1:ExAt true (fun g=>(w.heap.size <= g /\ some g ≠ v.ownBlock) /\ (w.heap.size <= g /\ some g ≠ v'.ownBlock)) W y.1 y.2.1 y.2.2.1:=hE.base fun g h1 h2=>⟨h2,hbase g h1 h2⟩
  exact (h1.keep fun g h2 h3=>hkeep g h2 h3.1).base fun g _ h2=>h2.2
/-- The list that was read. -/
theorem KL.done (h:KL b ta tn tc T w l f xs v n W) (hn:n <= maxLen):VFo w.heap.size (ofL (xs.map (·.1))) v W:=by
 obtain ⟨ao,cap,rfl⟩:=owned_shape h.own
 exact ⟨ao,n,cap,rfl,hn,(foAt_owned (fun g _ hg=>hg) h.own fun x hx=>(h.ex x hx).base fun g _ hg=>hg.1).1⟩
/-- The first one. -/
theorem KL.start {x:Xs} (hb:b < w.heap.size) (hp:PAt b ta tn tc T l f W) (hk:Kp b w W) (hx:ExAt true (fun g=>w.heap.size <= g) W x.1 x.2.1 x.2.2.1) :
 KL b ta tn tc T w l f [x] (.slice (some ⟨W.heap.size,0,none⟩) 1 1) 1 (W.alloc (.cells (exArr x.1.1 x.2.1 x.2.2.1 x.2.2.2) 102 (0,0))):=by
 have hbel:Below W.heap.size W (W.alloc (.cells (exArr x.1.1 x.2.1 x.2.2.1 x.2.2.2) 102 (0,0))):=(Below.refl _ _).alloc (Nat.le_refl _) _
 refine ⟨hp.below hbel,hk.then_below hbel,hb,⟨rfl,.inr ⟨W.heap.size,1,_,rfl,hk.size,heap_alloc_new W _,Nat.le_refl _,by decide,rfl,rfl⟩⟩,fun y hy=>?_⟩
 rw [List.mem_singleton.1 hy]
 exact (hx.base fun g h1 h2=>⟨h2,fun e=>by have:g = W.heap.size:=by simpa [Value.ownBlock] using e
                                           omega⟩).below hbel
end
open Go.Value renaming int->I,pointer->Φ,string->Ψ,slice->Γ
open Go.IntKind renaming i64->J
open Go.Ending renaming returned->Ω
set_option maxRecDepth 20000
set_option maxHeartbeats 2000000
theorem info35:(Tryz.prog.info? 102).map (fun i=>(i.zero,i.size,i.bytes)) = some (some (.agg #[I J 0,I J 0,Ψ ByteArray.empty,Γ none 0 0,I J 0]),5,64):=by kernel_rfl
/-- The cells of a new block with one expression. -/
theorem cell_x_new (W:World) (x:Xs):∀ (i:Nat) (u:Value),(xsCells x)[i]? = some u -> (W.alloc (.cells #[I J x.1.1.kind,I J x.1.1.num,Ψ (bs x.1.1.text),Γ x.2.1 x.2.2.1 x.2.2.2,I J x.1.1.pl] 102)).cell? ((⟨W.heap.size,0,none⟩:Addr).add i) = some u:=by
 intro i u hi
 rw [Addr.add_lit,Nat.zero_add,cell_of_row _ _ _ _ _ _ (heap_alloc_new W _)]
 simpa [xsCells,exCells] using hi
theorem sign_ok {b:Nat} {ta:Option Addr} {tn tc:Nat} {T:List Tk} {f:Int × Int} {l:List Tk} {s:ByteArray} {W:World} (h:PAt b ta tn tc T l f W) {u:Unit} (hx:(signG s.data.toList l).val = some u) :
 Calls Tryz.prog 111 #[Φ (some ⟨b,0,none⟩),Ψ s] W fun e w'=>e = Ω (.tuple #[]) /\ Kp b W w' /\ PAt b ta tn tc T (signG s.data.toList l).rest f w':=by
 refine (calls_ok (signP_calls W s h) hx).mono ?_
 rintro e w' ⟨v,he,hv,hk,hp⟩
 rw [sign_many,flt_nil] at hp
 exact ⟨by rw [he,show v = .tuple #[] from hv],hk,hp⟩
theorem kids_calls {b:Nat} {ta:Option Addr} {tn tc:Nat} {T:List Tk} (n:Nat) (ex:List Tk -> Rs Ex) (hsuf:∀ l,(ex l).rest <:+ l)
 (HX:∀ l f w,PAt b ta tn tc T l f w -> l.length <= n -> Calls Tryz.prog 112 #[Φ (some ⟨b,0,none⟩)] w (PPost b ta tn tc T f (ex l) (VEx w.heap.size) w)) (l:List Tk) (f:Int × Int) (w:World) (h:PAt b ta tn tc T l f w) (hl:l.length <= n) :
 Calls Tryz.prog 157 #[Φ (some ⟨b,0,none⟩)] w (PPost b ta tn tc T f (kidsG ex l) (fun ks=>VFo w.heap.size (ofL ks)) w):=by
 have HP:Hid (PAt b ta tn tc T l f w):=h
 have HQ:Hid (Eqv (kidsG ex l) ((signG [40] l).bind fun _ l1=>closeG [41] ((ex l1).bind fun e l2=>kidsGo ex mx [e] l2)) f f):=eqv_refl _ _
 have hlt:=h.lt
 have HM:Hid (l.length <= 4001):=h.len
 generalize kidsG ex l = X at *
 have HZ:Hid (∀ v w' l',X.val = none -> X.rest = l' -> Kp b w w' -> PAt b ta tn tc T l' (70,plOf l') w' -> PPost b ta tn tc T f X (fun ks=>VFo w.heap.size (ofL ks)) w (.panicked [{ v:=.iface 32 v,recovered:=false }]) w'):=fun v w' l' h1 h2 h3 h4=>⟨h3,.inr ⟨h1,⟨v,rfl⟩,by rw [h2]; exact h4⟩⟩
 cases hx:(signG [40] l).val with
 | none=>
   have HN:Hid (Calls Tryz.prog 111 #[Φ (some ⟨b,0,none⟩),Ψ ⟨#[40]⟩] w fun e w'=>∃ v,e = .panicked [{ v:=.iface 32 v,recovered:=false }] /\ Kp b w w' /\ PAt b ta tn tc T (signG [40] l).rest (70,plOf (signG [40] l).rest) w'):=calls_no (signP_calls w ⟨#[40]⟩ h) hx
   have HE:=eqv_none HQ.out hx
   have HE':=hid HE
   clear hx h HX HE HQ
   go_enter Tryz.func157,Tryz.ntmps157
   go_wp2_with fail
   refine HN.out.mono ?_
   rintro e w1 ⟨v,rfl,hk1,hp1⟩
   exact ⟨rfl,HZ.out _ _ _ HE'.out.1 HE'.out.2 hk1 hp1⟩
 | some u=>
   have HN:Hid (Calls Tryz.prog 111 #[Φ (some ⟨b,0,none⟩),Ψ ⟨#[40]⟩] w fun e w'=>e = Ω (.tuple #[]) /\ Kp b w w' /\ PAt b ta tn tc T (signG [40] l).rest f w'):=sign_ok (s:=⟨#[40]⟩) h hx
   have HQ1:Hid (Eqv X (closeG [41] ((ex (signG [40] l).rest).bind fun e l2=>kidsGo ex mx [e] l2)) f f):=by
    have:=eqv_some HQ.out hx
    rw [sign_many,flt_nil] at this; exact this
   have HL1:Hid ((signG [40] l).rest.length <= n /\ (signG [40] l).rest.length <= 4001):=by
    have:=suf_len (sign_suf [40] l)
    have:=HM.out
    exact ⟨by omega,by omega⟩
   generalize (signG [40] l).rest = l1 at *
   clear hx h HQ HM
   cases hx:(ex l1).val with
   | none=>
     have HE:Hid (X.val = none /\ X.rest = (ex l1).rest):=by
      have h1:=HQ1.out
      unfold closeG at h1
      have h2:((ex l1).bind fun e l2=>kidsGo ex mx [e] l2).val = none:=by rw [bind_none _ hx]
      have h3:=eqv_none h1 h2
      rw [bind_none _ hx] at h3
      exact h3
     have HNx:Hid (∀ W,PAt b ta tn tc T l1 f W -> Calls Tryz.prog 112 #[Φ (some ⟨b,0,none⟩)] W fun e w'=>∃ v,e = .panicked [{ v:=.iface 32 v,recovered:=false }] /\ Kp b W w' /\ PAt b ta tn tc T (ex l1).rest (70,plOf (ex l1).rest) w'):=fun W hW=>calls_no (HX l1 f W hW HL1.out.1) hx
     clear hx HX
     generalize ex l1 = x at *
     go_enter Tryz.func157,Tryz.ntmps157
     go_wp2_with fail
     refine HN.out.mono ?_
     rintro e w1 ⟨rfl,hk1,hp1⟩
     have H1:Hid (Kp b w w1 /\ PAt b ta tn tc T l1 f w1):=⟨hk1,hp1⟩
     clear hk1 hp1 HN
     go_wp2_with fail
     refine (HNx.out _ H1.out.2).mono ?_
     rintro e w2 ⟨v,rfl,hk2,hp2⟩
     exact ⟨rfl,HZ.out _ _ _ HE.out.1 HE.out.2 (H1.out.1.trans hk2) hp2⟩
   | some a=>
     have HQ2:Hid (Eqv X (closeG [41] (kidsGo ex mx [a] (ex l1).rest)) f (flt (ex l1).many f)):=by
      have h1:=HQ1.out
      rw [bind_pre _ hx,close_pre] at h1
      exact eqv_pre h1
     have HNx:Hid (∀ W,PAt b ta tn tc T l1 f W -> Calls Tryz.prog 112 #[Φ (some ⟨b,0,none⟩)] W fun e w'=>∃ ka kn kc,e = Ω (.agg #[I J a.1.kind,I J a.1.num,Ψ (bs a.1.text),Γ ka kn kc,I J a.1.pl]) /\ ExAt true (fun g=>W.heap.size <= g) w' a ka kn /\ Kp b W w' /\ PAt b ta tn tc T (ex l1).rest (flt (ex l1).many f) w'):=fun W hW=>ex_ok (HX l1 f W hW HL1.out.1) hx
     have HL2:Hid ((ex l1).rest.length <= n /\ (ex l1).rest.length <= 4001):=by
      have:=suf_len (hsuf l1)
      exact ⟨by have:=HL1.out.1; omega,by have:=HL1.out.2; omega⟩
     clear hx HQ1
     generalize (ex l1).rest = l2 at *
     generalize flt (ex l1).many f = f2 at *
     go_enter Tryz.func157,Tryz.ntmps157
     go_wp2_with fail
     refine HN.out.mono ?_
     rintro e w1 ⟨rfl,hk1,hp1⟩
     have H1:Hid (Kp b w w1 /\ PAt b ta tn tc T l1 f w1):=⟨hk1,hp1⟩
     clear hk1 hp1 HN
     go_wp2_with fail
     refine (HNx.out _ H1.out.2).mono ?_
     rintro e w2 ⟨ka,kn,kc,rfl,hE2,hk2,hp2⟩
     have HK:Hid (KL b ta tn tc T w l2 f2 [(a,ka,kn,kc)] (Γ (some ⟨w2.heap.size,0,none⟩) 1 1) 1 (w2.alloc (.cells (exArr a.1 ka kn kc) 102 (0,0)))):=
      KL.start (x:=(a,ka,kn,kc)) hlt hp2 (H1.out.1.trans hk2) (hE2.base fun g _ h2=>by have:=H1.out.1.size; have h3:w1.heap.size <= g:=h2; show w.heap.size <= g; omega)
     clear hE2 hk2 hp2 H1 HNx
     go_wp2_with fail
     go_loopg [3] l2.length (fun k v wr=>∃ l' f' xs ao m cap m',v = Γ ao m cap /\ l'.length = k /\ Hid (KL b ta tn tc T w l' f' xs (Γ ao m cap) m wr) /\ Hid (l'.length <= n /\ l'.length <= m' /\ xs.length + l'.length <= 4002 /\ Eqv X (closeG [41] (kidsGo ex m' (xs.map (·.1)) l')) f f'))
     case atStart=>exact ⟨l2,f2,[(a,ka,kn,kc)],_,1,1,mx,rfl,rfl,HK.out,HL2.out.1,HL2.out.2,(by have:=HL2.out.2; simp; omega),HQ2.out⟩
     case round=>
      clear HK HQ2 HL2 HL1
      obtain ⟨l',f',xs,ao,m,cap,m',rfl,rfl,HT,HL⟩:=hrel
      obtain ⟨t,r,rfl⟩:=HT.out.p.here1
      cases hs:isT 6 [44] t with
      | false=>
        have HS:Hid (Calls Tryz.prog 138 #[Φ (some ⟨b,0,none⟩),I J 6,Ψ ⟨#[44]⟩] wr fun e w'=>e = Ω (.bool false) /\ Below wr.heap.size wr w'):=by
         have:=sees_calls wr HT.out.p 6 ⟨#[44]⟩
         rw [show (⟨#[44]⟩:ByteArray).data.toList = [44] from rfl,hs] at this; exact this
        have HX1:Hid (Eqv X ((signG [41] (t :: r)).bind fun _ l2=>pure' (xs.map (·.1)) l2) f f'):=by
         obtain ⟨_,h2,_,h3⟩:=HL.out
         cases m' with
         | zero=>simp at h2
         | succ m'=>rw [kidsGo,if_neg (by rw [hs]; decide)] at h3; exact h3
        have hm0:m <= maxLen:=by
         have h1:=HT.out.len
         have h2:=HL.out.2.2.1
         unfold maxLen; omega
        clear hs HL HX
        go_wp2_with fail
        refine HS.out.mono ?_
        rintro e w3 ⟨rfl,hb3⟩
        have HT3:Hid (KL b ta tn tc T w (t :: r) f' xs (Γ ao m cap) m w3):=HT.out.next hb3
        clear hb3 HS HT
        cases hx:(signG [41] (t :: r)).val with
        | none=>
          have HN:Hid (Calls Tryz.prog 111 #[Φ (some ⟨b,0,none⟩),Ψ ⟨#[41]⟩] w3 fun e w'=>∃ v,e = .panicked [{ v:=.iface 32 v,recovered:=false }] /\ Kp b w3 w' /\ PAt b ta tn tc T (signG [41] (t :: r)).rest (70,plOf (signG [41] (t :: r)).rest) w'):=calls_no (signP_calls w3 ⟨#[41]⟩ HT3.out.p) hx
          have HE:Hid (X.val = none /\ X.rest = (signG [41] (t :: r)).rest):=eqv_none HX1.out hx
          clear hx HX1
          go_wp2_with fail
          refine HN.out.mono ?_
          rintro e w4 ⟨v,rfl,hk4,hp4⟩
          exact ⟨rfl,HZ.out _ _ _ HE.out.1 HE.out.2 (HT3.out.kp.trans hk4) hp4⟩
        | some u2=>
          have HN:Hid (Calls Tryz.prog 111 #[Φ (some ⟨b,0,none⟩),Ψ ⟨#[41]⟩] w3 fun e w'=>e = Ω (.tuple #[]) /\ Kp b w3 w' /\ PAt b ta tn tc T (signG [41] (t :: r)).rest f' w'):=sign_ok (s:=⟨#[41]⟩) HT3.out.p hx
          have HY:Hid (Eqv X (pure' (xs.map (·.1)) (signG [41] (t :: r)).rest) f f'):=by
           have:=eqv_some HX1.out hx
           rw [sign_many,flt_nil] at this; exact this
          clear hx HX1
          go_wp2_with fail
          refine HN.out.mono ?_
          rintro e w4 ⟨rfl,hk4,hp4⟩
          have HT4:Hid (KL b ta tn tc T w (signG [41] (t :: r)).rest f' xs (Γ ao m cap) m w4):=HT3.out.go hk4 hp4
          clear hk4 hp4 HN HT3
          go_wp2
          go_ret
          refine ⟨HT4.out.kp,.inl ⟨_,_,HY.out.1,rfl,HT4.out.done hm0,?_⟩⟩
          rw [HY.out.2.1,HY.out.2.2]
          exact (flt_nil f').symm ▸ HT4.out.p
      | true=>
        have HS:Hid (Calls Tryz.prog 138 #[Φ (some ⟨b,0,none⟩),I J 6,Ψ ⟨#[44]⟩] wr fun e w'=>e = Ω (.bool true) /\ Below wr.heap.size wr w'):=by
         have:=sees_calls wr HT.out.p 6 ⟨#[44]⟩
         rw [show (⟨#[44]⟩:ByteArray).data.toList = [44] from rfl,hs] at this; exact this
        have hk:t.kind ≠ 1:=by
         intro e; unfold isT at hs; rw [e] at hs; simp at hs
        have HN:Hid (∀ w,PAt b ta tn tc T (t :: r) f' w -> Calls Tryz.prog 137 #[Φ (some ⟨b,0,none⟩)] w fun e w'=>e = Ω (.agg #[I J t.kind,I J t.num,Ψ (bs t.text),I J (t.pl:Int)]) /\ Kp b w w' /\ PAt b ta tn tc T r f' w'):=fun w h=>nextP_calls w h hk
        obtain ⟨m2,HX1⟩:∃ m2,Hid (r.length <= m2 /\ r.length <= n /\ xs.length + r.length + 1 <= 4002 /\ Eqv X (closeG [41] ((ex r).bind fun e l2=>kidsGo ex m2 ((xs.map (·.1)) ++ [e]) l2)) f (flt (if decide ((xs.map (·.1)).length = 8) = true then [plOf r] else []) f')):=by
         obtain ⟨h1,h2,h4,h3⟩:=HL.out
         cases m' with
         | zero=>simp at h2
         | succ m2=>
           rw [kidsGo,if_pos hs,note_pre,close_pre] at h3
           exact ⟨m2,by simp at h2; exact h2,by simp at h1; omega,by simp at h4; omega,eqv_pre h3⟩
        have HLm:Hid (m = (xs.map (·.1)).length /\ m = xs.length):=⟨by have:=HT.out.len; simpa using this,HT.out.len⟩
        clear hs HL hk
        go_wp2_with fail
        refine HS.out.mono ?_
        rintro e w3 ⟨rfl,hb3⟩
        have HT3:Hid (KL b ta tn tc T w (t :: r) f' xs (Γ ao m cap) m w3):=HT.out.next hb3
        clear hb3 HS HT
        go_wp2_with fail
        refine (HN.out _ HT3.out.p).mono ?_
        rintro e w4 ⟨rfl,hk4,hp4⟩
        have HT4:Hid (KL b ta tn tc T w r f' xs (Γ ao m cap) m w4):=HT3.out.go hk4 hp4
        clear hk4 hp4 HN HT3
        obtain ⟨t2,r2,hr⟩:=HT4.out.p.here1
        have HR:Hid (r = t2 :: r2):=hr
        clear hr
        by_cases h8:m = 8
        ·have hb8:((m:Int) == 8) = true:=by rw [beq_iff_eq]; omega
         have HTM:Hid (∀ W,PAt b ta tn tc T r f' W -> Calls Tryz.prog 75 #[Φ (some ⟨b,0,none⟩)] W fun e w'=>e = Ω (.tuple #[]) /\ Kp b W w' /\ PAt b ta tn tc T r (flt (if decide ((xs.map (·.1)).length = 8) = true then [plOf r] else []) f') w'):=fun W hW=>by
          rw [if_pos (by rw [<- HLm.out.1]; simp [h8]),HR.out]
          rw [HR.out] at hW
          exact tooMany_calls W hW
         clear h8
         go_wp2_with fail
         refine (HTM.out _ HT4.out.p).mono ?_
         rintro e w5 ⟨rfl,hk5,hp5⟩
         have HT5:Hid (KL b ta tn tc T w r (flt (if decide ((xs.map (·.1)).length = 8) = true then [plOf r] else []) f') xs (Γ ao m cap) m w5):=HT4.out.go hk5 hp5
         clear hk5 hp5 HTM HT4 HR
         generalize flt (if decide ((xs.map (·.1)).length = 8) = true then [plOf r] else []) f' = f5 at *
         cases hx:(ex r).val with
         | none=>
           have HE:Hid (X.val = none /\ X.rest = (ex r).rest):=by
            have h1:=HX1.out.2.2.2
            unfold closeG at h1
            have h2:((ex r).bind fun e l2=>kidsGo ex m2 ((xs.map (·.1)) ++ [e]) l2).val = none:=by rw [bind_none _ hx]
            have h3:=eqv_none h1 h2
            rw [bind_none _ hx] at h3
            exact h3
           have HNx:Hid (Calls Tryz.prog 112 #[Φ (some ⟨b,0,none⟩)] w5 fun e w'=>∃ v,e = .panicked [{ v:=.iface 32 v,recovered:=false }] /\ Kp b w5 w' /\ PAt b ta tn tc T (ex r).rest (70,plOf (ex r).rest) w'):=calls_no (HX r f5 w5 HT5.out.p HX1.out.2.1) hx
           clear hx HX HX1
           go_wp2_with fail
           refine HNx.out.mono ?_
           rintro e w6 ⟨v,rfl,hk6,hp6⟩
           exact ⟨rfl,HZ.out _ _ _ HE.out.1 HE.out.2 (HT5.out.kp.trans hk6) hp6⟩
         | some e2=>
           have HQ3:Hid (Eqv X (closeG [41] (kidsGo ex m2 ((xs.map (·.1)) ++ [e2]) (ex r).rest)) f (flt (ex r).many f5)):=by
            have h1:=HX1.out.2.2.2
            rw [bind_pre _ hx,close_pre] at h1
            exact eqv_pre h1
           have HNx:Hid (Calls Tryz.prog 112 #[Φ (some ⟨b,0,none⟩)] w5 fun e w'=>∃ ka kn kc,e = Ω (.agg #[I J e2.1.kind,I J e2.1.num,Ψ (bs e2.1.text),Γ ka kn kc,I J e2.1.pl]) /\ ExAt true (fun g=>w5.heap.size <= g) w' e2 ka kn /\ Kp b w5 w' /\ PAt b ta tn tc T (ex r).rest (flt (ex r).many f5) w'):=ex_ok (HX r f5 w5 HT5.out.p HX1.out.2.1) hx
           have HL3:Hid ((ex r).rest.length <= n /\ (ex r).rest.length <= m2 /\ xs.length + 1 + (ex r).rest.length <= 4002 /\ (ex r).rest.length < r.length + 1):=by
            have:=suf_len (hsuf r)
            obtain ⟨h1,h2,h3,_⟩:=HX1.out
            exact ⟨by omega,by omega,by omega,by omega⟩
           clear hx HX HX1
           generalize (ex r).rest = l6 at *
           generalize flt (ex r).many f5 = f6 at *
           go_wp2_with fail
           refine HNx.out.mono ?_
           rintro e w6 ⟨k2,n2,c2,rfl,hE6,hk6,hp6⟩
           have HT6:Hid (KL b ta tn tc T w l6 f6 xs (Γ ao m cap) m w6 /\ ExAt true (fun g=>w.heap.size <= g /\ some g ≠ (Value.slice ao m cap).ownBlock) w6 e2 k2 n2):=by
            have h1:=HT5.out.go hk6 hp6
            refine ⟨h1,hE6.base fun g _ hg=>⟨?_,fun e=>?_⟩⟩
            ·have:=HT5.out.kp.size
             have h3:w5.heap.size <= g:=hg
             omega
            ·have:=(HT5.out.own.lt g e.symm).2
             have h3:w5.heap.size <= g:=hg
             omega
           clear hE6 hk6 hp6 HNx HT5
           obtain ⟨i0,hi,hz0,hz1,hz2⟩:=info_parts info35
           have hm4:m <= 4002:=by have h1:=HL3.out.2.2.1; have h2:=HLm.out.2; omega
           have HAl:Hid (∀ o,KL b ta tn tc T w l6 f6 xs (Γ ao m cap) m (w6.alloc o)):=fun o=>HT6.out.1.next ((Below.refl _ _).alloc (Nat.le_refl _) _)
           have HAx:Hid (∀ o,ExAt true (fun g=>w.heap.size <= g /\ some g ≠ (Value.slice ao m cap).ownBlock) (w6.alloc o) e2 k2 n2):=fun o=>HT6.out.2.below ((Below.refl _ _).alloc (Nat.le_refl _) _)
           have HAs:Hid (w.heap.size <= w6.heap.size):=HT6.out.1.size
           go_wp2_with (at_builtin; go_loud (refine wpList_append_fresh rfl _ _ 65 rfl w.heap.size 102 i0 (.agg #[I J 0,I J 0,Ψ ByteArray.empty,Γ none 0 0,I J 0]) 5 64 Tryz.underlying65 hi hz0 hz1 hz2 rfl (by decide) (Γ ao m cap) m (xRow xs) rfl (HAl.out _).own ⟨_,0,none⟩ 1 1 (xsCells (e2,k2,n2,c2)) rfl rfl (cell_x_new _ (e2,k2,n2,c2)) (xs_one _) (by unfold maxLen; omega) (by omega) (by have:=HAs.out; simp; omega) ?_); intro v' w7 hown' hgrow' hfr')
           have HT7:=(HAl.out _).add (x:=(e2,k2,n2,c2)) (HAx.out _) hown' hgrow' hfr'
           obtain ⟨ao7,cap7,rfl⟩:=owned_shape hown'
           have HT8:=hid HT7
           clear HT7 hown' hgrow' hfr' HAl HAx HT6
           go_wp2_with fail
           go_roundg l6.length
           case measure=>exact HL3.out.2.2.2
           case rel=>
            refine ⟨l6,f6,xs ++ [(e2,k2,n2,c2)],ao7,m + 1,cap7,m2,rfl,rfl,HT8,HL3.out.1,HL3.out.2.1,by have:=HL3.out.2.2.1; simp; omega,?_⟩
            rw [List.map_append]; exact HQ3.out
        ·have hb8:((m:Int) == 8) = false:=by rw [beq_eq_false_iff_ne]; omega
         have HT5:Hid (KL b ta tn tc T w r (flt (if decide ((xs.map (·.1)).length = 8) = true then [plOf r] else []) f') xs (Γ ao m cap) m w4):=by
          have h1:=HT4.out
          rw [if_neg (by rw [<- HLm.out.1]; simp [h8]),flt_nil]; exact h1
         clear h8 HT4 HR
         generalize flt (if decide ((xs.map (·.1)).length = 8) = true then [plOf r] else []) f' = f5 at *
         cases hx:(ex r).val with
         | none=>
           have HE:Hid (X.val = none /\ X.rest = (ex r).rest):=by
            have h1:=HX1.out.2.2.2
            unfold closeG at h1
            have h2:((ex r).bind fun e l2=>kidsGo ex m2 ((xs.map (·.1)) ++ [e]) l2).val = none:=by rw [bind_none _ hx]
            have h3:=eqv_none h1 h2
            rw [bind_none _ hx] at h3
            exact h3
           have HNx:Hid (Calls Tryz.prog 112 #[Φ (some ⟨b,0,none⟩)] w4 fun e w'=>∃ v,e = .panicked [{ v:=.iface 32 v,recovered:=false }] /\ Kp b w4 w' /\ PAt b ta tn tc T (ex r).rest (70,plOf (ex r).rest) w'):=calls_no (HX r f5 w4 HT5.out.p HX1.out.2.1) hx
           clear hx HX HX1
           go_wp2_with fail
           refine HNx.out.mono ?_
           rintro e w6 ⟨v,rfl,hk6,hp6⟩
           exact ⟨rfl,HZ.out _ _ _ HE.out.1 HE.out.2 (HT5.out.kp.trans hk6) hp6⟩
         | some e2=>
           have HQ3:Hid (Eqv X (closeG [41] (kidsGo ex m2 ((xs.map (·.1)) ++ [e2]) (ex r).rest)) f (flt (ex r).many f5)):=by
            have h1:=HX1.out.2.2.2
            rw [bind_pre _ hx,close_pre] at h1
            exact eqv_pre h1
           have HNx:Hid (Calls Tryz.prog 112 #[Φ (some ⟨b,0,none⟩)] w4 fun e w'=>∃ ka kn kc,e = Ω (.agg #[I J e2.1.kind,I J e2.1.num,Ψ (bs e2.1.text),Γ ka kn kc,I J e2.1.pl]) /\ ExAt true (fun g=>w4.heap.size <= g) w' e2 ka kn /\ Kp b w4 w' /\ PAt b ta tn tc T (ex r).rest (flt (ex r).many f5) w'):=ex_ok (HX r f5 w4 HT5.out.p HX1.out.2.1) hx
           have HL3:Hid ((ex r).rest.length <= n /\ (ex r).rest.length <= m2 /\ xs.length + 1 + (ex r).rest.length <= 4002 /\ (ex r).rest.length < r.length + 1):=by
            have:=suf_len (hsuf r)
            obtain ⟨h1,h2,h3,_⟩:=HX1.out
            exact ⟨by omega,by omega,by omega,by omega⟩
           clear hx HX HX1
           generalize (ex r).rest = l6 at *
           generalize flt (ex r).many f5 = f6 at *
           go_wp2_with fail
           refine HNx.out.mono ?_
           rintro e w6 ⟨k2,n2,c2,rfl,hE6,hk6,hp6⟩
           have HT6:Hid (KL b ta tn tc T w l6 f6 xs (Γ ao m cap) m w6 /\ ExAt true (fun g=>w.heap.size <= g /\ some g ≠ (Value.slice ao m cap).ownBlock) w6 e2 k2 n2):=by
            have h1:=HT5.out.go hk6 hp6
            refine ⟨h1,hE6.base fun g _ hg=>⟨?_,fun e=>?_⟩⟩
            ·have:=HT5.out.kp.size
             have h3:w4.heap.size <= g:=hg
             omega
            ·have:=(HT5.out.own.lt g e.symm).2
             have h3:w4.heap.size <= g:=hg
             omega
           clear hE6 hk6 hp6 HNx HT5
           obtain ⟨i0,hi,hz0,hz1,hz2⟩:=info_parts info35
           have hm4:m <= 4002:=by have h1:=HL3.out.2.2.1; have h2:=HLm.out.2; omega
           have HAl:Hid (∀ o,KL b ta tn tc T w l6 f6 xs (Γ ao m cap) m (w6.alloc o)):=fun o=>HT6.out.1.next ((Below.refl _ _).alloc (Nat.le_refl _) _)
           have HAx:Hid (∀ o,ExAt true (fun g=>w.heap.size <= g /\ some g ≠ (Value.slice ao m cap).ownBlock) (w6.alloc o) e2 k2 n2):=fun o=>HT6.out.2.below ((Below.refl _ _).alloc (Nat.le_refl _) _)
           have HAs:Hid (w.heap.size <= w6.heap.size):=HT6.out.1.size
           go_wp2_with (at_builtin; go_loud (refine wpList_append_fresh rfl _ _ 65 rfl w.heap.size 102 i0 (.agg #[I J 0,I J 0,Ψ ByteArray.empty,Γ none 0 0,I J 0]) 5 64 Tryz.underlying65 hi hz0 hz1 hz2 rfl (by decide) (Γ ao m cap) m (xRow xs) rfl (HAl.out _).own ⟨_,0,none⟩ 1 1 (xsCells (e2,k2,n2,c2)) rfl rfl (cell_x_new _ (e2,k2,n2,c2)) (xs_one _) (by unfold maxLen; omega) (by omega) (by have:=HAs.out; simp; omega) ?_); intro v' w7 hown' hgrow' hfr')
           have HT7:=(HAl.out _).add (x:=(e2,k2,n2,c2)) (HAx.out _) hown' hgrow' hfr'
           obtain ⟨ao7,cap7,rfl⟩:=owned_shape hown'
           have HT8:=hid HT7
           clear HT7 hown' hgrow' hfr' HAl HAx HT6
           go_wp2_with fail
           go_roundg l6.length
           case measure=>exact HL3.out.2.2.2
           case rel=>
            refine ⟨l6,f6,xs ++ [(e2,k2,n2,c2)],ao7,m + 1,cap7,m2,rfl,rfl,HT8,HL3.out.1,HL3.out.2.1,by have:=HL3.out.2.2.1; simp; omega,?_⟩
            rw [List.map_append]; exact HQ3.out
open Go.Obj renaming cells->Δ
set_option maxRecDepth 20000
set_option maxHeartbeats 2000000
/-- The parser, and the result's variable. -/
structure CL (b:Nat) (ta:Option Addr) (tn tc:Nat) (T:List Tk) (w:World) (l:List Tk) (f:Int × Int) (W:World):Prop where
 p:PAt b ta tn tc T l f W
 kp:Kp b w W
 nb:b < w.heap.size
 res:W.heap[w.heap.size]? = some (Δ zero5 102 (0,0))
section
variable {b:Nat} {ta:Option Addr} {tn tc:Nat} {T:List Tk} {w:World} {l:List Tk} {f:Int × Int} {W W':World}
theorem CL.start (h:PAt b ta tn tc T l f w):CL b ta tn tc T w l f (w.alloc (Δ zero5 102)):=
 ⟨h.below ((Below.refl _ _).alloc (Nat.le_refl _) _),(Kp.refl b w).alloc _,h.lt,heap_alloc_new w _⟩
theorem CL.go (h:CL b ta tn tc T w l f W) (hk:Kp b W W') {l':List Tk} {f':Int × Int} (hp:PAt b ta tn tc T l' f' W'):CL b ta tn tc T w l' f' W':=
 ⟨hp,h.kp.trans hk,h.nb,by rw [hk.block _ (lt_block h.res) (by have:=h.nb; omega)]; exact h.res⟩
theorem CL.next (h:CL b ta tn tc T w l f W) (hk:Below W.heap.size W W'):CL b ta tn tc T w l f W':=h.go (Kp.of_below hk) (h.p.below hk)
theorem CL.zeros (h:CL b ta tn tc T w l f W):W.cell? ⟨w.heap.size,0,none⟩ = some (I J 0) /\ W.cell? ⟨w.heap.size,1,none⟩ = some (I J 0) /\ W.cell? ⟨w.heap.size,2,none⟩ = some (Ψ ⟨#[]⟩) /\ W.cell? ⟨w.heap.size,3,none⟩ = some (Γ none 0 0) /\ W.cell? ⟨w.heap.size,4,none⟩ = some (I J 0) /\ ∀ i,W.frozen? ⟨w.heap.size,i,none⟩ = false:=
 ⟨blk h.res rfl,blk h.res rfl,blk h.res rfl,blk h.res rfl,blk h.res rfl,fun i=>blkf i h.res⟩
theorem CL.size (h:CL b ta tn tc T w l f W):w.heap.size < W.heap.size:=lt_block h.res
/-- The result's variable takes an expression. -/
theorem CL.done (h:CL b ta tn tc T w l f W) {e:Ex} {ka:Option Addr} {kn kc:Nat} (hx:ExAt true (fun g=>w.heap.size < g) W e ka kn) :
 Kp b w (((((W.setCell ⟨w.heap.size,0,none⟩ (I J e.1.kind)).setCell ⟨w.heap.size,1,none⟩ (I J e.1.num)).setCell ⟨w.heap.size,2,none⟩ (Ψ (bs e.1.text))).setCell ⟨w.heap.size,3,none⟩ (Γ ka kn kc)).setCell ⟨w.heap.size,4,none⟩ (I J e.1.pl)) /\
 PAt b ta tn tc T l f (((((W.setCell ⟨w.heap.size,0,none⟩ (I J e.1.kind)).setCell ⟨w.heap.size,1,none⟩ (I J e.1.num)).setCell ⟨w.heap.size,2,none⟩ (Ψ (bs e.1.text))).setCell ⟨w.heap.size,3,none⟩ (Γ ka kn kc)).setCell ⟨w.heap.size,4,none⟩ (I J e.1.pl)) /\
 VEx w.heap.size e (.agg #[I J e.1.kind,I J e.1.num,Ψ (bs e.1.text),Γ ka kn kc,I J e.1.pl]) (((((W.setCell ⟨w.heap.size,0,none⟩ (I J e.1.kind)).setCell ⟨w.heap.size,1,none⟩ (I J e.1.num)).setCell ⟨w.heap.size,2,none⟩ (Ψ (bs e.1.text))).setCell ⟨w.heap.size,3,none⟩ (Γ ka kn kc)).setCell ⟨w.heap.size,4,none⟩ (I J e.1.pl)):=by
 generalize hW:((((W.setCell ⟨w.heap.size,0,none⟩ (I J e.1.kind)).setCell ⟨w.heap.size,1,none⟩ (I J e.1.num)).setCell ⟨w.heap.size,2,none⟩ (Ψ (bs e.1.text))).setCell ⟨w.heap.size,3,none⟩ (Γ ka kn kc)).setCell ⟨w.heap.size,4,none⟩ (I J e.1.pl) = W'
 have hnb:=h.nb
 have hn2:w.heap.size <= w.heap.size:=Nat.le_refl _
 have hoth:∀ g,g ≠ w.heap.size -> W'.heap[g]? = W.heap[g]?:=fun g hg=>by
  rw [<- hW]; exact heap_other (heap_other (heap_other (heap_other (heap_other rfl hg) hg) hg) hg) hg
 have hkp:=((((h.kp.setNew hn2 0 (I J e.1.kind)).setNew hn2 1 (I J e.1.num)).setNew hn2 2 (Ψ (bs e.1.text))).setNew hn2 3 (Γ ka kn kc)).setNew hn2 4 (I J e.1.pl)
 rw [hW] at hkp
 obtain ⟨kk,q1,q2,q3⟩:=h.p.block
 refine ⟨hkp,⟨⟨kk,q1,q2,by rw [hoth b (by omega)]; exact q3⟩,?_,h.p.low,h.p.last,h.p.few⟩,ka,kn,kc,rfl,?_⟩
 ·refine h.p.toks.keep fun x hx=>hoth x.block ?_
  have:=h.p.low x hx
  omega
 ·refine ExAt.base (hx.keep fun g _ hg=>hoth g (by omega)) fun g _ hg=>?_
  have h3:w.heap.size < g:=hg
  show w.heap.size <= g
  omega
end
theorem pl_le {b:Nat} {ta:Option Addr} {tn tc:Nat} {T:List Tk} {t:Tk} {r:List Tk} {f:Int × Int} {w:World} (h:PAt b ta tn tc T (t :: r) f w):TkOk t:=by
 obtain ⟨k,hk1,_,_⟩:=h.block
 have hmem:t ∈ T:=by
  have:t ∈ T.drop k:=by rw [hk1]; simp
  exact List.mem_of_mem_drop this
 exact h.toks.fits t hmem
/-- A contract as the walk wants it: a list was read. -/
theorem fo_ok {b:Nat} {ta:Option Addr} {tn tc:Nat} {T:List Tk} {f:Int × Int} {x:Rs (List Ex)} {W:World} {N:Nat} {args:Array Value} {a:List Ex}
 (h:Calls Tryz.prog N args W (PPost b ta tn tc T f x (fun ks=>VFo W.heap.size (ofL ks)) W)) (hx:x.val = some a) :
 Calls Tryz.prog N args W fun e w'=>∃ ka kn kc,e = Ω (Γ ka kn kc) /\ (kn <= maxLen /\ FoAt true (fun g=>W.heap.size <= g) w' (ofL a) ka kn) /\ Kp b W w' /\ PAt b ta tn tc T x.rest (flt x.many f) w':=by
 refine (calls_ok h hx).mono ?_
 rintro e w' ⟨v,he,⟨ka,kn,kc,hv,hE⟩,hK,hP⟩
 exact ⟨ka,kn,kc,by rw [he,hv],hE,hK,hP⟩
theorem isT_kind {k:Int} {s:List UInt8} {t:Tk} (h:isT k s t = true) (hk:k ≠ 1):t.kind ≠ 1:=by
 unfold isT at h; simp at h
 rw [h.1]; exact hk
theorem comp_neg {b:Nat} {ta:Option Addr} {tn tc:Nat} {T:List Tk} {n:Nat} {f:Int × Int} (w:World) {t:Tk} {r:List Tk} (h:PAt b ta tn tc T (t :: r) f w) (hl:r.length <= n)
 (HF:∀ l f w,PAt b ta tn tc T l f w -> l.length <= n -> Calls Tryz.prog 148 #[Φ (some ⟨b,0,none⟩)] w (PPost b ta tn tc T f (facN n l) (VEx w.heap.size) w)) (hs:isT 6 [45] t = true) :
 Calls Tryz.prog 153 #[Φ (some ⟨b,0,none⟩)] w (PPost b ta tn tc T f ((facN n r).map fun e=>(hdB 4 t,ofL [e])) (VEx w.heap.size) w):=by
 have hres:Tryz.f153.results = #[.cell 2 102]:=by kernel_rfl
 have HC0:Hid (CL b ta tn tc T w (t :: r) f (w.alloc (Δ zero5 102))):=CL.start h
 have HPl:Hid (t.pl <= 4000):=(pl_le h).pl
 have hfd:=fld48_3
 have hk1:=isT_kind hs (by decide)
 have HSa:Hid (∀ W,PAt b ta tn tc T (t :: r) f W -> Calls Tryz.prog 138 #[Φ (some ⟨b,0,none⟩),I J 6,Ψ ⟨#[45]⟩] W fun e w'=>e = Ω (.bool true) /\ Below W.heap.size W w'):=fun W h=>by
  have:=sees_calls W h 6 ⟨#[45]⟩
  rw [show (⟨#[45]⟩:ByteArray).data.toList = [45] from rfl,hs] at this; exact this
 have HN:Hid (∀ w,PAt b ta tn tc T (t :: r) f w -> Calls Tryz.prog 137 #[Φ (some ⟨b,0,none⟩)] w fun e w'=>e = Ω (.agg #[I J t.kind,I J t.num,Ψ (bs t.text),I J (t.pl:Int)]) /\ Kp b w w' /\ PAt b ta tn tc T r f w'):=fun w h=>nextP_calls w h hk1
 generalize hX:(facN n r).map (fun e=>(hdB 4 t,ofL [e])) = X at *
 have HZ:Hid (∀ v w',Kp b w w' -> PAt b ta tn tc T X.rest (70,plOf X.rest) w' -> X.val = none -> PPost b ta tn tc T f X (VEx w.heap.size) w (.panicked [{ v:=.iface 32 v,recovered:=false }]) w'):=fun v w' h1 h2 h3=>⟨h1,.inr ⟨h3,⟨v,rfl⟩,h2⟩⟩
 cases hx:(facN n r).val with
 | none=>
   have HFa:Hid (∀ W,PAt b ta tn tc T r f W -> Calls Tryz.prog 148 #[Φ (some ⟨b,0,none⟩)] W fun e w'=>∃ v,e = .panicked [{ v:=.iface 32 v,recovered:=false }] /\ Kp b W w' /\ PAt b ta tn tc T (facN n r).rest (70,plOf (facN n r).rest) w'):=fun W hW=>calls_no (HF r f W hW hl) hx
   have HE:Hid (X.val = none /\ X.rest = (facN n r).rest):=by rw [<- hX]; exact ⟨by show (facN n r).val.map _ = none; rw [hx]; rfl,rfl⟩
   clear hx hX HF h hs hk1
   generalize facN n r = y at *
   go_enter Tryz.func153,Tryz.ntmps153
   go_wp2_with fail
   refine (HSa.out _ HC0.out.p).mono ?_
   rintro e w1 ⟨rfl,hb1⟩
   have HC1:Hid (CL b ta tn tc T w (t :: r) f w1):=HC0.out.next hb1
   clear hb1 HSa HC0
   go_wp2_with fail
   refine (HN.out _ HC1.out.p).mono ?_
   rintro e w2 ⟨rfl,hk2,hp2⟩
   have HC2:Hid (CL b ta tn tc T w r f w2):=HC1.out.go hk2 hp2
   clear hk2 hp2 HN HC1
   go_wp2_with fail
   refine (HFa.out _ HC2.out.p).mono ?_
   rintro e w3 ⟨v,rfl,hk3,hp3⟩
   exact ⟨rfl,HZ.out _ _ (HC2.out.kp.trans hk3) (by rw [HE.out.2]; exact hp3) HE.out.1⟩
 | some a=>
   have HFa:Hid (∀ W,PAt b ta tn tc T r f W -> Calls Tryz.prog 148 #[Φ (some ⟨b,0,none⟩)] W fun e w'=>∃ ka kn kc,e = Ω (.agg #[I J a.1.kind,I J a.1.num,Ψ (bs a.1.text),Γ ka kn kc,I J a.1.pl]) /\ ExAt true (fun g=>W.heap.size <= g) w' a ka kn /\ Kp b W w' /\ PAt b ta tn tc T (facN n r).rest (flt (facN n r).many f) w'):=fun W hW=>ex_ok (HF r f W hW hl) hx
   have HE:Hid (X.val = some (hdB 4 t,ofL [a]) /\ X.rest = (facN n r).rest /\ X.many = (facN n r).many):=by rw [<- hX]; exact ⟨by show (facN n r).val.map _ = some _; rw [hx]; rfl,rfl,rfl⟩
   clear hx hX HF h hs hk1
   generalize facN n r = y at *
   go_enter Tryz.func153,Tryz.ntmps153
   go_wp2_with fail
   refine (HSa.out _ HC0.out.p).mono ?_
   rintro e w1 ⟨rfl,hb1⟩
   have HC1:Hid (CL b ta tn tc T w (t :: r) f w1):=HC0.out.next hb1
   clear hb1 HSa HC0
   go_wp2_with fail
   refine (HN.out _ HC1.out.p).mono ?_
   rintro e w2 ⟨rfl,hk2,hp2⟩
   have HC2:Hid (CL b ta tn tc T w r f w2):=HC1.out.go hk2 hp2
   clear hk2 hp2 HN HC1
   go_wp2_with fail
   refine (HFa.out _ HC2.out.p).mono ?_
   rintro e w3 ⟨ka,kn,kc,rfl,hE3,hk3,hp3⟩
   have HC3:Hid (∀ o,CL b ta tn tc T w y.rest (flt y.many f) (w3.alloc o)):=fun o=>(HC2.out.go hk3 hp3).next ((Below.refl _ _).alloc (Nat.le_refl _) o)
   have HF3:Hid (ExAt true (fun g=>w.heap.size < g) (w3.alloc (Δ #[I J a.1.kind,I J a.1.num,Ψ (bs a.1.text),Γ ka kn kc,I J a.1.pl] 102)) (hdB 4 t,ofL [a]) (some ⟨w3.heap.size,0,none⟩) 1):=by
    have h2:=HC2.out.size
    have h3:=hk3.size
    exact ⟨small_ok (by omega) HPl.out,by decide,one_new (by show w.heap.size < w3.heap.size; omega) (hE3.base fun g _ hg=>by
     have h4:w2.heap.size <= g:=hg
     show w.heap.size < g
     omega)⟩
   have z0:=fun o=>(HC3.out o).zeros.1
   have z1:=fun o=>(HC3.out o).zeros.2.1
   have z2:=fun o=>(HC3.out o).zeros.2.2.1
   have z3:=fun o=>(HC3.out o).zeros.2.2.2.1
   have z4:=fun o=>(HC3.out o).zeros.2.2.2.2.1
   have zf:=fun o i=>(HC3.out o).zeros.2.2.2.2.2 i
   have HD:=(HC3.out _).done (kc:=1) HF3.out
   have HD':Hid _:=HD
   clear HD hE3 hk3 hp3 HFa HC2
   go_wp2
   refine bodyPost_ret (v:=.agg #[I J 4,I J 0,Ψ ⟨#[]⟩,Γ (some ⟨w3.heap.size,0,none⟩) 1 1,I J (t.pl:Int)]) ?_ rfl ?_
   ·simp only [results,hres]
    go_simp
   ·refine ⟨HD'.out.1,.inl ⟨_,_,HE.out.1,rfl,HD'.out.2.2,?_⟩⟩
    rw [HE.out.2.1,HE.out.2.2]
    exact HD'.out.2.1
end Go.Proofs.YtlaodgdlkkmmeaaGreat
