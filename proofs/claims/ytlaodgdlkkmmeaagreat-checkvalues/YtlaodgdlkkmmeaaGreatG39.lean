/-
  What a pair of letters is worth: pair. What each two letters are worth, where no pair says it: score.
-/
import Derived.Lib.IndexLaws
import Derived.Test.YtlaodgdlkkmmeaaGreatG38
import Derived.Test.YtlaodgdlkkmmeaaGreatG35
import Derived.Test.YtlaodgdlkkmmeaaGreatG16
namespace Go.Proofs.YtlaodgdlkkmmeaaGreat
open Go.RowKit Go.Deep Go.Maps
open Go.Value renaming int->I,pointer->Φ,string->Ψ,slice->Γ
open Go.IntKind renaming i64->J
open Go.Obj renaming cells->Δ
open Go.Ending renaming returned->Ω
set_option maxRecDepth 20000
set_option maxHeartbeats 8000000
theorem LS.start4 {b:Nat} {s:Sl} {c:Ck} {w:World} {O:Nat -> Prop} (hck:CkAt O b s c w) (hok:CkOk c) (h:Hd) (ka:Option Addr) (kn kc:Nat) (h2:Hd) (la:Option Addr) (ln lc:Nat) :
 LS w O (fun g=>O g /\ g < w.heap.size) b s s (some c) [(w.heap.size + 1 + 1 + 1,flL (0,0),32),(w.heap.size + 1 + 1,exL h2 la ln lc,102),(w.heap.size + 1,exL h ka kn kc,102),(w.heap.size,[Φ (some ⟨b,0,none⟩)],63)] ((((w.alloc (Δ #[Φ (some ⟨b,0,none⟩)] 63)).alloc (Δ #[I J h.kind,I J h.num,Ψ (bs h.text),Γ ka kn kc,I J h.pl] 102)).alloc (Δ #[I J h2.kind,I J h2.num,Ψ (bs h2.text),Γ la ln lc,I J h2.pl] 102)).alloc (Δ #[I J 0,I J 0] 32)):=by
 have h1:=((((LS.start hck hok).alloc [Φ (some ⟨b,0,none⟩)] 63).alloc (exL h ka kn kc) 102).alloc (exL h2 la ln lc) 102).alloc (flL (0,0)) 32
 rw [show (((w.alloc (Δ [Φ (some ⟨b,0,none⟩)].toArray 63)).alloc (Δ (exL h ka kn kc).toArray 102)).alloc (Δ (exL h2 la ln lc).toArray 102)).heap.size = w.heap.size + 1 + 1 + 1 by simp,show ((w.alloc (Δ [Φ (some ⟨b,0,none⟩)].toArray 63)).alloc (Δ (exL h ka kn kc).toArray 102)).heap.size = w.heap.size + 1 + 1 by simp,show (w.alloc (Δ [Φ (some ⟨b,0,none⟩)].toArray 63)).heap.size = w.heap.size + 1 by simp] at h1
 exact h1
theorem codeU_lt {l:List UInt8} {x:UInt8} (h:0 <= codeU l x):codeU l x < l.length:=by
 unfold codeU Al.codeB at *
 split at h
 ·rename_i hr
  rw [if_pos hr]
  unfold Al.codeOf at *
  obtain ⟨o,ho⟩:∃ o:Nat,Lib.indexByte l (Al.capOf (x.toNat:Int)).toNat.toUInt8 = (o:Int):=⟨_,(Int.toNat_of_nonneg h).symm⟩
  have:=(Lib.indexByte_some ho).1
  have:=(List.getElem?_eq_some_iff.1 this).1
  rw [ho]; omega
 ·omega
/-- A place of the table is set. -/
theorem CkAt.setAt {O:Nat -> Prop} {b:Nat} {s:Sl} {c:Ck} {w:World} (h:CkAt O b s c w) {g n cap i:Nat} (hs:s.sv = Γ (some ⟨g,0,none⟩) n cap) (hi:i < c.subst.length) (p:Int) :
 O g /\ w.cell? ⟨g,i,none⟩ = some (I J (c.subst.getD i 0)) /\ w.frozen? ⟨g,i,none⟩ = false /\ CkAt O b s { c with subst:=c.subst.set i p } (w.setCell ⟨g,i,none⟩ (I J p)):=by
 have hrow:=h.subst
 rw [hs] at hrow
 have hn:n = c.subst.length:=by
  rcases hrow.2 with ⟨h1,_⟩ | ⟨_,_,_,h1,_⟩
  ·cases h1
  ·cases h1; rfl
 subst hn
 have hget:(itRow c.subst)[i]? = some (I J (c.subst.getD i 0)):=by
  simp [itRow,hi,List.getD]
 obtain ⟨h1,h2⟩:=owned_cells hrow i _ hget
 have hg:s.sv.ownBlock = some g:=by rw [hs]; rfl
 have hne:∀ q,q ≠ g -> (w.setCell ⟨g,i,none⟩ (I J p)).heap[q]? = w.heap[q]?:=fun q hq=>Below.heap_setCell w _ _ q hq
 have hb:b ≠ g:=fun e=>own_ne h.subst h.block (by decide) (e ▸ hg)
 refine ⟨h.inS g hg,h1,h2,by rw [hne b hb]; exact h.block,?_,?_,?_,?_,?_,h.apart,h.inB,h.inD,h.inS,h.inP,h.inV,h.inM⟩
 ·exact owned_of_block h.defs fun q _ hv _=>hne q (fun e=>own_two h.defs h.subst (by decide) q hv (e ▸ hg))
 ·rw [hs]
  have:=owned_set hrow i (I J p)
  rw [show (itRow c.subst).set i (I J p) = itRow (c.subst.set i p) by simp [itRow,List.map_set]] at this
  rw [List.length_set]; exact this
 ·exact owned_of_block h.pieces fun q _ hv _=>hne q (fun e=>own_two h.pieces h.subst (by decide) q hv (e ▸ hg))
 ·exact owned_of_block h.values fun q _ hv _=>hne q (fun e=>h.apart g hg (e ▸ hv))
 ·exact h.names.keep (hne _ (fun e=>own_nm h.subst h.names (e ▸ hg)))
def faultOf (r:Er Ck):Int × Int:=match r with | .error f=>f | .ok _=>(0,0)
theorem TPost.val {O:Nat -> Prop} {b:Nat} {w:World} {r:Er Ck} {e:Ending} {w':World} (h:TPost O b w r e w'):e = Ω (.agg #[I J (faultOf r).1,I J (faultOf r).2]) /\ Fr O w w':=by
 cases r with
 | error f=>exact ⟨h.2.1,h.2.2⟩
 | ok c=>exact ⟨h.1,h.2.1⟩
theorem TPost.lift {O O2:Nat -> Prop} {b:Nat} {w W:World} {r:Er Ck} {e:Ending} {w':World} (h:TPost O2 b W r e w') (hf:Fr O w W) (hn:∀ g,O2 g -> O g \/ w.heap.size <= g) {R:Nat} (hR:¬ O2 R) (hR1:w.heap.size <= R) (hR2:R < W.heap.size) (u v:Value) :
 TPost O b w r e ((w'.setCell ⟨R,0,none⟩ u).setCell ⟨R,1,none⟩ v):=by
 cases r with
 | error f=>exact ⟨h.1,h.2.1,((hf.trans h.2.2 hn).setCell (.inr hR1) _ _).setCell (.inr hR1) _ _⟩
 | ok c=>
   obtain ⟨h1,h2,O',s',hO,hck⟩:=h
   have hR':¬ O' R:=fun ho=>by
    rcases hO R ho with h3 | h3
    ·exact hR h3
    ·omega
   refine ⟨h1,((hf.trans h2 hn).setCell (.inr hR1) _ _).setCell (.inr hR1) _ _,O',s',fun g hg=>?_,ck_set (ck_set hck hR' _ _) hR' _ _⟩
   rcases hO g hg with h3 | h3
   ·exact hn g h3
   ·exact .inr (by have:=hf.size; omega)
theorem askQ_sm {q:Mn -> Int} {c c1:Ck} {h:Hd} {k:Fo} {m:Mn} {S:Nat -> Prop} {w:World} {ka:Option Addr} {kn:Nat} (hok:CkOk c) (hr:okE h k) (hE:ExAt false S w (h,k) ka kn) (he:askQ q c (h,k) = .ok (c1,m)):Sm c c1:=by
 unfold askQ at he
 split at he
 ·cases he
 ·rename_i c2 m2 hx
  split at he
  ·cases he; exact (askE_ok hok hr hE.hd.text (foAt_short hE.kids) hx).2.2
  ·cases he
def pair2 (e2:Ex):Er (Ck × Mn) -> Er Ck
 | .error f=>.error f
 | .ok (c1,m)=>
   if c1.subst.getD (pairAt c1.letters m.text) 0 ≠ -1 then .error (90,c1.pl)
   else singleB (fun c2 p=>{ c2 with subst:=c2.subst.set (pairAt c1.letters m.text) p }) c1 e2
theorem pair_at {l:List UInt8} {x y:UInt8} (hx:0 <= codeU l x) (hy:0 <= codeU l y):pairAt l [x,y] < l.length * l.length /\ ((pairAt l [x,y]:Nat):Int) = codeU l x * (l.length:Int) + codeU l y:=by
 have h1:=codeU_lt hx
 have h2:=codeU_lt hy
 obtain ⟨a,ha⟩:∃ a:Nat,codeU l x = (a:Int):=⟨_,(Int.toNat_of_nonneg hx).symm⟩
 obtain ⟨d,hd⟩:∃ d:Nat,codeU l y = (d:Int):=⟨_,(Int.toNat_of_nonneg hy).symm⟩
 have hp:pairAt l [x,y] = a * l.length + d:=by
  show (codeU l x).toNat * l.length + (codeU l y).toNat = _
  rw [ha,hd,Int.toNat_natCast,Int.toNat_natCast]
 rw [hp,ha,hd]
 rw [ha] at h1
 rw [hd] at h2
 refine ⟨?_,by simp⟩
 have h3:a + 1 <= l.length:=by omega
 have h4:=Nat.mul_le_mul_right l.length h3
 rw [Nat.add_mul] at h4
 omega
/-- The cells of an expression in its box, and the checker's pointer in its own. -/
abbrev EC6 (b q g:Nat) (h:Hd) (ka:Option Addr) (kn kc:Nat) (W:World):Prop:=W.cell? ⟨g,0,none⟩ = some (I J h.kind) /\ W.cell? ⟨g,1,none⟩ = some (I J h.num) /\ W.cell? ⟨g,2,none⟩ = some (Ψ (bs h.text)) /\ W.cell? ⟨g,3,none⟩ = some (Γ ka kn kc) /\ W.cell? ⟨g,4,none⟩ = some (I J h.pl) /\ W.cell? ⟨q,0,none⟩ = some (Φ (some ⟨b,0,none⟩))
theorem EC6.alloc {b q g:Nat} {h:Hd} {ka:Option Addr} {kn kc:Nat} {W:World} (hW:EC6 b q g h ka kn kc W) (o:Obj):EC6 b q g h ka kn kc (W.alloc o):=
 have k:=fun {a:Addr} {v:Value} (hc:W.cell? a = some v)=>keepc ((Below.refl _ _).alloc (Nat.le_refl _) o) hc
 ⟨k hW.1,k hW.2.1,k hW.2.2.1,k hW.2.2.2.1,k hW.2.2.2.2.1,k hW.2.2.2.2.2⟩
theorem EC6.drew {b q g:Nat} {h:Hd} {ka:Option Addr} {kn kc:Nat} {W:World} (hW:EC6 b q g h ka kn kc W):EC6 b q g h ka kn kc W.drew:=hW
theorem EC6.put {b q g:Nat} {h:Hd} {ka:Option Addr} {kn kc:Nat} {W:World} (hW:EC6 b q g h ka kn kc W) {c:Nat} (hb:g ≠ c /\ q ≠ c) (i:Nat) (v:Value):EC6 b q g h ka kn kc (W.setCell ⟨c,i,none⟩ v):=by
 have a:∀ (r j:Nat) (u:Value),r ≠ c -> W.cell? ⟨r,j,none⟩ = some u -> (W.setCell ⟨c,i,none⟩ v).cell? ⟨r,j,none⟩ = some u:=fun r j u hr hu=>by
  rw [<- hu]
  exact World.cell?_setCells_out c [v] i W ⟨r,j,none⟩ (fun e=>absurd e hr)
 exact ⟨a _ _ _ hb.1 hW.1,a _ _ _ hb.1 hW.2.1,a _ _ _ hb.1 hW.2.2.1,a _ _ _ hb.1 hW.2.2.2.1,a _ _ _ hb.1 hW.2.2.2.2.1,a _ _ _ hb.2 hW.2.2.2.2.2⟩
theorem pair_calls {B:Nat} {O:Nat -> Prop} {b:Nat} {s:Sl} {c:Ck} (h:Hd) (k:Fo) (ka:Option Addr) (kn kc:Nat) (h2:Hd) (k2:Fo) (la:Option Addr) (ln lc:Nat) (w:World) (hck:CkAt O b s c w) (hok:CkOk c) (hlow:∀ g,O g -> B <= g) (hB:B <= w.heap.size)
 (hE:ExAt false (fun g=>g < B) w (h,k) ka kn) (hr:okE h k) (hE2:ExAt false (fun g=>g < B) w (h2,k2) la ln) (hr2:okE h2 k2) (hal:c.had 2 = true -> c.letters ≠ []) :
 Calls Tryz.prog 52 #[Φ (some ⟨b,0,none⟩),exV h ka kn kc,exV h2 la ln lc] w (TPost O b w (pairB c (h,k) (h2,k2))):=by
 have hres:Tryz.f52.results = #[.cell 6 32]:=by kernel_rfl
 have hS1:=LS.start4 hck hok h ka kn kc h2 la ln lc
 cases hh:c.had 2 with
 | false=>
   have HX:Hid (pairB c (h,k) (h2,k2) = .error (94,c.pl)):=by show _ = _; unfold pairB; rw [if_pos hh]
   generalize hO1:(fun g=>O g /\ g < w.heap.size) = O1 at hS1
   clear hO1 hck hok hlow hB hE hr hE2 hr2 hal
   unfold exV
   have HL:=hid hS1
   clear hS1
   go_enter Tryz.func52,Tryz.ntmps52
   go_upto_region 1 with (fail)
   generalize ((((w.alloc (Δ #[Φ (some ⟨b,0,none⟩)] 63)).alloc (Δ #[I J h.kind,I J h.num,Ψ (bs h.text),Γ ka kn kc,I J h.pl] 102)).alloc (Δ #[I J h2.kind,I J h2.num,Ψ (bs h2.text),Γ la ln lc,I J h2.pl] 102)).alloc (Δ #[I J 0,I J 0] 32)) = w1 at *
   have p0:w1.cell? ⟨w.heap.size,0,none⟩ = some (Φ (some ⟨b,0,none⟩)):=HL.out.at (g:=w.heap.size) (cs:=[Φ (some ⟨b,0,none⟩)]) (ty:=63) (by simp) rfl
   have hd:w1.cell? ⟨b,15,none⟩ = some (.bool false):=by have:=(HL.out.ck _ rfl).1.had2; rw [hh] at this; exact this
   have HW:Hid (Calls Tryz.prog 49 #[Φ (some ⟨b,0,none⟩),I J 94] w1 fun e w'=>e = Ω (.agg #[I J 94,I J c.pl]) /\ w'.cell? ⟨w.heap.size + 1 + 1 + 1,0,none⟩ = some (I J 0) /\ w'.cell? ⟨w.heap.size + 1 + 1 + 1,1,none⟩ = some (I J 0) /\ (∀ i,w'.frozen? ⟨w.heap.size + 1 + 1 + 1,i,none⟩ = false) /\ Hid (Fr O w w')):=by
    refine (wrongC_calls 94 w1 (HL.out.ck _ rfl).1).mono ?_
    rintro e w' ⟨rfl,hb⟩
    have HL2:Hid (LS w O O1 b s s (some c) [(w.heap.size + 1 + 1 + 1,flL (0,0),32),(w.heap.size + 1 + 1,exL h2 la ln lc,102),(w.heap.size + 1,exL h ka kn kc,102),(w.heap.size,[Φ (some ⟨b,0,none⟩)],63)] w'):=HL.out.next hb
    exact ⟨rfl,HL2.out.at (g:=w.heap.size + 1 + 1 + 1) (cs:=flL (0,0)) (ty:=32) (by simp) rfl,HL2.out.at (g:=w.heap.size + 1 + 1 + 1) (cs:=flL (0,0)) (ty:=32) (by simp) rfl,fun i=>HL2.out.fz (g:=w.heap.size + 1 + 1 + 1) (cs:=flL (0,0)) (ty:=32) (by simp) i,HL2.out.fr⟩
   clear HL hh
   go_wp2_with (go_at_call 49; refine HW.out.mono ?_; rintro e w' ⟨rfl,z0,z1,zf,HF⟩)
   refine bodyPost_ret (v:=flV (94,c.pl)) ?_ rfl ?_
   ·simp only [results,hres]
    unfold flV
    simp only
    go_simp
   ·show TPost _ _ _ _ _ _
    rw [HX.out]
    exact ⟨by simp,rfl,(HF.out.setCell (.inr (by omega)) _ _).setCell (.inr (by omega)) _ _⟩
 | true=>
   have hne:=hal hh
   obtain ⟨hrl,hsl⟩:=hok.alpha hne
   have hlen:=right_few hrl
   obtain ⟨r1,hr1⟩:∃ r,r = askQ (textQ (isPair c.letters)) c (h,k):=⟨_,rfl⟩
   have HA1:Hid (∀ O' s' L W g,LS w O O' b s s' (some c) L W -> (g,[.func (.func 92) #[] #[Φ (some ⟨w.heap.size,0,none⟩)]],41) ∈ L /\ (w.heap.size,[Φ (some ⟨b,0,none⟩)],63) ∈ L -> Calls Tryz.prog 89 #[Φ (some ⟨b,0,none⟩),.agg #[I J h.kind,I J h.num,Ψ (bs h.text),Γ ka kn kc,I J h.pl],.func (.func 123) #[] #[Φ (some ⟨g,0,none⟩)]] W fun e w'=>∃ mt mx mp mn f1 f2,e = Ω (.tuple #[.agg #[.bool mt,Ψ mx,I J mp,I J mn],.agg #[I J f1,I J f2]]) /\ Hid (∃ m oc O2 s2,(m.isText = mt /\ bs m.text = mx /\ m.place = mp /\ m.num = mn) /\ RQ r1 m (f1,f2) oc /\ LS w O O2 b s s2 oc L w')):=by
    intro O' s' L W g h1' h2'
    refine (h1'.askText h k ka kn kc (isPair c.letters) g (fun O W=>Lc O W g [.func (.func 92) #[] #[Φ (some ⟨w.heap.size,0,none⟩)]] 41 /\ Lc O W (w.heap.size) [Φ (some ⟨b,0,none⟩)] 63) hlow hB hE hr ⟨(h1'.loc _ h2'.1).1,(h1'.loc _ h2'.2).1⟩ (fun O O' W W' a hf hn=>⟨a.1.fr hf hn,a.2.fr hf hn⟩) ?_).mono ?_
    ·intro O' s' c' m W hc' _ hSm hm a1
     refine textQ_92 (isPair c.letters) m g (w.heap.size) W (a1.1.cell rfl) (fun o _=>?_)
     refine (pair1_calls c.letters m.text (w.heap.size) b (W.alloc o) ((a1.2.alloc o).cell rfl) (by have:=(hc'.alloc o).c0; rw [hSm.letters] at this; exact this) (by unfold maxLen; omega) hm.text).mono ?_
     rintro e w' ⟨rfl,n,rfl⟩
     exact ⟨rfl,below_dn (Below.refl _ _) n⟩
    ·rintro e w' ⟨m,f,oc,O2,s2,rfl,h3⟩
     exact ⟨_,_,_,_,_,_,rfl,m,oc,O2,s2,⟨rfl,rfl,rfl,rfl⟩,by rw [hr1]; exact h3.out.1,h3.out.2⟩
   have HSS:Hid (∀ O' s' oc L W,LS w O O' b s s' oc L W -> (w.heap.size + 1,exL h ka kn kc,102) ∈ L /\ (w.heap.size,[Φ (some ⟨b,0,none⟩)],63) ∈ L -> W.cell? ⟨w.heap.size + 1,0,none⟩ = some (I J h.kind) /\ W.cell? ⟨w.heap.size + 1,1,none⟩ = some (I J h.num) /\ W.cell? ⟨w.heap.size + 1,2,none⟩ = some (Ψ (bs h.text)) /\ W.cell? ⟨w.heap.size + 1,3,none⟩ = some (Γ ka kn kc) /\ W.cell? ⟨w.heap.size + 1,4,none⟩ = some (I J h.pl) /\ W.cell? ⟨w.heap.size,0,none⟩ = some (Φ (some ⟨b,0,none⟩))):=fun O' s' oc L W h1 h2=>⟨h1.at h2.1 rfl,h1.at h2.1 rfl,h1.at h2.1 rfl,h1.at h2.1 rfl,h1.at h2.1 rfl,h1.at h2.2 rfl⟩
   have HX:Hid (pairB c (h,k) (h2,k2) = pair2 (h2,k2) r1):=by show _ = _; unfold pairB; rw [if_neg (by rw [hh]; decide),hr1]; rfl
   have HT:Hid (∀ c1 m,r1 = .ok (c1,m) -> isPair c.letters m.text = true /\ Sm c c1):=fun c1 m he=>⟨(askQ_text (hr1.symm.trans he)).2,askQ_sm hok hr hE (hr1.symm.trans he)⟩
   have HSg:Hid (∀ O' s' c' W gs n cap i,CkAt O' b s' c' W -> CkOk c' -> Fr O w W -> (∀ g,O' g -> O g \/ w.heap.size <= g) -> s'.sv = Γ (some ⟨gs,0,none⟩) n cap -> i < c'.subst.length -> Calls Tryz.prog 57 #[Φ (some ⟨b,0,none⟩),.agg #[I J h2.kind,I J h2.num,Ψ (bs h2.text),Γ la ln lc,I J h2.pl],Φ (some ⟨gs,i,none⟩)] W (TPost O' b W (singleB (fun c2 p=>{ c2 with subst:=c2.subst.set i p }) c' (h2,k2)))):=by
    intro O' s' c' W gs n cap i q1 q2 q3 q4 q5 q6
    have hlow':∀ g,O' g -> B <= g:=fun g hg=>by rcases q4 g hg with h1 | h1; exact hlow g h1; omega
    refine single_calls h2 k2 la ln lc gs i (fun c2 p=>{ c2 with subst:=c2.subst.set i p }) W q1 q2 hlow' (Nat.le_trans hB q3.size) ⟨hE2.hd,hE2.few,foAt_keep (fun q hq hqB=>q3.block q hq (fun ho=>by have:=hlow q ho; omega)) hE2.kids⟩ hr2 ?_
    intro O3 s3 c3 W3 p k1 k3 k4
    have:=k1.setAt (k3.trans q5) (by rw [k4.subst]; exact q6) p
    exact ⟨this.1,⟨_,this.2.1⟩,this.2.2⟩
   generalize hO1:(fun g=>O g /\ g < w.heap.size) = O1 at hS1
   clear hO1 hck hlow hB hE hr hE2 hr2 hal hr1
   unfold exV
   have HS1:=hid hS1
   clear hS1
   go_enter Tryz.func52,Tryz.ntmps52
   go_upto_region 1 with (fail)
   generalize ((((w.alloc (Δ #[Φ (some ⟨b,0,none⟩)] 63)).alloc (Δ #[I J h.kind,I J h.num,Ψ (bs h.text),Γ ka kn kc,I J h.pl] 102)).alloc (Δ #[I J h2.kind,I J h2.num,Ψ (bs h2.text),Γ la ln lc,I J h2.pl] 102)).alloc (Δ #[I J 0,I J 0] 32)) = w1 at *
   have p0:w1.cell? ⟨w.heap.size,0,none⟩ = some (Φ (some ⟨b,0,none⟩)):=HS1.out.at (g:=w.heap.size) (cs:=[Φ (some ⟨b,0,none⟩)]) (ty:=63) (by simp) rfl
   have hd:w1.cell? ⟨b,15,none⟩ = some (.bool true):=by have:=(HS1.out.ck _ rfl).1.had2; rw [hh] at this; exact this
   go_upto_region 3 with (fail)
   clear p0 hd
   go_cut [7,8] (fun mv fv wc=>∃ g7 g8 mt mx mp mn f1 f2,mv = Φ (some ⟨g7,0,none⟩) /\ fv = Φ (some ⟨g8,0,none⟩) /\ AR r1 w O b s mt mx mp mn f1 f2 (fun m=>[(g7,mnL m,109),(g8,flL (f1,f2),32),(w.heap.size + 1 + 1 + 1,flL (0,0),32),(w.heap.size + 1 + 1,exL h2 la ln lc,102),(w.heap.size + 1,exL h ka kn kc,102),(w.heap.size,[Φ (some ⟨b,0,none⟩)],63)]) wc)
   case first=>
    have hy1:EC6 b w.heap.size (w.heap.size + 1) h ka kn kc w1:=HSS.out _ _ _ _ _ HS1.out (by simp)
    have hy:EC6 b w.heap.size (w.heap.size + 1) h ka kn kc w1.drew:=hy1
    have hl1:(w.heap.size + 1) < w1.heap.size:=HS1.out.lt (g:=(w.heap.size + 1)) (cs:=exL h ka kn kc) (ty:=102) (by simp)
    go_region_held3 (fun W=>W.cell? ⟨w.heap.size + 1,0,none⟩ = some (I J h.kind) /\ W.cell? ⟨w.heap.size + 1,1,none⟩ = some (I J h.num) /\ W.cell? ⟨w.heap.size + 1,2,none⟩ = some (Ψ (bs h.text)) /\ W.cell? ⟨w.heap.size + 1,3,none⟩ = some (Γ ka kn kc) /\ W.cell? ⟨w.heap.size + 1,4,none⟩ = some (I J h.pl) /\ W.cell? ⟨w.heap.size,0,none⟩ = some (Φ (some ⟨b,0,none⟩))) (first | (with_reducible exact hy) | (with_reducible exact hyV) | (with_reducible exact (hy1.alloc _).drew) | (with_reducible exact ((hy1.alloc _).alloc _).drew) | (with_reducible exact (((hy1.alloc _).alloc _).alloc _).drew) | (with_reducible exact hyV.alloc _) | (with_reducible exact (hyV.alloc _).alloc _) | (with_reducible exact ((((hyV.put (c:=_) (by omega) 0 _).put (c:=_) (by omega) 1 _).put (c:=_) (by omega) 2 _).put (c:=_) (by omega) 3 _)) | (with_reducible exact (((((hyV.put (c:=_) (by omega) 0 _).put (c:=_) (by omega) 1 _).put (c:=_) (by omega) 2 _).put (c:=_) (by omega) 3 _).alloc _)) | (with_reducible exact ((((((hyV.put (c:=_) (by omega) 0 _).put (c:=_) (by omega) 1 _).put (c:=_) (by omega) 2 _).put (c:=_) (by omega) 3 _).put (c:=_) (by omega) 0 _).put (c:=_) (by omega) 1 _)) | (with_reducible exact (((hyV.put (c:=_) (by omega) 0 _).put (c:=_) (by omega) 1 _).alloc _))) (first
     | (go_at_call 90; (with_reducible refine (textOf_calls _ _ _ _).mono ?_); rintro e V1 ⟨rfl,rfl⟩)
     | (go_at_call 89; (with_reducible refine (HA1.out _ _ _ _ (w1.heap.size) (HS1.out.allocE (g:=w1.heap.size) [.func (.func 92) #[] #[Φ (some ⟨w.heap.size,0,none⟩)]] 41 rfl (by simp)).drew (by simp)).mono ?_); rintro e V2 ⟨mt,mx,mp,mn,f1,f2,rfl,hV⟩; obtain ⟨m,oc,O2,s2,⟨rfl,rfl,rfl,rfl⟩,hRQ,hLSC⟩:=hV.out; have hyV:EC6 b w.heap.size (w.heap.size + 1) h ka kn kc V2:=HSS.out _ _ _ _ _ hLSC (by simp); have hl2:(w.heap.size + 1) < V2.heap.size:=hLSC.lt (g:=(w.heap.size + 1)) (cs:=exL h ka kn kc) (ty:=102) (by simp))
     | (go_at_call 89; (with_reducible refine (HA1.out _ _ _ _ (w1.heap.size) ((HS1.out.allocE (g:=w1.heap.size) [.func (.func 92) #[] #[Φ (some ⟨w.heap.size,0,none⟩)]] 41 rfl (by simp)).allocE (g:=w1.heap.size + 1) [I J 0,I J 0] 32 rfl (by simp)).drew (by simp)).mono ?_); rintro e V2 ⟨mt,mx,mp,mn,f1,f2,rfl,hV⟩; obtain ⟨m,oc,O2,s2,⟨rfl,rfl,rfl,rfl⟩,hRQ,hLSCF⟩:=hV.out; have hyV:EC6 b w.heap.size (w.heap.size + 1) h ka kn kc V2:=HSS.out _ _ _ _ _ hLSCF (by simp); have hl2:(w.heap.size + 1) < V2.heap.size:=hLSCF.lt (g:=(w.heap.size + 1)) (cs:=exL h ka kn kc) (ty:=102) (by simp); obtain ⟨lr,nr,or_,r0,r1,rf,ra0,ra1,rg⟩:=hLSCF.fh (g:=w1.heap.size + 1) (by simp))
     | (go_at_call 89; (with_reducible refine (HA1.out _ _ _ _ (w1.heap.size) (((HS1.out.allocE (g:=w1.heap.size) [.func (.func 92) #[] #[Φ (some ⟨w.heap.size,0,none⟩)]] 41 rfl (by simp)).allocE (g:=w1.heap.size + 1) [I J 0,I J 0] 32 rfl (by simp)).allocE (g:=w1.heap.size + 1 + 1) [.bool false,Ψ ⟨#[]⟩,I J 0,I J 0] 109 rfl (by simp)).drew (by simp)).mono ?_); rintro e V2 ⟨mt,mx,mp,mn,f1,f2,rfl,hV⟩; obtain ⟨m,oc,O2,s2,⟨rfl,rfl,rfl,rfl⟩,hRQ,hLSCFM⟩:=hV.out; have hyV:EC6 b w.heap.size (w.heap.size + 1) h ka kn kc V2:=HSS.out _ _ _ _ _ hLSCFM (by simp); have hl2:(w.heap.size + 1) < V2.heap.size:=hLSCFM.lt (g:=(w.heap.size + 1)) (cs:=exL h ka kn kc) (ty:=102) (by simp); obtain ⟨lq,nq,oq,q0,q1,q2,q3,qf,qa0,qa1,qa2,qa3,qg⟩:=hLSCFM.mh (g:=w1.heap.size + 1 + 1) (by simp); obtain ⟨lr,nr,or_,r0,r1,rf,ra0,ra1,rg⟩:=hLSCFM.fh (g:=w1.heap.size + 1) (by simp))
     | (go_at_call 89; (with_reducible refine (HA1.out _ _ _ _ (w1.heap.size) ((HS1.out.allocE (g:=w1.heap.size) [.func (.func 92) #[] #[Φ (some ⟨w.heap.size,0,none⟩)]] 41 rfl (by simp)).allocE (g:=w1.heap.size + 1) [.bool false,Ψ ⟨#[]⟩,I J 0,I J 0] 109 rfl (by simp)).drew (by simp)).mono ?_); rintro e V2 ⟨mt,mx,mp,mn,f1,f2,rfl,hV⟩; obtain ⟨m,oc,O2,s2,⟨rfl,rfl,rfl,rfl⟩,hRQ,hLSCM⟩:=hV.out; have hyV:EC6 b w.heap.size (w.heap.size + 1) h ka kn kc V2:=HSS.out _ _ _ _ _ hLSCM (by simp); have hl2:(w.heap.size + 1) < V2.heap.size:=hLSCM.lt (g:=(w.heap.size + 1)) (cs:=exL h ka kn kc) (ty:=102) (by simp); obtain ⟨lq,nq,oq,q0,q1,q2,q3,qf,qa0,qa1,qa2,qa3,qg⟩:=hLSCM.mh (g:=w1.heap.size + 1) (by simp))
     | (go_at_call 89; (with_reducible refine (HA1.out _ _ _ _ (w1.heap.size) (((HS1.out.allocE (g:=w1.heap.size) [.func (.func 92) #[] #[Φ (some ⟨w.heap.size,0,none⟩)]] 41 rfl (by simp)).allocE (g:=w1.heap.size + 1) [.bool false,Ψ ⟨#[]⟩,I J 0,I J 0] 109 rfl (by simp)).allocE (g:=w1.heap.size + 1 + 1) [I J 0,I J 0] 32 rfl (by simp)).drew (by simp)).mono ?_); rintro e V2 ⟨mt,mx,mp,mn,f1,f2,rfl,hV⟩; obtain ⟨m,oc,O2,s2,⟨rfl,rfl,rfl,rfl⟩,hRQ,hLSCMF⟩:=hV.out; have hyV:EC6 b w.heap.size (w.heap.size + 1) h ka kn kc V2:=HSS.out _ _ _ _ _ hLSCMF (by simp); have hl2:(w.heap.size + 1) < V2.heap.size:=hLSCMF.lt (g:=(w.heap.size + 1)) (cs:=exL h ka kn kc) (ty:=102) (by simp); obtain ⟨lq,nq,oq,q0,q1,q2,q3,qf,qa0,qa1,qa2,qa3,qg⟩:=hLSCMF.mh (g:=w1.heap.size + 1) (by simp); obtain ⟨lr,nr,or_,r0,r1,rf,ra0,ra1,rg⟩:=hLSCMF.fh (g:=w1.heap.size + 1 + 1) (by simp))
     | (go_at_call 89; (with_reducible refine (HA1.out _ _ _ _ (w1.heap.size + 1) ((HS1.out.allocE (g:=w1.heap.size) [I J 0,I J 0] 32 rfl (by simp)).allocE (g:=w1.heap.size + 1) [.func (.func 92) #[] #[Φ (some ⟨w.heap.size,0,none⟩)]] 41 rfl (by simp)).drew (by simp)).mono ?_); rintro e V2 ⟨mt,mx,mp,mn,f1,f2,rfl,hV⟩; obtain ⟨m,oc,O2,s2,⟨rfl,rfl,rfl,rfl⟩,hRQ,hLSFC⟩:=hV.out; have hyV:EC6 b w.heap.size (w.heap.size + 1) h ka kn kc V2:=HSS.out _ _ _ _ _ hLSFC (by simp); have hl2:(w.heap.size + 1) < V2.heap.size:=hLSFC.lt (g:=(w.heap.size + 1)) (cs:=exL h ka kn kc) (ty:=102) (by simp); obtain ⟨lr,nr,or_,r0,r1,rf,ra0,ra1,rg⟩:=hLSFC.fh (g:=w1.heap.size) (by simp))
     | (go_at_call 89; (with_reducible refine (HA1.out _ _ _ _ (w1.heap.size + 1) (((HS1.out.allocE (g:=w1.heap.size) [I J 0,I J 0] 32 rfl (by simp)).allocE (g:=w1.heap.size + 1) [.func (.func 92) #[] #[Φ (some ⟨w.heap.size,0,none⟩)]] 41 rfl (by simp)).allocE (g:=w1.heap.size + 1 + 1) [.bool false,Ψ ⟨#[]⟩,I J 0,I J 0] 109 rfl (by simp)).drew (by simp)).mono ?_); rintro e V2 ⟨mt,mx,mp,mn,f1,f2,rfl,hV⟩; obtain ⟨m,oc,O2,s2,⟨rfl,rfl,rfl,rfl⟩,hRQ,hLSFCM⟩:=hV.out; have hyV:EC6 b w.heap.size (w.heap.size + 1) h ka kn kc V2:=HSS.out _ _ _ _ _ hLSFCM (by simp); have hl2:(w.heap.size + 1) < V2.heap.size:=hLSFCM.lt (g:=(w.heap.size + 1)) (cs:=exL h ka kn kc) (ty:=102) (by simp); obtain ⟨lq,nq,oq,q0,q1,q2,q3,qf,qa0,qa1,qa2,qa3,qg⟩:=hLSFCM.mh (g:=w1.heap.size + 1 + 1) (by simp); obtain ⟨lr,nr,or_,r0,r1,rf,ra0,ra1,rg⟩:=hLSFCM.fh (g:=w1.heap.size) (by simp))
     | (go_at_call 89; (with_reducible refine (HA1.out _ _ _ _ (w1.heap.size + 1 + 1) (((HS1.out.allocE (g:=w1.heap.size) [I J 0,I J 0] 32 rfl (by simp)).allocE (g:=w1.heap.size + 1) [.bool false,Ψ ⟨#[]⟩,I J 0,I J 0] 109 rfl (by simp)).allocE (g:=w1.heap.size + 1 + 1) [.func (.func 92) #[] #[Φ (some ⟨w.heap.size,0,none⟩)]] 41 rfl (by simp)).drew (by simp)).mono ?_); rintro e V2 ⟨mt,mx,mp,mn,f1,f2,rfl,hV⟩; obtain ⟨m,oc,O2,s2,⟨rfl,rfl,rfl,rfl⟩,hRQ,hLSFMC⟩:=hV.out; have hyV:EC6 b w.heap.size (w.heap.size + 1) h ka kn kc V2:=HSS.out _ _ _ _ _ hLSFMC (by simp); have hl2:(w.heap.size + 1) < V2.heap.size:=hLSFMC.lt (g:=(w.heap.size + 1)) (cs:=exL h ka kn kc) (ty:=102) (by simp); obtain ⟨lq,nq,oq,q0,q1,q2,q3,qf,qa0,qa1,qa2,qa3,qg⟩:=hLSFMC.mh (g:=w1.heap.size + 1) (by simp); obtain ⟨lr,nr,or_,r0,r1,rf,ra0,ra1,rg⟩:=hLSFMC.fh (g:=w1.heap.size) (by simp))
     | (go_at_call 89; (with_reducible refine (HA1.out _ _ _ _ (w1.heap.size + 1) ((HS1.out.allocE (g:=w1.heap.size) [.bool false,Ψ ⟨#[]⟩,I J 0,I J 0] 109 rfl (by simp)).allocE (g:=w1.heap.size + 1) [.func (.func 92) #[] #[Φ (some ⟨w.heap.size,0,none⟩)]] 41 rfl (by simp)).drew (by simp)).mono ?_); rintro e V2 ⟨mt,mx,mp,mn,f1,f2,rfl,hV⟩; obtain ⟨m,oc,O2,s2,⟨rfl,rfl,rfl,rfl⟩,hRQ,hLSMC⟩:=hV.out; have hyV:EC6 b w.heap.size (w.heap.size + 1) h ka kn kc V2:=HSS.out _ _ _ _ _ hLSMC (by simp); have hl2:(w.heap.size + 1) < V2.heap.size:=hLSMC.lt (g:=(w.heap.size + 1)) (cs:=exL h ka kn kc) (ty:=102) (by simp); obtain ⟨lq,nq,oq,q0,q1,q2,q3,qf,qa0,qa1,qa2,qa3,qg⟩:=hLSMC.mh (g:=w1.heap.size) (by simp))
     | (go_at_call 89; (with_reducible refine (HA1.out _ _ _ _ (w1.heap.size + 1) (((HS1.out.allocE (g:=w1.heap.size) [.bool false,Ψ ⟨#[]⟩,I J 0,I J 0] 109 rfl (by simp)).allocE (g:=w1.heap.size + 1) [.func (.func 92) #[] #[Φ (some ⟨w.heap.size,0,none⟩)]] 41 rfl (by simp)).allocE (g:=w1.heap.size + 1 + 1) [I J 0,I J 0] 32 rfl (by simp)).drew (by simp)).mono ?_); rintro e V2 ⟨mt,mx,mp,mn,f1,f2,rfl,hV⟩; obtain ⟨m,oc,O2,s2,⟨rfl,rfl,rfl,rfl⟩,hRQ,hLSMCF⟩:=hV.out; have hyV:EC6 b w.heap.size (w.heap.size + 1) h ka kn kc V2:=HSS.out _ _ _ _ _ hLSMCF (by simp); have hl2:(w.heap.size + 1) < V2.heap.size:=hLSMCF.lt (g:=(w.heap.size + 1)) (cs:=exL h ka kn kc) (ty:=102) (by simp); obtain ⟨lq,nq,oq,q0,q1,q2,q3,qf,qa0,qa1,qa2,qa3,qg⟩:=hLSMCF.mh (g:=w1.heap.size) (by simp); obtain ⟨lr,nr,or_,r0,r1,rf,ra0,ra1,rg⟩:=hLSMCF.fh (g:=w1.heap.size + 1 + 1) (by simp))
     | (go_at_call 89; (with_reducible refine (HA1.out _ _ _ _ (w1.heap.size + 1 + 1) (((HS1.out.allocE (g:=w1.heap.size) [.bool false,Ψ ⟨#[]⟩,I J 0,I J 0] 109 rfl (by simp)).allocE (g:=w1.heap.size + 1) [I J 0,I J 0] 32 rfl (by simp)).allocE (g:=w1.heap.size + 1 + 1) [.func (.func 92) #[] #[Φ (some ⟨w.heap.size,0,none⟩)]] 41 rfl (by simp)).drew (by simp)).mono ?_); rintro e V2 ⟨mt,mx,mp,mn,f1,f2,rfl,hV⟩; obtain ⟨m,oc,O2,s2,⟨rfl,rfl,rfl,rfl⟩,hRQ,hLSMFC⟩:=hV.out; have hyV:EC6 b w.heap.size (w.heap.size + 1) h ka kn kc V2:=HSS.out _ _ _ _ _ hLSMFC (by simp); have hl2:(w.heap.size + 1) < V2.heap.size:=hLSMFC.lt (g:=(w.heap.size + 1)) (cs:=exL h ka kn kc) (ty:=102) (by simp); obtain ⟨lq,nq,oq,q0,q1,q2,q3,qf,qa0,qa1,qa2,qa3,qg⟩:=hLSMFC.mh (g:=w1.heap.size) (by simp); obtain ⟨lr,nr,or_,r0,r1,rf,ra0,ra1,rg⟩:=hLSMFC.fh (g:=w1.heap.size + 1) (by simp)))
    all_goals (go_wp2_with fail; go_meet)
    all_goals (first
     | (have hf:=((((hLSMFC.front (L1:=[_,_]) rfl).store109 m rfl rfl).front (L1:=[_,_]) rfl).store32 (f0:=(0,0)) (f1,f2) rfl); refine ⟨w1.heap.size,w1.heap.size + 1,m.isText,bs m.text,m.place,m.num,f1,f2,rfl,rfl,?_⟩; unfold AR; refine ⟨m,oc,O2,s2,⟨hRQ,rfl,rfl,rfl,rfl⟩,?_⟩; have hg:=hf.sub (L':=[(w1.heap.size,mnL m,109),(w1.heap.size + 1,flL (f1,f2),32),(w.heap.size + 1 + 1 + 1,flL (0,0),32),(w.heap.size + 1 + 1,exL h2 la ln lc,102),(w.heap.size + 1,exL h ka kn kc,102),(w.heap.size,[Φ (some ⟨b,0,none⟩)],63)]) (by simp [mnL,flL]) (by have:=hf.nd; simp at this ⊢; omega); with_reducible exact hg)
     | (have hf:=((((hLSMCF.front (L1:=[_,_]) rfl).store109 m rfl rfl).front (L1:=[_]) rfl).store32 (f0:=(0,0)) (f1,f2) rfl); refine ⟨w1.heap.size,w1.heap.size + 1 + 1,m.isText,bs m.text,m.place,m.num,f1,f2,rfl,rfl,?_⟩; unfold AR; refine ⟨m,oc,O2,s2,⟨hRQ,rfl,rfl,rfl,rfl⟩,?_⟩; have hg:=hf.sub (L':=[(w1.heap.size,mnL m,109),(w1.heap.size + 1 + 1,flL (f1,f2),32),(w.heap.size + 1 + 1 + 1,flL (0,0),32),(w.heap.size + 1 + 1,exL h2 la ln lc,102),(w.heap.size + 1,exL h ka kn kc,102),(w.heap.size,[Φ (some ⟨b,0,none⟩)],63)]) (by simp [mnL,flL]) (by have:=hf.nd; simp at this ⊢; omega); with_reducible exact hg)
     | (have hf:=(((hLSMC.front (L1:=[_]) rfl).store109 m rfl rfl).allocE (g:=V2.heap.size) [I J f1,I J f2] 32 rfl (by simp)); refine ⟨w1.heap.size,V2.heap.size,m.isText,bs m.text,m.place,m.num,f1,f2,rfl,rfl,?_⟩; unfold AR; refine ⟨m,oc,O2,s2,⟨hRQ,rfl,rfl,rfl,rfl⟩,?_⟩; have hg:=hf.sub (L':=[(w1.heap.size,mnL m,109),(V2.heap.size,flL (f1,f2),32),(w.heap.size + 1 + 1 + 1,flL (0,0),32),(w.heap.size + 1 + 1,exL h2 la ln lc,102),(w.heap.size + 1,exL h ka kn kc,102),(w.heap.size,[Φ (some ⟨b,0,none⟩)],63)]) (by simp [mnL,flL]) (by have:=hf.nd; simp at this ⊢; omega); with_reducible exact hg)
     | (have hf:=((((hLSFMC.front (L1:=[_]) rfl).store109 m rfl rfl).front (L1:=[_,_]) rfl).store32 (f0:=(0,0)) (f1,f2) rfl); refine ⟨w1.heap.size + 1,w1.heap.size,m.isText,bs m.text,m.place,m.num,f1,f2,rfl,rfl,?_⟩; unfold AR; refine ⟨m,oc,O2,s2,⟨hRQ,rfl,rfl,rfl,rfl⟩,?_⟩; have hg:=hf.sub (L':=[(w1.heap.size + 1,mnL m,109),(w1.heap.size,flL (f1,f2),32),(w.heap.size + 1 + 1 + 1,flL (0,0),32),(w.heap.size + 1 + 1,exL h2 la ln lc,102),(w.heap.size + 1,exL h ka kn kc,102),(w.heap.size,[Φ (some ⟨b,0,none⟩)],63)]) (by simp [mnL,flL]) (by have:=hf.nd; simp at this ⊢; omega); with_reducible exact hg)
     | (have hf:=(((hLSFCM.store109 m rfl rfl).front (L1:=[_,_]) rfl).store32 (f0:=(0,0)) (f1,f2) rfl); refine ⟨w1.heap.size + 1 + 1,w1.heap.size,m.isText,bs m.text,m.place,m.num,f1,f2,rfl,rfl,?_⟩; unfold AR; refine ⟨m,oc,O2,s2,⟨hRQ,rfl,rfl,rfl,rfl⟩,?_⟩; have hg:=hf.sub (L':=[(w1.heap.size + 1 + 1,mnL m,109),(w1.heap.size,flL (f1,f2),32),(w.heap.size + 1 + 1 + 1,flL (0,0),32),(w.heap.size + 1 + 1,exL h2 la ln lc,102),(w.heap.size + 1,exL h ka kn kc,102),(w.heap.size,[Φ (some ⟨b,0,none⟩)],63)]) (by simp [mnL,flL]) (by have:=hf.nd; simp at this ⊢; omega); with_reducible exact hg)
     | (have hf:=(((hLSFC.front (L1:=[_]) rfl).store32 (f0:=(0,0)) (f1,f2) rfl).allocE (g:=V2.heap.size) [.bool m.isText,Ψ (bs m.text),I J m.place,I J m.num] 109 rfl (by simp)); refine ⟨V2.heap.size,w1.heap.size,m.isText,bs m.text,m.place,m.num,f1,f2,rfl,rfl,?_⟩; unfold AR; refine ⟨m,oc,O2,s2,⟨hRQ,rfl,rfl,rfl,rfl⟩,?_⟩; have hg:=hf.sub (L':=[(V2.heap.size,mnL m,109),(w1.heap.size,flL (f1,f2),32),(w.heap.size + 1 + 1 + 1,flL (0,0),32),(w.heap.size + 1 + 1,exL h2 la ln lc,102),(w.heap.size + 1,exL h ka kn kc,102),(w.heap.size,[Φ (some ⟨b,0,none⟩)],63)]) (by simp [mnL,flL]) (by have:=hf.nd; simp at this ⊢; omega); with_reducible exact hg)
     | (have hf:=((((hLSCMF.front (L1:=[_]) rfl).store109 m rfl rfl).front (L1:=[_]) rfl).store32 (f0:=(0,0)) (f1,f2) rfl); refine ⟨w1.heap.size + 1,w1.heap.size + 1 + 1,m.isText,bs m.text,m.place,m.num,f1,f2,rfl,rfl,?_⟩; unfold AR; refine ⟨m,oc,O2,s2,⟨hRQ,rfl,rfl,rfl,rfl⟩,?_⟩; have hg:=hf.sub (L':=[(w1.heap.size + 1,mnL m,109),(w1.heap.size + 1 + 1,flL (f1,f2),32),(w.heap.size + 1 + 1 + 1,flL (0,0),32),(w.heap.size + 1 + 1,exL h2 la ln lc,102),(w.heap.size + 1,exL h ka kn kc,102),(w.heap.size,[Φ (some ⟨b,0,none⟩)],63)]) (by simp [mnL,flL]) (by have:=hf.nd; simp at this ⊢; omega); with_reducible exact hg)
     | (have hf:=((hLSCM.store109 m rfl rfl).allocE (g:=V2.heap.size) [I J f1,I J f2] 32 rfl (by simp)); refine ⟨w1.heap.size + 1,V2.heap.size,m.isText,bs m.text,m.place,m.num,f1,f2,rfl,rfl,?_⟩; unfold AR; refine ⟨m,oc,O2,s2,⟨hRQ,rfl,rfl,rfl,rfl⟩,?_⟩; have hg:=hf.sub (L':=[(w1.heap.size + 1,mnL m,109),(V2.heap.size,flL (f1,f2),32),(w.heap.size + 1 + 1 + 1,flL (0,0),32),(w.heap.size + 1 + 1,exL h2 la ln lc,102),(w.heap.size + 1,exL h ka kn kc,102),(w.heap.size,[Φ (some ⟨b,0,none⟩)],63)]) (by simp [mnL,flL]) (by have:=hf.nd; simp at this ⊢; omega); with_reducible exact hg)
     | (have hf:=(((hLSCFM.store109 m rfl rfl).front (L1:=[_]) rfl).store32 (f0:=(0,0)) (f1,f2) rfl); refine ⟨w1.heap.size + 1 + 1,w1.heap.size + 1,m.isText,bs m.text,m.place,m.num,f1,f2,rfl,rfl,?_⟩; unfold AR; refine ⟨m,oc,O2,s2,⟨hRQ,rfl,rfl,rfl,rfl⟩,?_⟩; have hg:=hf.sub (L':=[(w1.heap.size + 1 + 1,mnL m,109),(w1.heap.size + 1,flL (f1,f2),32),(w.heap.size + 1 + 1 + 1,flL (0,0),32),(w.heap.size + 1 + 1,exL h2 la ln lc,102),(w.heap.size + 1,exL h ka kn kc,102),(w.heap.size,[Φ (some ⟨b,0,none⟩)],63)]) (by simp [mnL,flL]) (by have:=hf.nd; simp at this ⊢; omega); with_reducible exact hg)
     | (have hf:=((hLSCF.store32 (f0:=(0,0)) (f1,f2) rfl).allocE (g:=V2.heap.size) [.bool m.isText,Ψ (bs m.text),I J m.place,I J m.num] 109 rfl (by simp)); refine ⟨V2.heap.size,w1.heap.size + 1,m.isText,bs m.text,m.place,m.num,f1,f2,rfl,rfl,?_⟩; unfold AR; refine ⟨m,oc,O2,s2,⟨hRQ,rfl,rfl,rfl,rfl⟩,?_⟩; have hg:=hf.sub (L':=[(V2.heap.size,mnL m,109),(w1.heap.size + 1,flL (f1,f2),32),(w.heap.size + 1 + 1 + 1,flL (0,0),32),(w.heap.size + 1 + 1,exL h2 la ln lc,102),(w.heap.size + 1,exL h ka kn kc,102),(w.heap.size,[Φ (some ⟨b,0,none⟩)],63)]) (by simp [mnL,flL]) (by have:=hf.nd; simp at this ⊢; omega); with_reducible exact hg)
     | (have hf:=((hLSC.allocE (g:=V2.heap.size) [.bool m.isText,Ψ (bs m.text),I J m.place,I J m.num] 109 rfl (by simp)).allocE (g:=V2.heap.size + 1) [I J f1,I J f2] 32 rfl (by simp)); refine ⟨V2.heap.size,V2.heap.size + 1,m.isText,bs m.text,m.place,m.num,f1,f2,rfl,rfl,?_⟩; unfold AR; refine ⟨m,oc,O2,s2,⟨hRQ,rfl,rfl,rfl,rfl⟩,?_⟩; have hg:=hf.sub (L':=[(V2.heap.size,mnL m,109),(V2.heap.size + 1,flL (f1,f2),32),(w.heap.size + 1 + 1 + 1,flL (0,0),32),(w.heap.size + 1 + 1,exL h2 la ln lc,102),(w.heap.size + 1,exL h ka kn kc,102),(w.heap.size,[Φ (some ⟨b,0,none⟩)],63)]) (by simp [mnL,flL]) (by have:=hf.nd; simp at this ⊢; omega); with_reducible exact hg)
     | (have hf:=((hLSC.allocE (g:=V2.heap.size) [I J f1,I J f2] 32 rfl (by simp)).allocE (g:=V2.heap.size + 1) [.bool m.isText,Ψ (bs m.text),I J m.place,I J m.num] 109 rfl (by simp)); refine ⟨V2.heap.size + 1,V2.heap.size,m.isText,bs m.text,m.place,m.num,f1,f2,rfl,rfl,?_⟩; unfold AR; refine ⟨m,oc,O2,s2,⟨hRQ,rfl,rfl,rfl,rfl⟩,?_⟩; have hg:=hf.sub (L':=[(V2.heap.size + 1,mnL m,109),(V2.heap.size,flL (f1,f2),32),(w.heap.size + 1 + 1 + 1,flL (0,0),32),(w.heap.size + 1 + 1,exL h2 la ln lc,102),(w.heap.size + 1,exL h ka kn kc,102),(w.heap.size,[Φ (some ⟨b,0,none⟩)],63)]) (by simp [mnL,flL]) (by have:=hf.nd; simp at this ⊢; omega); with_reducible exact hg))
   case rest=>
    obtain ⟨g7,g8,mt,mx,mp,mn,f1,f2,rfl,rfl,m,oc,O2,s2,⟨hRQ,e1,e2,e3,e4⟩,hL⟩:=hcut
    clear HA1 HSS HS1
    cases r1 with
    | error f'=>
      obtain ⟨rfl,hf,-,rfl⟩:=hRQ
      have HX2:Hid (pairB c (h,k) (h2,k2) = .error (f1,f2)):=HX.out
      have HF:Hid (f1 ≠ 0):=hf
      have hq:(f1 == 0) = false:=by rw [beq_eq_false_iff_ne]; exact hf
      have HL:=hid hL
      have y0:wc.cell? ⟨g8,0,none⟩ = some (I J f1):=HL.out.at (g:=g8) (cs:=flL (f1,f2)) (ty:=32) (by simp) rfl
      have y1:wc.cell? ⟨g8,1,none⟩ = some (I J f2):=HL.out.at (g:=g8) (cs:=flL (f1,f2)) (ty:=32) (by simp) rfl
      have z0:wc.cell? ⟨w.heap.size + 1 + 1 + 1,0,none⟩ = some (I J 0):=HL.out.at (g:=w.heap.size + 1 + 1 + 1) (cs:=flL (0,0)) (ty:=32) (by simp) rfl
      have z1:wc.cell? ⟨w.heap.size + 1 + 1 + 1,1,none⟩ = some (I J 0):=HL.out.at (g:=w.heap.size + 1 + 1 + 1) (cs:=flL (0,0)) (ty:=32) (by simp) rfl
      have zf:∀ i,wc.frozen? ⟨w.heap.size + 1 + 1 + 1,i,none⟩ = false:=fun i=>HL.out.fz (g:=w.heap.size + 1 + 1 + 1) (cs:=flL (0,0)) (ty:=32) (by simp) i
      clear HX HT hf hL e1 e2 e3 e4 HSg hne hrl hsl hlen
      go_wp2
      refine bodyPost_ret (v:=flV (f1,f2)) ?_ rfl ?_
      ·simp only [results,hres]
       unfold flV
       simp only
       go_simp
      ·show TPost _ _ _ _ _ _
       rw [HX2.out]
       exact ⟨HF.out,rfl,(HL.out.fr.setCell (.inr (by omega)) _ _).setCell (.inr (by omega)) _ _⟩
    | ok xx=>
      obtain ⟨c1,m'⟩:=xx
      obtain ⟨hf,rfl,rfl⟩:=hRQ
      cases hf
      obtain ⟨hpr,hSm⟩:=HT.out _ _ rfl
      obtain ⟨x,y,htx,hcx0,hcy0⟩:=isPair_two hpr
      have HL:=hid hL
      have hck1:=(HL.out.ck _ rfl).1
      have hok1:=(HL.out.ck _ rfl).2.1
      rw [<- hSm.letters] at hcx0 hcy0 hrl hsl hlen
      rw [<- hSm.subst] at hsl
      obtain ⟨gs,cap,hsv,-⟩:=owned_some hck1.subst (by rw [hsl]; exact Nat.mul_pos (by omega) (by omega))
      obtain ⟨hi1,hi2⟩:=pair_at hcx0 hcy0
      rw [<- hsl] at hi1
      rw [<- htx] at hi1 hi2
      obtain ⟨i,hi⟩:∃ i,i = pairAt c1.letters m.text:=⟨_,rfl⟩
      rw [<- hi] at hi1 hi2
      have HX2:Hid (pairB c (h,k) (h2,k2) = if c1.subst.getD i 0 ≠ -1 then .error (90,c1.pl) else singleB (fun c2 p=>{ c2 with subst:=c2.subst.set i p }) c1 (h2,k2)):=by show _ = _; rw [HX.out,hi]; rfl
      have HC1:Hid (∀ n,Calls Tryz.prog 93 #[Φ (some ⟨b,0,none⟩),.int .u8 (x.toNat:Int)] (wc.drewN n) fun e w'=>e = Ω (I J (codeU c1.letters x)) /\ ∃ m,w' = wc.drewN m):=fun n=>Calls.quiet_of (codeC_calls c1.letters x b _ hck1.c0 (by unfold maxLen; omega))
      have HC2:Hid (∀ n,Calls Tryz.prog 93 #[Φ (some ⟨b,0,none⟩),.int .u8 (y.toNat:Int)] (wc.drewN n) fun e w'=>e = Ω (I J (codeU c1.letters y)) /\ ∃ m,w' = wc.drewN m):=fun n=>Calls.quiet_of (codeC_calls c1.letters y b _ hck1.c0 (by unfold maxLen; omega))
      obtain ⟨cx,hcx⟩:∃ cx,cx = codeU c1.letters x:=⟨_,rfl⟩
      obtain ⟨cy,hcy⟩:∃ cy,cy = codeU c1.letters y:=⟨_,rfl⟩
      have hcx2:=codeU_lt hcx0
      have hcy2:=codeU_lt hcy0
      rw [<- hcx] at HC1 hi2 hcx0 hcx2
      rw [<- hcy] at HC2 hi2 hcy0 hcy2
      obtain ⟨bt,hbt⟩:∃ bt,bt = bs m.text:=⟨_,rfl⟩
      have hsz:bt.size = 2:=by rw [hbt,htx]; rfl
      have ht0:bt[0]'(by omega) = x:=by subst hbt; simp only [htx]; rfl
      have ht1:bt[1]'(by omega) = y:=by subst hbt; simp only [htx]; rfl
      obtain ⟨bl,hbl⟩:∃ bl,bl = bs c1.letters:=⟨_,rfl⟩
      obtain ⟨ll,hll⟩:∃ ll:Int,(bl.size:Int) = ll:=⟨_,rfl⟩
      have hll2:ll = (c1.letters.length:Int):=by rw [<- hll,hbl,bs_size]
      obtain ⟨pp,hpp⟩:∃ pp:Int,pp = cx * ll:=⟨_,rfl⟩
      have hp0:0 <= pp:=by rw [hpp,hll2]; exact Int.mul_nonneg hcx0 (by omega)
      have hp1:pp <= 400:=by
       rw [hpp,hll2]
       have:=Int.mul_le_mul (show cx <= 20 by omega) (show (c1.letters.length:Int) <= 20 by omega) (by omega) (by omega)
       omega
      have hmul:wrap64 (cx * ll) = pp:=by rw [<- hpp]; unfold wrap64; omega
      obtain ⟨ii,hii⟩:∃ ii:Int,ii = pp + cy:=⟨_,rfl⟩
      have hadd:wrap64 (pp + cy) = ii:=by rw [<- hii]; unfold wrap64; omega
      have hin:(i:Int) = ii:=by rw [hii,hpp,hll2]; exact hi2
      have y0:wc.cell? ⟨g8,0,none⟩ = some (I J 0):=HL.out.at (g:=g8) (cs:=flL (0,0)) (ty:=32) (by simp) rfl
      have p0:wc.cell? ⟨w.heap.size,0,none⟩ = some (Φ (some ⟨b,0,none⟩)):=HL.out.at (g:=w.heap.size) (cs:=[Φ (some ⟨b,0,none⟩)]) (ty:=63) (by simp) rfl
      have t1:wc.cell? ⟨g7,1,none⟩ = some (.string bt):=by rw [hbt]; exact HL.out.at (g:=g7) (cs:=mnL m) (ty:=109) (by simp) rfl
      have b0:wc.cell? ⟨b,0,none⟩ = some (.string bl):=by rw [hbl]; exact hck1.c0
      have b2:wc.cell? ⟨b,2,none⟩ = some (Γ (some ⟨gs,0,none⟩) c1.subst.length cap):=by rw [<- hsv]; exact hck1.c2
      have hat:=hck1.setAt hsv hi1 0
      have v0:wc.cell? ⟨gs,i,none⟩ = some (I J (c1.subst.getD i 0)):=hat.2.1
      have hb0:0 <= ii:=by omega
      have hb1:ii < (c1.subst.length:Int):=by omega
      have htn:ii.toNat = i:=by omega
      obtain ⟨v,hv0⟩:∃ v,v = c1.subst.getD i 0:=⟨_,rfl⟩
      rw [<- hv0] at v0 HX2
      have HCK:Hid (CkAt O2 b s2 c1 wc /\ CkOk c1 /\ s2.sv = Γ (some ⟨gs,0,none⟩) c1.subst.length cap /\ i < c1.subst.length):=⟨hck1,hok1,hsv,hi1⟩
      clear hv0 hck1 hok1 hsv HX HT hL e1 e2 e3 e4 hpr hbt hbl hi htx hi2 hcx hcy hne hrl hlen hll2 hpp hii hat hsl
      obtain ⟨sn,hsn⟩:∃ sn,sn = c1.subst.length:=⟨_,rfl⟩
      rw [<- hsn] at b2 hb1 hi1
      clear hsn
      go_upto_region 6 with (fail)
      go_quiet (first | (go_at_call 93; with_reducible exact HC1.out _) | (go_at_call 93; with_reducible exact HC2.out _))
      have HLq:Hid (LS w O O2 b s s2 (some c1) [(g7,mnL m,109),(g8,flL (0,0),32),(w.heap.size + 1 + 1 + 1,flL (0,0),32),(w.heap.size + 1 + 1,exL h2 la ln lc,102),(w.heap.size + 1,exL h ka kn kc,102),(w.heap.size,[Φ (some ⟨b,0,none⟩)],63)] (wc.drewN nq)):=HL.out.next (below_dn (Below.refl _ _) nq)
      have hCK:=HCK.out.1.below (below_dn (Below.refl _ wc) nq)
      by_cases hv:v = -1
      ·subst hv
       obtain ⟨rs,hrs⟩:∃ rs,rs = singleB (fun c2 p=>{ c2 with subst:=c2.subst.set i p }) c1 (h2,k2):=⟨_,rfl⟩
       have HX3:Hid (pairB c (h,k) (h2,k2) = rs):=by show _ = _; rw [HX2.out,if_neg (by simp),hrs]
       have hcall:=HSg.out O2 s2 c1 (wc.drewN nq) gs _ cap i hCK HCK.out.2.1 HLq.out.fr HLq.out.new HCK.out.2.2.1 HCK.out.2.2.2
       rw [<- hrs] at hcall
       have hRl:=HLq.out.loc (w.heap.size + 1 + 1 + 1,flL (0,0),32) (by simp)
       obtain ⟨f1,f2,hff⟩:∃ f1 f2,faultOf rs = (f1,f2):=⟨_,_,rfl⟩
       have HS:Hid (Calls Tryz.prog 57 #[Φ (some ⟨b,0,none⟩),.agg #[I J h2.kind,I J h2.num,Ψ (bs h2.text),Γ la ln lc,I J h2.pl],Φ (some ⟨gs,i,none⟩)] (wc.drewN nq) fun e w'=>e = Ω (.agg #[I J f1,I J f2]) /\ w'.cell? ⟨w.heap.size + 1 + 1 + 1,0,none⟩ = some (I J 0) /\ w'.cell? ⟨w.heap.size + 1 + 1 + 1,1,none⟩ = some (I J 0) /\ (∀ i,w'.frozen? ⟨w.heap.size + 1 + 1 + 1,i,none⟩ = false) /\ Hid (TPost O2 b (wc.drewN nq) rs e w')):=by
        refine hcall.mono ?_
        intro e w' hp
        have hv:=hp.val
        rw [hff] at hv
        have hl:=hRl.1.fr (O':=O2) hv.2 (fun g hg=>.inl hg)
        exact ⟨hv.1,hl.cell rfl,hl.cell rfl,fun i=>hl.fz i,hp⟩
       have HFL:Hid (∀ e w' u v,TPost O2 b (wc.drewN nq) rs e w' -> TPost O b w rs e ((w'.setCell ⟨w.heap.size + 1 + 1 + 1,0,none⟩ u).setCell ⟨w.heap.size + 1 + 1 + 1,1,none⟩ v)):=fun e w' u v hp=>hp.lift HLq.out.fr HLq.out.new hRl.1.off hRl.2 hRl.1.lt u v
       have q0:wc.cell? ⟨w.heap.size + 1 + 1,0,none⟩ = some (I J h2.kind):=HL.out.at (g:=w.heap.size + 1 + 1) (cs:=exL h2 la ln lc) (ty:=102) (by simp) rfl
       have q1:wc.cell? ⟨w.heap.size + 1 + 1,1,none⟩ = some (I J h2.num):=HL.out.at (g:=w.heap.size + 1 + 1) (cs:=exL h2 la ln lc) (ty:=102) (by simp) rfl
       have q2:wc.cell? ⟨w.heap.size + 1 + 1,2,none⟩ = some (Ψ (bs h2.text)):=HL.out.at (g:=w.heap.size + 1 + 1) (cs:=exL h2 la ln lc) (ty:=102) (by simp) rfl
       have q3:wc.cell? ⟨w.heap.size + 1 + 1,3,none⟩ = some (Γ la ln lc):=HL.out.at (g:=w.heap.size + 1 + 1) (cs:=exL h2 la ln lc) (ty:=102) (by simp) rfl
       have q4:wc.cell? ⟨w.heap.size + 1 + 1,4,none⟩ = some (I J h2.pl):=HL.out.at (g:=w.heap.size + 1 + 1) (cs:=exL h2 la ln lc) (ty:=102) (by simp) rfl
       clear hcall hRl hrs hCK HLq HL HSg HCK HX2 hff hSm
       go_wp2_with (go_at_call 57; refine HS.out.mono ?_; rintro e w' ⟨rfl,z0,z1,zf,HF⟩)
       refine bodyPost_ret (v:=flV (f1,f2)) ?_ rfl ?_
       ·simp only [results,hres]
        unfold flV
        simp only
        go_simp
       ·show TPost _ _ _ _ _ _
        rw [HX3.out]
        exact HFL.out _ _ _ _ HF.out
      ·have hvq:(v == -1) = false:=by rw [beq_eq_false_iff_ne]; exact hv
       have HX3:Hid (pairB c (h,k) (h2,k2) = .error (90,c1.pl)):=by show _ = _; rw [HX2.out,if_pos hv]
       have HW:Hid (Calls Tryz.prog 49 #[Φ (some ⟨b,0,none⟩),I J 90] (wc.drewN nq) fun e w'=>e = Ω (.agg #[I J 90,I J c1.pl]) /\ w'.cell? ⟨w.heap.size + 1 + 1 + 1,0,none⟩ = some (I J 0) /\ w'.cell? ⟨w.heap.size + 1 + 1 + 1,1,none⟩ = some (I J 0) /\ (∀ i,w'.frozen? ⟨w.heap.size + 1 + 1 + 1,i,none⟩ = false) /\ Hid (Fr O w w')):=by
        refine (wrongC_calls 90 (wc.drewN nq) hCK).mono ?_
        rintro e w' ⟨rfl,hb⟩
        have HL2:Hid (LS w O O2 b s s2 (some c1) [(g7,mnL m,109),(g8,flL (0,0),32),(w.heap.size + 1 + 1 + 1,flL (0,0),32),(w.heap.size + 1 + 1,exL h2 la ln lc,102),(w.heap.size + 1,exL h ka kn kc,102),(w.heap.size,[Φ (some ⟨b,0,none⟩)],63)] w'):=HLq.out.next hb
        exact ⟨rfl,HL2.out.at (g:=w.heap.size + 1 + 1 + 1) (cs:=flL (0,0)) (ty:=32) (by simp) rfl,HL2.out.at (g:=w.heap.size + 1 + 1 + 1) (cs:=flL (0,0)) (ty:=32) (by simp) rfl,fun i=>HL2.out.fz (g:=w.heap.size + 1 + 1 + 1) (cs:=flL (0,0)) (ty:=32) (by simp) i,HL2.out.fr⟩
       clear hv hCK HLq HL HSg HCK HX2 hSm
       go_wp2_with (go_at_call 49; refine HW.out.mono ?_; rintro e w' ⟨rfl,z0,z1,zf,HF⟩)
       refine bodyPost_ret (v:=flV (90,c1.pl)) ?_ rfl ?_
       ·simp only [results,hres]
        unfold flV
        simp only
        go_simp
       ·show TPost _ _ _ _ _ _
        rw [HX3.out]
        exact ⟨by simp,rfl,(HF.out.setCell (.inr (by omega)) _ _).setCell (.inr (by omega)) _ _⟩
open Go.Value renaming int->I,pointer->Φ,slice->Γ
set_option maxRecDepth 20000
set_option maxHeartbeats 4000000
theorem fillGo_get (n:Nat) (mat mis:Int):∀ (l:List Int) (k j:Nat),(fillGo n mat mis k l)[j]? = l[j]?.map (fun p=>if p ≠ -1 then p else if (k + j) / n = (k + j) % n then mat else mis)
 | [],k,j=>by simp [fillGo]
 | p :: r,k,0=>by simp [fillGo]
 | p :: r,k,j + 1=>by
   simp only [fillGo,List.getElem?_cons_succ]
   rw [fillGo_get n mat mis r (k + 1) j,show k + 1 + j = k + (j + 1) by omega]
theorem fillGo_len (n:Nat) (mat mis:Int):∀ (l:List Int) (k:Nat),(fillGo n mat mis k l).length = l.length
 | [],k=>by simp [fillGo]
 | p :: r,k=>by simp [fillGo,fillGo_len n mat mis r (k + 1)]
theorem fillB_len (c:Ck):(fillB c).length = c.subst.length:=fillGo_len _ _ _ _ _
theorem fillB_get (c:Ck) (j:Nat) (p:Int) (h:c.subst[j]? = some p):(fillB c)[j]? = some (if p ≠ -1 then p else if j / c.letters.length = j % c.letters.length then c.mat else c.mis):=by
 unfold fillB
 rw [fillGo_get,h,Nat.zero_add]; rfl
theorem wrap_few {k:Nat} (h:k <= 400):wrap64 (k:Int) = (k:Int):=by unfold wrap64; omega
def fillTo (c:Ck) (j:Nat):List Int:=(fillB c).take j ++ c.subst.drop j
theorem fillTo_len (c:Ck) (j:Nat):(fillTo c j).length = c.subst.length:=by
 have:=fillB_len c
 simp [fillTo]; omega
theorem fillTo_zero (c:Ck):fillTo c 0 = c.subst:=by simp [fillTo]
theorem fillTo_all (c:Ck) (j:Nat) (h:c.subst.length <= j):fillTo c j = fillB c:=by
 unfold fillTo
 rw [List.take_of_length_le (by rw [fillB_len]; exact h),List.drop_eq_nil_of_le h,List.append_nil]
theorem fillTo_get (c:Ck) (j:Nat) (p:Int) (h:c.subst[j]? = some p):(fillTo c j)[j]? = some p:=by
 have hj:=(List.getElem?_eq_some_iff.1 h).1
 have hl:((fillB c).take j).length = j:=by rw [List.length_take,fillB_len]; omega
 unfold fillTo
 rw [List.getElem?_append_right (by omega),hl,Nat.sub_self,List.getElem?_drop]
 exact h
theorem fillTo_set (c:Ck) (j:Nat) (p x:Int) (h:c.subst[j]? = some p) (hx:(fillB c)[j]? = some x):(fillTo c j).set j x = fillTo c (j + 1):=by
 have hj:=(List.getElem?_eq_some_iff.1 h).1
 have hl:((fillB c).take j).length = j:=by rw [List.length_take,fillB_len]; omega
 unfold fillTo
 rw [List.set_append,if_neg (by omega),hl,Nat.sub_self,List.drop_eq_getElem_cons hj,List.set_cons_zero,List.take_add_one,hx]
 simp
theorem fillTo_keep (c:Ck) (j:Nat) (p:Int) (h:c.subst[j]? = some p) (hp:p ≠ -1):fillTo c (j + 1) = fillTo c j:=by
 have hx:=fillB_get c j p h
 rw [if_pos hp] at hx
 rw [<- fillTo_set c j p p h hx]
 have hg:=fillTo_get c j p h
 obtain ⟨h1,h2⟩:=List.getElem?_eq_some_iff.1 hg
 rw [<- h2,List.set_getElem_self]
theorem score_calls {O:Nat -> Prop} {b:Nat} {s:Sl} {c:Ck} (w:World) (hck:CkAt O b s c w) (hok:CkOk c) (hne:c.letters ≠ []) :
 Calls Tryz.prog 58 #[Φ (some ⟨b,0,none⟩)] w fun e w'=>e = Ω (.bool (decide (-1 ∉ fillB c))) /\ Hid (Fr O w w' /\ CkAt O b s { c with subst:=fillB c } w'):=by
 obtain ⟨hrl,hsl⟩:=hok.alpha hne
 have hlen:=right_few hrl
 obtain ⟨g,cap,hsv,-⟩:=owned_some hck.subst (by rw [hsl]; exact Nat.mul_pos (by omega) (by omega))
 obtain ⟨n,hn⟩:∃ n,n = c.subst.length:=⟨_,rfl⟩
 rw [<- hn] at hsv
 obtain ⟨bl,hbl⟩:∃ bl,bl = bs c.letters:=⟨_,rfl⟩
 have hbz:bl.size = c.letters.length:=by rw [hbl,bs_size]
 have hb2:2 <= bl.size:=by omega
 have hb20:bl.size <= 20:=by omega
 have hn4:n <= 400:=by rw [hn]; exact hok.sub
 have b0:w.cell? ⟨b,0,none⟩ = some (.string bl):=by rw [hbl]; exact hck.c0
 have b2:w.cell? ⟨b,2,none⟩ = some (Γ (some ⟨g,0,none⟩) n cap):=by rw [<- hsv]; exact hck.c2
 have HI:Hid (Fr O w w /\ CkAt O b s { c with subst:=fillTo c 0 } w):=⟨Fr.refl _ _,by rw [fillTo_zero]; exact hck⟩
 have HV:Hid (s.sv = Γ (some ⟨g,0,none⟩) n cap /\ n = c.subst.length /\ bl.size = c.letters.length):=⟨hsv,hn,hbz⟩
 clear hrl hsl hlen hsv hn hbl hbz hok hck
 go_enter Tryz.func58,Tryz.ntmps58
 go_wp2
 go_loopw [18] (fun iv wr=>∃ j:Nat,j <= n /\ iv = I J j /\ Hid (Fr O w wr /\ CkAt O b s { c with subst:=fillTo c j } wr)) (fun iv _=>n - (intOf iv).toNat)
 case atStart=>exact ⟨0,Nat.zero_le _,rfl,HI.out⟩
 case round=>
  clear HI b0 b2
  obtain ⟨j,hj,rfl,HJ⟩:=hrel
  by_cases hlt:j < n
  ·obtain ⟨p,hp⟩:∃ p,c.subst[j]? = some p:=⟨c.subst[j]'(by rw [<- HV.out.2.1]; exact hlt),List.getElem?_eq_getElem _⟩
   have HP:Hid (c.subst[j]? = some p):=hp
   have hset:=fun x=>HJ.out.2.setAt HV.out.1 (show j < (fillTo c j).length by rw [fillTo_len,<- HV.out.2.1]; exact hlt) x
   have hcell:wr.cell? ⟨g,j,none⟩ = some (I J p):=by
    have:=(hset 0).2.1
    rw [show (fillTo c j).getD j 0 = p by rw [List.getD,fillTo_get c j p hp]; rfl] at this
    exact this
   by_cases hp1:p = -1
   ·subst hp1
    have HX:Hid ((fillB c)[j]? = some (if j / c.letters.length = j % c.letters.length then c.mat else c.mis)):=by
     have:=fillB_get c j (-1) hp
     rw [if_neg (by simp)] at this; exact this
    by_cases hd:j / bl.size = j % bl.size
    ·have HQ:Hid ((wrap64 ((j:Int) / (bl.size:Int)) == (j:Int) % (bl.size:Int)) = true):=by
      show _ = _
      have e1:(j:Int) / (bl.size:Int) = ((j / bl.size:Nat):Int):=by simp
      have e2:(j:Int) % (bl.size:Int) = ((j % bl.size:Nat):Int):=by simp
      have e3:j / bl.size <= j:=Nat.div_le_self _ _
      have e4:wrap64 ((j / bl.size:Nat):Int) = ((j / bl.size:Nat):Int):=wrap_few (Nat.le_trans e3 (by omega))
      rw [e1,e2,e4]
      rw [hd]; simp
     go_wp2_with fail
     go_quiet (fail)
     rw [HQ.out]
     have HDn:Hid (Fr O w (wr.drewN nq).drew /\ CkAt O b s { c with subst:=fillTo c j } (wr.drewN nq).drew):=⟨(HJ.out.1.then_below (below_dn (Below.refl _ _) nq)).drew,(HJ.out.2.below (below_dn (Below.refl _ _) nq)).below (Below.refl _ _).drew⟩
     have HS0:Hid ((wr.drewN nq).drew.cell? ⟨b,2,none⟩ = some (Γ (some ⟨g,0,none⟩) n cap) /\ (wr.drewN nq).drew.cell? ⟨b,25,none⟩ = some (I J c.mat)):=⟨by rw [<- HV.out.1]; exact HDn.out.2.c2,HDn.out.2.c25⟩
     have hset':=HDn.out.2.setAt HV.out.1 (show j < (fillTo c j).length by rw [fillTo_len,<- HV.out.2.1]; exact hlt) c.mat
     rw [show ({ c with subst:=fillTo c j }:Ck).subst.set j c.mat = fillTo c (j + 1) from fillTo_set c j (-1) c.mat HP.out (by have:=HX.out; rw [<- HV.out.2.2] at this; rw [this,if_pos hd])] at hset'
     have HSE:Hid _:=hset'
     clear hset' hset hcell HJ HQ hp HX hd
     go_wp2_with fail
     refine wp_region_Y (fun j=>[11].contains j) (fun W=>W.cell? ⟨b,2,none⟩ = some (Γ (some ⟨g,0,none⟩) n cap) /\ W.cell? ⟨b,25,none⟩ = some (I J c.mat)) (by kernel_rfl) ?_
     refine tkL (i:=0) 32 (v:=Φ (some ⟨b,0,none⟩)) rfl rfl HS0.out (fun W hW=>by obtain ⟨_,_⟩:=hW; go_simp) ?_
     simp only [Act.put,lA,lB,lC]
     refine tkL (i:=1) 33 (v:=Φ (some ⟨b,0,none⟩)) rfl rfl HS0.out (fun W hW=>by obtain ⟨_,_⟩:=hW; go_simp) ?_
     simp only [Act.put,lA,lB,lC]
     refine tkL (i:=2) 34 (v:=Φ (some ⟨b,0,none⟩)) rfl rfl HS0.out (fun W hW=>by obtain ⟨_,_⟩:=hW; go_simp) ?_
     simp only [Act.put,lA,lB,lC]
     refine tkL (i:=3) 35 (v:=Φ (some ⟨b,2,none⟩)) rfl rfl HS0.out (fun W hW=>by obtain ⟨_,_⟩:=hW; go_simp) ?_
     simp only [Act.put,lA,lB,lC]
     refine tkL (i:=4) 36 (v:=Γ (some ⟨g,0,none⟩) n cap) rfl rfl HS0.out (fun W hW=>by obtain ⟨_,_⟩:=hW; go_simp) ?_
     simp only [Act.put,lA,lB,lC]
     refine tkL (i:=5) 37 (v:=I J (j:Int)) rfl rfl HS0.out (fun W hW=>by obtain ⟨_,_⟩:=hW; go_simp) ?_
     simp only [Act.put,lA,lB,lC]
     refine tkL (i:=6) 38 (v:=Φ (some ⟨b,0,none⟩)) rfl rfl HS0.out (fun W hW=>by obtain ⟨_,_⟩:=hW; go_simp) ?_
     simp only [Act.put,lA,lB,lC]
     refine tkL (i:=7) 39 (v:=Φ (some ⟨b,0,none⟩)) rfl rfl HS0.out (fun W hW=>by obtain ⟨_,_⟩:=hW; go_simp) ?_
     simp only [Act.put,lA,lB,lC]
     refine tkL (i:=8) 40 (v:=Φ (some ⟨b,25,none⟩)) rfl rfl HS0.out (fun W hW=>by obtain ⟨_,_⟩:=hW; go_simp) ?_
     simp only [Act.put,lA,lB,lC]
     refine tkL (i:=9) 41 (v:=I J c.mat) rfl rfl HS0.out (fun W hW=>by obtain ⟨_,_⟩:=hW; go_simp) ?_
     simp only [Act.put,lA,lB,lC]
     refine tkL (i:=10) 42 (v:=Φ (some ⟨g,j,none⟩)) rfl rfl HS0.out (fun W hW=>by obtain ⟨_,_⟩:=hW; go_simp) ?_
     simp only [Act.put,lA,lB,lC]
     refine wpAnyY_one (i:=11) rfl (by kernel_rfl) (fun K hK=>?_)
     refine storeI_step rfl rfl rfl rfl rfl HSE.out.2.1 HSE.out.2.2.1 ?_
     intro V hV
     have HV2:Hid (Fr O w V /\ CkAt O b s { c with subst:=fillTo c (j + 1) } V):=by rw [hV]; exact ⟨HDn.out.1.setCell (.inl HSE.out.1) _ _,HSE.out.2.2.2⟩
     refine hK.out _ _ (fun hh=>absurd hh (by decide)) ?_
     clear hK K HDn HS0 HSE hV
     refine wpAnyY_done (by kernel_rfl) ?_ _
     go_wp2
     go_round
     case rel=>exact ⟨j + 1,by omega,by go_num,HV2.out⟩
     case measure=>simp [intOf]; omega
    ·have HQ:Hid ((wrap64 ((j:Int) / (bl.size:Int)) == (j:Int) % (bl.size:Int)) = false):=by
      show _ = _
      have e1:(j:Int) / (bl.size:Int) = ((j / bl.size:Nat):Int):=by simp
      have e2:(j:Int) % (bl.size:Int) = ((j % bl.size:Nat):Int):=by simp
      have e3:j / bl.size <= j:=Nat.div_le_self _ _
      have e4:wrap64 ((j / bl.size:Nat):Int) = ((j / bl.size:Nat):Int):=wrap_few (Nat.le_trans e3 (by omega))
      rw [e1,e2,e4]
      rw [beq_eq_false_iff_ne]; intro h; exact hd (by exact_mod_cast h)
     go_wp2_with fail
     go_quiet (fail)
     rw [HQ.out]
     have HDn:Hid (Fr O w (wr.drewN nq).drew /\ CkAt O b s { c with subst:=fillTo c j } (wr.drewN nq).drew):=⟨(HJ.out.1.then_below (below_dn (Below.refl _ _) nq)).drew,(HJ.out.2.below (below_dn (Below.refl _ _) nq)).below (Below.refl _ _).drew⟩
     have HS0:Hid ((wr.drewN nq).drew.cell? ⟨b,2,none⟩ = some (Γ (some ⟨g,0,none⟩) n cap) /\ (wr.drewN nq).drew.cell? ⟨b,26,none⟩ = some (I J c.mis)):=⟨by rw [<- HV.out.1]; exact HDn.out.2.c2,HDn.out.2.c26⟩
     have hset':=HDn.out.2.setAt HV.out.1 (show j < (fillTo c j).length by rw [fillTo_len,<- HV.out.2.1]; exact hlt) c.mis
     rw [show ({ c with subst:=fillTo c j }:Ck).subst.set j c.mis = fillTo c (j + 1) from fillTo_set c j (-1) c.mis HP.out (by have:=HX.out; rw [<- HV.out.2.2] at this; rw [this,if_neg hd])] at hset'
     have HSE:Hid _:=hset'
     clear hset' hset hcell HJ HQ hp HX hd
     go_wp2_with fail
     refine wp_region_Y (fun j=>[11].contains j) (fun W=>W.cell? ⟨b,2,none⟩ = some (Γ (some ⟨g,0,none⟩) n cap) /\ W.cell? ⟨b,26,none⟩ = some (I J c.mis)) (by kernel_rfl) ?_
     refine tkL (i:=0) 43 (v:=Φ (some ⟨b,0,none⟩)) rfl rfl HS0.out (fun W hW=>by obtain ⟨_,_⟩:=hW; go_simp) ?_
     simp only [Act.put,lA,lB,lC]
     refine tkL (i:=1) 44 (v:=Φ (some ⟨b,0,none⟩)) rfl rfl HS0.out (fun W hW=>by obtain ⟨_,_⟩:=hW; go_simp) ?_
     simp only [Act.put,lA,lB,lC]
     refine tkL (i:=2) 45 (v:=Φ (some ⟨b,0,none⟩)) rfl rfl HS0.out (fun W hW=>by obtain ⟨_,_⟩:=hW; go_simp) ?_
     simp only [Act.put,lA,lB,lC]
     refine tkL (i:=3) 46 (v:=Φ (some ⟨b,2,none⟩)) rfl rfl HS0.out (fun W hW=>by obtain ⟨_,_⟩:=hW; go_simp) ?_
     simp only [Act.put,lA,lB,lC]
     refine tkL (i:=4) 47 (v:=Γ (some ⟨g,0,none⟩) n cap) rfl rfl HS0.out (fun W hW=>by obtain ⟨_,_⟩:=hW; go_simp) ?_
     simp only [Act.put,lA,lB,lC]
     refine tkL (i:=5) 48 (v:=I J (j:Int)) rfl rfl HS0.out (fun W hW=>by obtain ⟨_,_⟩:=hW; go_simp) ?_
     simp only [Act.put,lA,lB,lC]
     refine tkL (i:=6) 49 (v:=Φ (some ⟨b,0,none⟩)) rfl rfl HS0.out (fun W hW=>by obtain ⟨_,_⟩:=hW; go_simp) ?_
     simp only [Act.put,lA,lB,lC]
     refine tkL (i:=7) 50 (v:=Φ (some ⟨b,0,none⟩)) rfl rfl HS0.out (fun W hW=>by obtain ⟨_,_⟩:=hW; go_simp) ?_
     simp only [Act.put,lA,lB,lC]
     refine tkL (i:=8) 51 (v:=Φ (some ⟨b,26,none⟩)) rfl rfl HS0.out (fun W hW=>by obtain ⟨_,_⟩:=hW; go_simp) ?_
     simp only [Act.put,lA,lB,lC]
     refine tkL (i:=9) 52 (v:=I J c.mis) rfl rfl HS0.out (fun W hW=>by obtain ⟨_,_⟩:=hW; go_simp) ?_
     simp only [Act.put,lA,lB,lC]
     refine tkL (i:=10) 53 (v:=Φ (some ⟨g,j,none⟩)) rfl rfl HS0.out (fun W hW=>by obtain ⟨_,_⟩:=hW; go_simp) ?_
     simp only [Act.put,lA,lB,lC]
     refine wpAnyY_one (i:=11) rfl (by kernel_rfl) (fun K hK=>?_)
     refine storeI_step rfl rfl rfl rfl rfl HSE.out.2.1 HSE.out.2.2.1 ?_
     intro V hV
     have HV2:Hid (Fr O w V /\ CkAt O b s { c with subst:=fillTo c (j + 1) } V):=by rw [hV]; exact ⟨HDn.out.1.setCell (.inl HSE.out.1) _ _,HSE.out.2.2.2⟩
     refine hK.out _ _ (fun hh=>absurd hh (by decide)) ?_
     clear hK K HDn HS0 HSE hV
     refine wpAnyY_done (by kernel_rfl) ?_ _
     go_wp2
     go_round
     case rel=>exact ⟨j + 1,by omega,by go_num,HV2.out⟩
     case measure=>simp [intOf]; omega
   ·have hq:(p == -1) = false:=by rw [beq_eq_false_iff_ne]; exact hp1
    have HQ:Hid (p ≠ -1):=hp1
    clear hp1 hset hp
    go_wp2
    go_round
    case rel=>exact ⟨j + 1,by omega,by go_num,HJ.out.1,by rw [fillTo_keep c j p HP.out HQ.out]; exact HJ.out.2⟩
    case measure=>simp [intOf]; omega
  ·have hjn:j = n:=by omega
   have HE:Hid (Fr O w wr /\ CkAt O b s { c with subst:=fillB c } wr):=⟨HJ.out.1,by have:=HJ.out.2; rw [fillTo_all c j (by rw [<- HV.out.2.1]; omega)] at this; exact this⟩
   have HCn:Hid (Calls Tryz.prog 96 #[Γ (some ⟨g,0,none⟩) n cap,I J (-1)] wr fun e w'=>e = Ω (.bool (decide (-1 ∈ fillB c))) /\ w' = wr):=by
    refine contains_calls (fillB c) (-1) g cap n wr (by rw [fillB_len]; exact HV.out.2.1.symm) hn4 (fun j z hz=>?_)
    have hrow:=HE.out.2.subst
    rw [HV.out.1] at hrow
    have hl:(fillB c).length = n:=by rw [fillB_len]; exact HV.out.2.1.symm
    simp only at hrow
    rw [hl] at hrow
    exact (owned_cells hrow j _ (by simp [itRow,hz])).1
   have b2:wr.cell? ⟨b,2,none⟩ = some (Γ (some ⟨g,0,none⟩) n cap):=by rw [<- HV.out.1]; exact HE.out.2.c2
   clear HJ HV
   go_wp2_with (go_at_call 96; refine HCn.out.mono ?_; rintro e w' ⟨rfl,rfl⟩)
   go_ret
   exact ⟨by show Ending.returned (.bool (!decide (-1 ∈ fillB c))) = _; rw [decide_not],HE.out⟩
end Go.Proofs.YtlaodgdlkkmmeaaGreat
