/-
  EvalPrefix: of every recurrence, any two sequences, any state and any cell: what the state has there hangs on the letters up to it alone. No conditions.
-/
import Derived.Test.YtbbbnopganhebabGreatRows
import Derived.WalkKit
import Derived.ProofKit
import Derived.OpenShut
import Derived.ShutString
import Derived.ChangeOld
import Derived.Below
import Derived.Deep.RegionHeld3
import Derived.Test.YtbbbnopganhebabGreatG39
import Derived.Test.YtbbbnopganhebabGreatEaA
import Derived.Test.YtbbbnopganhebabGreatRoO
namespace Go.Proofs.YtbbbnopganhebabGreat
open Go.RowKit Go.Deep Go.Maps
open Go.Value renaming int->I
open Go.IntKind renaming i64->J
set_option maxRecDepth 100000
set_option maxHeartbeats 8000000
theorem ints_in {H:Type} {enc:TypeId × Value -> H} {W:World} {v:Value} {d:DataW H} {p:List MemPlace} (h:DataW.Trod enc Tryz.prog W 0 (fun _=>true) true 23 v d p) (hw:∀ n ∈ d.weights Tryz.prog 23,n <= reachBytes) :
 ∃ ao len cap l,v.cells.toList = [.slice ao len cap] /\ IntA W ao len l:=by
 obtain ⟨fuel,hf⟩:=h
 exact open_int23 hf hw
theorem slice_cap {H:Type} {enc:TypeId × Value -> H} {W:World} {ao:Option Addr} {n c:Nat} {d:DataW H} {p:List MemPlace} (h:DataW.Trod enc Tryz.prog W 0 (fun _=>true) true 23 (.slice ao n c) d p):n <= c:=by
 obtain ⟨fuel,hf⟩:=h
 rcases DataW.trod_slice Tryz.underlying23 hf with ⟨e,_⟩ | ⟨a,len',cap',_,_,_,_,e,_,_,hl,_⟩
 ·simp [Value.cells] at e; omega
 ·simp [Value.cells] at e; omega
theorem rb_cells {w W:World} {r:Rc} {d s t:Sq} (h:Rb w #[I J r.letters,.slice d.a d.n d.c,.slice s.a s.n s.c,I J r.beg,I J r.fin,I J r.front,I J r.back,.bool r.banded,I J r.lo,I J r.hi,.slice t.a t.n t.c] W):W.cell? ⟨w.heap.size,0,none⟩ = some (I J r.letters) /\ W.cell? ⟨w.heap.size,1,none⟩ = some (.slice d.a d.n d.c) /\ W.cell? ⟨w.heap.size,2,none⟩ = some (.slice s.a s.n s.c) /\ W.cell? ⟨w.heap.size,3,none⟩ = some (I J r.beg) /\ W.cell? ⟨w.heap.size,4,none⟩ = some (I J r.fin) /\ W.cell? ⟨w.heap.size,5,none⟩ = some (I J r.front) /\ W.cell? ⟨w.heap.size,6,none⟩ = some (I J r.back) /\ W.cell? ⟨w.heap.size,7,none⟩ = some (.bool r.banded) /\ W.cell? ⟨w.heap.size,8,none⟩ = some (I J r.lo) /\ W.cell? ⟨w.heap.size,9,none⟩ = some (I J r.hi) /\ W.cell? ⟨w.heap.size,10,none⟩ = some (.slice t.a t.n t.c):=
 ⟨blk h.box rfl,blk h.box rfl,blk h.box rfl,blk h.box rfl,blk h.box rfl,blk h.box rfl,blk h.box rfl,blk h.box rfl,blk h.box rfl,blk h.box rfl,blk h.box rfl⟩
theorem prefix_walk (r:Rc) (d s t x y:Sq) (xs ys:List Int) (st ci cj:Int) (w:World) (hr:RcAt w r d.a d.n s.a s.n t.a t.n) (hx:IntA w x.a x.n xs) (hy:IntA w y.a y.n ys) (hxc:x.n <= x.c) (hyc:y.n <= y.c) :
 Calls Tryz.prog 3 #[.agg (rcCells r d.a d.n d.c s.a s.n s.c t.a t.n t.c),.slice x.a x.n x.c,.slice y.a y.n y.c,I J st,I J ci,I J cj] w fun e w'=>e = .returned (.bool true) /\ Below w.heap.size w w':=by
 have HC1:Hid (∀ W,Below w.heap.size w W -> Calls Tryz.prog 8 #[.agg #[I J r.letters,.slice d.a d.n d.c,.slice s.a s.n s.c,I J r.beg,I J r.fin,I J r.front,I J r.back,.bool r.banded,I J r.lo,I J r.hi,.slice t.a t.n t.c],.slice x.a x.n x.c,.slice y.a y.n y.c,I J st,I J ci,I J cj] W fun e w'=>e = .returned (vaV (valueE r xs ys st ci cj)) /\ Below W.heap.size W w'):=fun W hW=>valueX_calls r d s t x y xs ys st ci cj W (hr.below hW) (hx.below hW) (hy.below hW) hxc hyc
 have HC2:Hid (∀ (i j:Nat) W,i <= x.n -> j <= y.n -> Below w.heap.size w W -> Calls Tryz.prog 8 #[.agg #[I J r.letters,.slice d.a d.n d.c,.slice s.a s.n s.c,I J r.beg,I J r.fin,I J r.front,I J r.back,.bool r.banded,I J r.lo,I J r.hi,.slice t.a t.n t.c],.slice x.a i x.c,.slice y.a j y.c,I J st,I J (i:Int),I J (j:Int)] W fun e w'=>e = .returned (vaV (valueE r (xs.take i) (ys.take j) st i j)) /\ Below W.heap.size W w'):=fun i j W hi hj hW=>valueX_calls r d s t ⟨x.a,i,x.c⟩ ⟨y.a,j,y.c⟩ (xs.take i) (ys.take j) st i j W (hr.below hW) ((hx.below hW).take hi) ((hy.below hW).take hj) (Nat.le_trans hi hxc) (Nat.le_trans hj hyc)
 have HR0:Hid (Rb w #[I J r.letters,.slice d.a d.n d.c,.slice s.a s.n s.c,I J r.beg,I J r.fin,I J r.front,I J r.back,.bool r.banded,I J r.lo,I J r.hi,.slice t.a t.n t.c] (w.alloc (.cells #[I J r.letters,.slice d.a d.n d.c,.slice s.a s.n s.c,I J r.beg,I J r.fin,I J r.front,I J r.back,.bool r.banded,I J r.lo,I J r.hi,.slice t.a t.n t.c] 26))):=Rb.start w _
 have HP:Hid (∀ (i j:Nat) n b,i <= x.n -> j <= y.n -> valueE r xs ys st i j = (n,b,0) -> valueE r (xs.take i) (ys.take j) st i j = (n,b,0)):=fun i j n b h1 h2 h=>by
  have:=prefix_plain h (by rw [hx.length]; omega) (by rw [hy.length]; omega) (by omega) (by omega)
  simpa using this
 have hxs:(x.n:Int) <= 9223372036854775807:=by have:=hx.short; unfold maxLen at this; omega
 have hys:(y.n:Int) <= 9223372036854775807:=by have:=hy.short; unfold maxLen at this; omega
 clear hr hx hy
 unfold rcCells
 go_enter Tryz.func3,Tryz.ntmps3
 go_wp2_with fail
 refine (awakeE_calls _).mono ?_
 rintro e w1 ⟨rfl,hb1⟩
 have HX1:Hid (Rb w #[I J r.letters,.slice d.a d.n d.c,.slice s.a s.n s.c,I J r.beg,I J r.fin,I J r.front,I J r.back,.bool r.banded,I J r.lo,I J r.hi,.slice t.a t.n t.c] w1):=HR0.out.next hb1
 clear hb1 HR0
 obtain ⟨c0,c1,c2,c3,c4,c5,c6,c7,c8,c9,c10⟩:=rb_cells HX1.out
 have hl1:=lt_block HX1.out.box
 go_wp2_with fail
 refine (HC1.out _ HX1.out.low).mono ?_
 rintro e w2 ⟨rfl,hb2⟩
 have HX2:Hid (Rb w #[I J r.letters,.slice d.a d.n d.c,.slice s.a s.n s.c,I J r.beg,I J r.fin,I J r.front,I J r.back,.bool r.banded,I J r.lo,I J r.hi,.slice t.a t.n t.c] w2):=HX1.out.next hb2
 clear hb2 HX1 HC1 c0 c1 c2 c3 c4 c5 c6 c7 c8 c9 c10 hl1
 have hl2:=lt_block HX2.out.box
 unfold vaV at HC2 ⊢
 obtain ⟨⟨n,b,er⟩,hS⟩:∃ q,valueE r xs ys st ci cj = q:=⟨_,rfl⟩
 have HS:Hid (valueE r xs ys st ci cj = (n,b,er)):=hS
 rw [hS]
 clear hS
 simp only
 by_cases g0:¬ er = 0
 ·have k0:(er != 0) = true:=by simpa using g0
  go_wp2
  go_ret
  exact ⟨rfl,HX2.out.low⟩
 replace g0:=Decidable.not_not.1 g0
 subst g0
 have k0:((0:Int) != 0) = false:=rfl
 by_cases g1:ci < 0
 ·have k1:decide (ci < 0) = true:=by simpa using g1
  go_wp2
  go_ret
  exact ⟨rfl,HX2.out.low⟩
 have k1:decide (ci < 0) = false:=by simpa using g1
 by_cases g2:(x.n:Int) < ci
 ·have k2:decide ((x.n:Int) < ci) = true:=by simpa using g2
  go_wp2
  go_ret
  exact ⟨rfl,HX2.out.low⟩
 have k2:decide ((x.n:Int) < ci) = false:=by simpa using g2
 by_cases g3:cj < 0
 ·have k3:decide (cj < 0) = true:=by simpa using g3
  go_wp2
  go_ret
  exact ⟨rfl,HX2.out.low⟩
 have k3:decide (cj < 0) = false:=by simpa using g3
 by_cases g4:(y.n:Int) < cj
 ·have k4:decide ((y.n:Int) < cj) = true:=by simpa using g4
  go_wp2
  go_ret
  exact ⟨rfl,HX2.out.low⟩
 have k4:decide ((y.n:Int) < cj) = false:=by simpa using g4
 obtain ⟨i,rfl⟩:=Int.eq_ofNat_of_zero_le (by omega:0 <= ci)
 obtain ⟨j,rfl⟩:=Int.eq_ofNat_of_zero_le (by omega:0 <= cj)
 have hin:i <= x.n:=by omega
 have hjn:j <= y.n:=by omega
 have hic:(i:Int) <= (x.c:Int):=by omega
 have hjc:(j:Int) <= (y.c:Int):=by omega
 have HC3:Hid (∀ W,Below w.heap.size w W -> Calls Tryz.prog 8 #[.agg #[I J r.letters,.slice d.a d.n d.c,.slice s.a s.n s.c,I J r.beg,I J r.fin,I J r.front,I J r.back,.bool r.banded,I J r.lo,I J r.hi,.slice t.a t.n t.c],.slice x.a i x.c,.slice y.a j y.c,I J st,I J (i:Int),I J (j:Int)] W fun e w'=>e = .returned (.tuple #[I J n,.bool b,I J 0]) /\ Below W.heap.size W w'):=fun W hW=>by
  have:=HC2.out i j W hin hjn hW
  rw [HP.out i j n b hin hjn HS.out] at this
  exact this
 have HK:Hid (∀ W,Below w2.heap.size w2 W -> W.cell? ⟨w.heap.size,0,none⟩ = some (I J r.letters) /\ W.cell? ⟨w.heap.size,1,none⟩ = some (.slice d.a d.n d.c) /\ W.cell? ⟨w.heap.size,2,none⟩ = some (.slice s.a s.n s.c) /\ W.cell? ⟨w.heap.size,3,none⟩ = some (I J r.beg) /\ W.cell? ⟨w.heap.size,4,none⟩ = some (I J r.fin) /\ W.cell? ⟨w.heap.size,5,none⟩ = some (I J r.front) /\ W.cell? ⟨w.heap.size,6,none⟩ = some (I J r.back) /\ W.cell? ⟨w.heap.size,7,none⟩ = some (.bool r.banded) /\ W.cell? ⟨w.heap.size,8,none⟩ = some (I J r.lo) /\ W.cell? ⟨w.heap.size,9,none⟩ = some (I J r.hi) /\ W.cell? ⟨w.heap.size,10,none⟩ = some (.slice t.a t.n t.c)):=fun W hW=>rb_cells (HX2.out.next hW)
 have HT:Hid (∀ V,Below w2.heap.size w2 V -> Below w.heap.size w V):=fun V h=>HX2.out.low.trans (h.mono HX2.out.low.size)
 clear HC2 HP HS HX2
 go_upto_region 5 with (fail)
 go_region_held3 (fun W=>W.cell? ⟨w.heap.size,0,none⟩ = some (I J r.letters) /\ W.cell? ⟨w.heap.size,1,none⟩ = some (.slice d.a d.n d.c) /\ W.cell? ⟨w.heap.size,2,none⟩ = some (.slice s.a s.n s.c) /\ W.cell? ⟨w.heap.size,3,none⟩ = some (I J r.beg) /\ W.cell? ⟨w.heap.size,4,none⟩ = some (I J r.fin) /\ W.cell? ⟨w.heap.size,5,none⟩ = some (I J r.front) /\ W.cell? ⟨w.heap.size,6,none⟩ = some (I J r.back) /\ W.cell? ⟨w.heap.size,7,none⟩ = some (.bool r.banded) /\ W.cell? ⟨w.heap.size,8,none⟩ = some (I J r.lo) /\ W.cell? ⟨w.heap.size,9,none⟩ = some (I J r.hi) /\ W.cell? ⟨w.heap.size,10,none⟩ = some (.slice t.a t.n t.c)) (first | exact HK.out _ (Below.refl _ _) | exact HK.out _ (Below.refl _ _).drew | exact HK.out _ hv1) (first
  | (go_at_call 8; refine (HC3.out _ (by first | exact HT.out _ (Below.refl _ _) | exact HT.out _ (Below.refl _ _).drew)).mono ?_; rintro e V1 ⟨rfl,hv0⟩; have hv1:Below w2.heap.size w2 V1:=(by first | exact hv0 | exact (Below.refl _ _).drew.trans hv0)))
 all_goals (
  have HV1:Hid (Below w.heap.size w V1):=HT.out _ hv1
  clear hv0 hv1 HK HT HC3
  have z0:(n == n) = true:=by simp
  have z1:(b == b) = true:=by simp
  have z2:((0:Int) == 0) = true:=rfl
  go_wp2
  go_ret
  exact ⟨rfl,HV1.out⟩)
namespace evalPrefix
open Go.ChangeShapes Go.WideShapes Go.ChangeAt Go.RowKit
theorem own:ownKnob Tryz.prog.godebug = none:=by kernel_rfl
theorem laidOut:laidOutB Tryz.prog = true:=by kernel_rfl
theorem lifted (os:Os) (started:os.Started) (H:Type) (enc:TypeId × Value -> H) :
 ReturnsInHanded {} Tryz.checked os 3 .any (Rows.evalPrefixSpec.pre6 enc Tryz.prog Tryz.f3 Rows.evalPrefixRow.domain false) (Rows.evalPrefixSpec.post enc Tryz.prog Tryz.f3 false true false false):=by
 refine returnsInHanded_of_change_sized (C:=Tryz.checked) own started (by kernel_rfl) Tryz.func3
  (ChangeSpec.witness6 (enc:=enc) (C:=Tryz.checked) false ⟨#[],#[.agg #[I J 0,.slice none 0 0,.slice none 0 0,I J 0,I J 0,I J 0,I J 0,.bool false,I J 0,I J 0,.slice none 0 0],.slice none 0 0,.slice none 0 0,I J 0,I J 0,I J 0],[]⟩ 8 (by kernel_rfl) (by kernel_rfl) (by kernel_rfl) (by kernel_rfl)) ?_
 intro W base args ds gs before hval0 hW _ hsz0 _
 have hval:∀ (j:Nat) t v,Tryz.f3.params[j]? = some t -> args[j]? = some v -> Value.okWide Tryz.prog W .any base t v:=hval0
 have hsz:(DataW.weightsEach Tryz.prog (Tryz.f3.params.toList ++ Rows.evalPrefixSpec.plain.varTypes Tryz.prog) (ds ++ gs)).all (· <= reachBytes) = true:=hsz0
 have hW':=hW
 obtain ⟨p,q,hA0,hV,rfl,hfz,hnd⟩:=hW
 have hA:DataW.TrodAll enc Tryz.prog W 0 (fun _=>true) true Tryz.f3.params.toList args.toList ds p:=hA0
 rw [Tryz.params3] at hA hval hsz
 obtain ⟨v0,vs0,d0,ds0,p0,q0,hargs,rfl,rfl,h0,r0⟩:=trodAll_cons hA
 obtain ⟨v1,vs1,d1,ds1,p1,q1,rfl,rfl,rfl,h1,r1⟩:=trodAll_cons r0
 obtain ⟨v2,vs2,d2,ds2,p2,q2,rfl,rfl,rfl,h2,r2⟩:=trodAll_cons r1
 obtain ⟨v3,vs3,d3,ds3,p3,q3,rfl,rfl,rfl,h3,r3⟩:=trodAll_cons r2
 obtain ⟨v4,vs4,d4,ds4,p4,q4,rfl,rfl,rfl,h4,r4⟩:=trodAll_cons r3
 obtain ⟨v5,vs5,d5,ds5,p5,q5,rfl,rfl,rfl,h5,r5⟩:=trodAll_cons r4
 obtain ⟨rfl,rfl,rfl⟩:=trodAll_nil r5
 obtain rfl:args = #[v0,v1,v2,v3,v4,v5]:=by cases args; simp_all
 obtain ⟨rfl,rfl⟩:=trodVars_none hV
 have hw:∀ (j:Nat) (t:TypeId) (d:DataW H),([26,23,23,3,3,3] ++ Rows.evalPrefixSpec.plain.varTypes Tryz.prog)[j]? = some t -> ([d0,d1,d2,d3,d4,d5] ++ [])[j]? = some d -> ∀ n ∈ d.weights Tryz.prog t,n <= reachBytes:=fun j t d ht hd n hn=>
  of_decide_eq_true (List.all_eq_true.1 hsz _ (DataW.weights_mem_each ht hd n hn))
 obtain ⟨cs0,rfl,hcs0⟩:=okWide_struct Tryz.underlying26 (hval 0 26 v0 rfl rfl)
 have lt0:∀ x ∈ p0,x.block < W.heap.size:=by obtain ⟨m,hm⟩:=h0; exact DataW.trod_lt m _ _ _ hm
 obtain ⟨x0,da0,dn0,dc0,sa0,sn0,sc0,ta0,tn0,tc0,e0,in0⟩:=rc_in hcs0 h0 (hw 0 26 d0 rfl rfl)
 subst e0
 have lt1:∀ x ∈ p1,x.block < W.heap.size:=by obtain ⟨m,hm⟩:=h1; exact DataW.trod_lt m _ _ _ hm
 obtain ⟨ao1,len1,cap1,l1,e1,in1⟩:=ints_in h1 (hw 1 23 d1 rfl rfl)
 obtain ⟨ax1,nx1,cx1,rfl⟩:=okWide_slice Tryz.underlying23 (hval 1 23 v1 rfl rfl)
 obtain ⟨rfl,rfl,rfl⟩:ax1 = ao1 /\ nx1 = len1 /\ cx1 = cap1:=by have e:=e1; simp [Value.cells] at e; exact e
 have lt2:∀ x ∈ p2,x.block < W.heap.size:=by obtain ⟨m,hm⟩:=h2; exact DataW.trod_lt m _ _ _ hm
 obtain ⟨ao2,len2,cap2,l2,e2,in2⟩:=ints_in h2 (hw 2 23 d2 rfl rfl)
 obtain ⟨ax2,nx2,cx2,rfl⟩:=okWide_slice Tryz.underlying23 (hval 2 23 v2 rfl rfl)
 obtain ⟨rfl,rfl,rfl⟩:ax2 = ao2 /\ nx2 = len2 /\ cx2 = cap2:=by have e:=e2; simp [Value.cells] at e; exact e
 obtain ⟨a3,rfl,rfl,rfl,w3⟩:=open_int Tryz.underlying3 (hval 3 3 v3 rfl rfl) h3
 obtain ⟨a4,rfl,rfl,rfl,w4⟩:=open_int Tryz.underlying3 (hval 4 3 v4 rfl rfl) h4
 obtain ⟨a5,rfl,rfl,rfl,w5⟩:=open_int Tryz.underlying3 (hval 5 3 v5 rfl rfl) h5
 clear hA0 hval0
 refine (prefix_walk x0 ⟨da0,dn0,dc0⟩ ⟨sa0,sn0,sc0⟩ ⟨ta0,tn0,tc0⟩ ⟨ax1,nx1,cx1⟩ ⟨ax2,nx2,cx2⟩ l1 l2 a3 a4 a5 W in0 in1 in2 (slice_cap h1) (slice_cap h2)).mono fun e W' ⟨he,bel⟩=>?_
 subst he
 exact ⟨_,rfl,_,_,_,[],_,[],hW',trodAll_mk1 (shut_bool Tryz.underlying4 _),(trodAll_cons_mk (Below.trod laidOut (by kernel_rfl) (of_decide_eq_true (by kernel_rfl)) h0 bel lt0) (trodAll_cons_mk (Below.trod laidOut (by kernel_rfl) (of_decide_eq_true (by kernel_rfl)) h1 bel lt1) (trodAll_cons_mk (Below.trod laidOut (by kernel_rfl) (of_decide_eq_true (by kernel_rfl)) h2 bel lt2) (trodAll_cons_mk (shut_int Tryz.underlying3 w3) (trodAll_cons_mk (shut_int Tryz.underlying3 w4) (trodAll_cons_mk (shut_int Tryz.underlying3 w5) trodAll_mk0)))))),rfl,bel.frame _,fun h=>by cases h⟩
end evalPrefix
theorem evalPrefix_holds:Rows.EvalPrefixSaid:=
 OpenClaim.holds_of_wide 3 Tryz.f3 rfl rfl rfl rfl rfl rfl rfl ⟨rfl,rfl,rfl,rfl,rfl⟩ rfl rfl rfl rfl rfl (by kernel_rfl) Tryz.func3 (by kernel_rfl)
  (of_decide_eq_true (by kernel_rfl)) (by unfold Func.isWrapper; first | (rw [if_pos (by decide +kernel)]; kernel_rfl) | (rw [if_neg (by decide +kernel)]; exact ⟨rfl,rfl⟩))
  (fun os started H enc _=>evalPrefix.lifted os started H enc)
end Go.Proofs.YtbbbnopganhebabGreat
