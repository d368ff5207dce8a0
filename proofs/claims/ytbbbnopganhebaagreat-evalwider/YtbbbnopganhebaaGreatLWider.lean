/-
  EvalWider: of every recurrence, any two sequences and any two numbers: a band that is wider by them, or none, makes the score no less. No conditions.
-/
import Derived.Test.YtbbbnopganhebaaGreatRows
import Derived.WalkKit
import Derived.ProofKit
import Derived.OpenShut
import Derived.ShutString
import Derived.ChangeOld
import Derived.Below
import Derived.Test.YtbbbnopganhebaaGreatG39
import Derived.Test.YtbbbnopganhebaaGreatEaA
import Derived.Test.YtbbbnopganhebaaGreatRoO
namespace Go.Proofs.YtbbbnopganhebaaGreat
open Go.RowKit Go.Deep Go.Maps
open Go.Value renaming int->I
open Go.IntKind renaming i64->J
set_option maxRecDepth 100000
set_option maxHeartbeats 8000000
theorem ints_in {H:Type} {enc:TypeId × Value -> H} {W:World} {v:Value} {d:DataW H} {p:List MemPlace} (h:DataW.Trod enc Tryz.prog W 0 (fun _=>true) true 23 v d p) (hw:∀ n ∈ d.weights Tryz.prog 23,n <= reachBytes) :
 ∃ ao len cap l,v.cells.toList = [.slice ao len cap] /\ IntA W ao len l:=by
 obtain ⟨fuel,hf⟩:=h
 exact open_int23 hf hw
theorem rb_cells {w W:World} {r:Rc} {d s t:Sq} (h:Rb w #[I J r.letters,.slice d.a d.n d.c,.slice s.a s.n s.c,I J r.beg,I J r.fin,I J r.front,I J r.back,.bool r.banded,I J r.lo,I J r.hi,.slice t.a t.n t.c] W):W.cell? ⟨w.heap.size,0,none⟩ = some (I J r.letters) /\ W.cell? ⟨w.heap.size,1,none⟩ = some (.slice d.a d.n d.c) /\ W.cell? ⟨w.heap.size,2,none⟩ = some (.slice s.a s.n s.c) /\ W.cell? ⟨w.heap.size,3,none⟩ = some (I J r.beg) /\ W.cell? ⟨w.heap.size,4,none⟩ = some (I J r.fin) /\ W.cell? ⟨w.heap.size,5,none⟩ = some (I J r.front) /\ W.cell? ⟨w.heap.size,6,none⟩ = some (I J r.back) /\ W.cell? ⟨w.heap.size,7,none⟩ = some (.bool r.banded) /\ W.cell? ⟨w.heap.size,8,none⟩ = some (I J r.lo) /\ W.cell? ⟨w.heap.size,9,none⟩ = some (I J r.hi) /\ W.cell? ⟨w.heap.size,10,none⟩ = some (.slice t.a t.n t.c) /\ w.heap.size < W.heap.size:=
 ⟨blk h.box rfl,blk h.box rfl,blk h.box rfl,blk h.box rfl,blk h.box rfl,blk h.box rfl,blk h.box rfl,blk h.box rfl,blk h.box rfl,blk h.box rfl,blk h.box rfl,lt_block h.box⟩
theorem wider_walk (r:Rc) (d s t x y:Sq) (xs ys:List Int) (low high:Int) (w:World) (hr:RcAt w r d.a d.n s.a s.n t.a t.n) (hx:IntA w x.a x.n xs) (hy:IntA w y.a y.n ys) :
 Calls Tryz.prog 7 #[.agg (rcCells r d.a d.n d.c s.a s.n s.c t.a t.n t.c),.slice x.a x.n x.c,.slice y.a y.n y.c,I J low,I J high] w fun e w'=>e = .returned (.bool true) /\ Below w.heap.size w w':=by
 have HC1:Hid (∀ W,Below w.heap.size w W -> Calls Tryz.prog 12 #[.agg #[I J r.letters,.slice d.a d.n d.c,.slice s.a s.n s.c,I J r.beg,I J r.fin,I J r.front,I J r.back,.bool r.banded,I J r.lo,I J r.hi,.slice t.a t.n t.c],.slice x.a x.n x.c,.slice y.a y.n y.c] W fun e w'=>e = .returned (.tuple #[I J (scoreE r xs ys).1,I J (scoreE r xs ys).2]) /\ Below W.heap.size W w'):=fun W hW=>scoreX_calls r d s t x y xs ys W (hr.below hW) (hx.below hW) (hy.below hW)
 have HC2:Hid (∀ W,Below w.heap.size w W -> Calls Tryz.prog 12 #[.agg #[I J r.letters,.slice d.a d.n d.c,.slice s.a s.n s.c,I J r.beg,I J r.fin,I J r.front,I J r.back,.bool true,I J (r.lo - low),I J (r.hi + high),.slice t.a t.n t.c],.slice x.a x.n x.c,.slice y.a y.n y.c] W fun e w'=>e = .returned (.tuple #[I J (scoreE (bandTo r true (r.lo - low) (r.hi + high)) xs ys).1,I J (scoreE (bandTo r true (r.lo - low) (r.hi + high)) xs ys).2]) /\ Below W.heap.size W w'):=fun W hW=>scoreX_calls (bandTo r true (r.lo - low) (r.hi + high)) d s t x y xs ys W ⟨(hr.below hW).defs,(hr.below hW).subst,(hr.below hW).states⟩ (hx.below hW) (hy.below hW)
 have HC3:Hid (∀ W,Below w.heap.size w W -> Calls Tryz.prog 12 #[.agg #[I J r.letters,.slice d.a d.n d.c,.slice s.a s.n s.c,I J r.beg,I J r.fin,I J r.front,I J r.back,.bool false,I J 0,I J 0,.slice t.a t.n t.c],.slice x.a x.n x.c,.slice y.a y.n y.c] W fun e w'=>e = .returned (.tuple #[I J (scoreE (bandTo r false 0 0) xs ys).1,I J (scoreE (bandTo r false 0 0) xs ys).2]) /\ Below W.heap.size W w'):=fun W hW=>scoreX_calls (bandTo r false 0 0) d s t x y xs ys W ⟨(hr.below hW).defs,(hr.below hW).subst,(hr.below hW).states⟩ (hx.below hW) (hy.below hW)
 have HR0:Hid (Rb w #[I J r.letters,.slice d.a d.n d.c,.slice s.a s.n s.c,I J r.beg,I J r.fin,I J r.front,I J r.back,.bool r.banded,I J r.lo,I J r.hi,.slice t.a t.n t.c] (w.alloc (.cells #[I J r.letters,.slice d.a d.n d.c,.slice s.a s.n s.c,I J r.beg,I J r.fin,I J r.front,I J r.back,.bool r.banded,I J r.lo,I J r.hi,.slice t.a t.n t.c] 26))):=Rb.start w _
 have HP:Hid (∀ a,scoreE r xs ys = (a,0) -> r.banded = true -> 0 <= low -> 0 <= high -> ∃ b c,scoreE (bandTo r true (r.lo - low) (r.hi + high)) xs ys = (b,0) /\ scoreE (bandTo r false 0 0) xs ys = (c,0) /\ a <= b /\ b <= c /\ r.lo <= r.hi):=fun a h1 h2 h3 h4=>wider_plain h1 h2 h3 h4
 clear hr hx hy
 unfold rcCells
 go_enter Tryz.func7,Tryz.ntmps7
 go_wp2_with fail
 refine (awakeE_calls _).mono ?_
 rintro e w1 ⟨rfl,hb1⟩
 have HX1:Hid (Rb w #[I J r.letters,.slice d.a d.n d.c,.slice s.a s.n s.c,I J r.beg,I J r.fin,I J r.front,I J r.back,.bool r.banded,I J r.lo,I J r.hi,.slice t.a t.n t.c] w1):=HR0.out.next hb1
 clear hb1 HR0
 obtain ⟨c0,c1,c2,c3,c4,c5,c6,c7,c8,c9,c10,hl1⟩:=rb_cells HX1.out
 go_wp2_with fail
 refine (HC1.out _ HX1.out.low).mono ?_
 rintro e w2 ⟨rfl,hb2⟩
 have HX2:Hid (Rb w #[I J r.letters,.slice d.a d.n d.c,.slice s.a s.n s.c,I J r.beg,I J r.fin,I J r.front,I J r.back,.bool r.banded,I J r.lo,I J r.hi,.slice t.a t.n t.c] w2):=HX1.out.next hb2
 clear hb2 HX1 HC1 c0 c1 c2 c3 c4 c5 c6 c7 c8 c9 c10 hl1
 obtain ⟨c0,c1,c2,c3,c4,c5,c6,c7,c8,c9,c10,hl2⟩:=rb_cells HX2.out
 obtain ⟨⟨a,er⟩,hS⟩:∃ q,scoreE r xs ys = q:=⟨_,rfl⟩
 rw [hS] at HP ⊢
 clear hS
 simp only
 by_cases g0:¬ er = 0
 ·have k0:(er != 0) = true:=by simpa using g0
  go_wp2
  go_ret
  exact ⟨rfl,HX2.out.low⟩
 replace g0:=Decidable.not_not.1 g0
 subst g0
 have k0:((0:Int) != 0) = false:=rfl
 cases g1:r.banded with
 | false=>
   rw [g1] at c7
   go_wp2
   go_ret
   exact ⟨rfl,HX2.out.low⟩
 | true=>
   rw [g1] at c7
   by_cases g2:low < 0
   ·have k2:decide (low < 0) = true:=by simpa using g2
    go_wp2
    go_ret
    exact ⟨rfl,HX2.out.low⟩
   have k2:decide (low < 0) = false:=by simpa using g2
   by_cases g3:1099511627776 < low
   ·have k3:decide (1099511627776 < low) = true:=by simpa using g3
    go_wp2
    go_ret
    exact ⟨rfl,HX2.out.low⟩
   have k3:decide (1099511627776 < low) = false:=by simpa using g3
   by_cases g4:high < 0
   ·have k4:decide (high < 0) = true:=by simpa using g4
    go_wp2
    go_ret
    exact ⟨rfl,HX2.out.low⟩
   have k4:decide (high < 0) = false:=by simpa using g4
   by_cases g5:1099511627776 < high
   ·have k5:decide (1099511627776 < high) = true:=by simpa using g5
    go_wp2
    go_ret
    exact ⟨rfl,HX2.out.low⟩
   have k5:decide (1099511627776 < high) = false:=by simpa using g5
   by_cases g6:r.lo < -1099511627776
   ·have k6:decide (r.lo < -1099511627776) = true:=by simpa using g6
    go_wp2
    go_ret
    exact ⟨rfl,HX2.out.low⟩
   have k6:decide (r.lo < -1099511627776) = false:=by simpa using g6
   by_cases g7:1099511627776 < r.hi
   ·have k7:decide (1099511627776 < r.hi) = true:=by simpa using g7
    go_wp2
    go_ret
    exact ⟨rfl,HX2.out.low⟩
   have k7:decide (1099511627776 < r.hi) = false:=by simpa using g7
   obtain ⟨b,c,s1,s2,l1,l2,l3⟩:=HP.out a rfl g1 (by omega) (by omega)
   rw [s1] at HC2
   rw [s2] at HC3
   rw [g1] at HX2
   clear HP s1 s2
   simp only at HC2 HC3
   go_wp2_with fail
   refine (HC2.out _ (HX2.out.alloc _).low).mono ?_
   rintro e w3 ⟨rfl,hb3⟩
   have HX3:Hid (Rb w #[I J r.letters,.slice d.a d.n d.c,.slice s.a s.n s.c,I J r.beg,I J r.fin,I J r.front,I J r.back,.bool true,I J r.lo,I J r.hi,.slice t.a t.n t.c] w3):=(HX2.out.alloc _).next hb3
   clear hb3 HX2 HC2 c0 c1 c2 c3 c4 c5 c6 c7 c8 c9 c10 hl2
   have hl3:=lt_block HX3.out.box
   have c0:w3.cell? ⟨w.heap.size,0,none⟩ = some (I J r.letters):=blk HX3.out.box rfl
   have c1:w3.cell? ⟨w.heap.size,1,none⟩ = some (.slice d.a d.n d.c):=blk HX3.out.box rfl
   have c2:w3.cell? ⟨w.heap.size,2,none⟩ = some (.slice s.a s.n s.c):=blk HX3.out.box rfl
   have c3:w3.cell? ⟨w.heap.size,3,none⟩ = some (I J r.beg):=blk HX3.out.box rfl
   have c4:w3.cell? ⟨w.heap.size,4,none⟩ = some (I J r.fin):=blk HX3.out.box rfl
   have c5:w3.cell? ⟨w.heap.size,5,none⟩ = some (I J r.front):=blk HX3.out.box rfl
   have c6:w3.cell? ⟨w.heap.size,6,none⟩ = some (I J r.back):=blk HX3.out.box rfl
   have c7:w3.cell? ⟨w.heap.size,7,none⟩ = some (.bool true):=blk HX3.out.box rfl
   have c8:w3.cell? ⟨w.heap.size,8,none⟩ = some (I J r.lo):=blk HX3.out.box rfl
   have c9:w3.cell? ⟨w.heap.size,9,none⟩ = some (I J r.hi):=blk HX3.out.box rfl
   have c10:w3.cell? ⟨w.heap.size,10,none⟩ = some (.slice t.a t.n t.c):=blk HX3.out.box rfl
   go_wp2_with fail
   refine (HC3.out _ (HX3.out.alloc _).low).mono ?_
   rintro e w4 ⟨rfl,hb4⟩
   have HX4:Hid (Below w.heap.size w w4):=((HX3.out.alloc _).next hb4).low
   clear hb4 HX3 HC3 c0 c1 c2 c3 c4 c5 c6 c7 c8 c9 c10 hl3
   have z0:((0:Int) == 0) = true:=rfl
   have z1:decide (a <= b) = true:=by simpa using l1
   have z2:decide (b <= c) = true:=by simpa using l2
   go_wp2
   go_ret
   exact ⟨rfl,HX4.out⟩
namespace evalWider
open Go.ChangeShapes Go.WideShapes Go.ChangeAt Go.RowKit
theorem own:ownKnob Tryz.prog.godebug = none:=by kernel_rfl
theorem laidOut:laidOutB Tryz.prog = true:=by kernel_rfl
theorem lifted (os:Os) (started:os.Started) (H:Type) (enc:TypeId × Value -> H) :
 ReturnsInHanded {} Tryz.checked os 7 .any (Rows.evalWiderSpec.pre6 enc Tryz.prog Tryz.f7 Rows.evalWiderRow.domain false) (Rows.evalWiderSpec.post enc Tryz.prog Tryz.f7 false true false false):=by
 refine returnsInHanded_of_change_sized (C:=Tryz.checked) own started (by kernel_rfl) Tryz.func7
  (ChangeSpec.witness6 (enc:=enc) (C:=Tryz.checked) false ⟨#[],#[.agg #[I J 0,.slice none 0 0,.slice none 0 0,I J 0,I J 0,I J 0,I J 0,.bool false,I J 0,I J 0,.slice none 0 0],.slice none 0 0,.slice none 0 0,I J 0,I J 0],[]⟩ 8 (by kernel_rfl) (by kernel_rfl) (by kernel_rfl) (by kernel_rfl)) ?_
 intro W base args ds gs before hval0 hW _ hsz0 _
 have hval:∀ (j:Nat) t v,Tryz.f7.params[j]? = some t -> args[j]? = some v -> Value.okWide Tryz.prog W .any base t v:=hval0
 have hsz:(DataW.weightsEach Tryz.prog (Tryz.f7.params.toList ++ Rows.evalWiderSpec.plain.varTypes Tryz.prog) (ds ++ gs)).all (· <= reachBytes) = true:=hsz0
 have hW':=hW
 obtain ⟨p,q,hA0,hV,rfl,hfz,hnd⟩:=hW
 have hA:DataW.TrodAll enc Tryz.prog W 0 (fun _=>true) true Tryz.f7.params.toList args.toList ds p:=hA0
 rw [Tryz.params7] at hA hval hsz
 obtain ⟨v0,vs0,d0,ds0,p0,q0,hargs,rfl,rfl,h0,r0⟩:=trodAll_cons hA
 obtain ⟨v1,vs1,d1,ds1,p1,q1,rfl,rfl,rfl,h1,r1⟩:=trodAll_cons r0
 obtain ⟨v2,vs2,d2,ds2,p2,q2,rfl,rfl,rfl,h2,r2⟩:=trodAll_cons r1
 obtain ⟨v3,vs3,d3,ds3,p3,q3,rfl,rfl,rfl,h3,r3⟩:=trodAll_cons r2
 obtain ⟨v4,vs4,d4,ds4,p4,q4,rfl,rfl,rfl,h4,r4⟩:=trodAll_cons r3
 obtain ⟨rfl,rfl,rfl⟩:=trodAll_nil r4
 obtain rfl:args = #[v0,v1,v2,v3,v4]:=by cases args; simp_all
 obtain ⟨rfl,rfl⟩:=trodVars_none hV
 have hw:∀ (j:Nat) (t:TypeId) (d:DataW H),([26,23,23,3,3] ++ Rows.evalWiderSpec.plain.varTypes Tryz.prog)[j]? = some t -> ([d0,d1,d2,d3,d4] ++ [])[j]? = some d -> ∀ n ∈ d.weights Tryz.prog t,n <= reachBytes:=fun j t d ht hd n hn=>
  of_decide_eq_true (List.all_eq_true.1 hsz _ (DataW.weights_mem_each ht hd n hn))
 obtain ⟨cs0,rfl,hcs0⟩:=okWide_struct Tryz.underlying26 (hval 0 26 v0 rfl rfl)
 have lt0:∀ x ∈ p0,x.block < W.heap.size:=by obtain ⟨m,hm⟩:=h0; exact DataW.trod_lt m _ _ _ hm
 obtain ⟨x0,da0,dn0,dc0,sa0,sn0,sc0,ta0,tn0,tc0,e0,in0⟩:=rc_in hcs0 h0 (hw 0 26 d0 rfl rfl)
 subst e0
 have lt1:∀ x ∈ p1,x.block < W.heap.size:=by obtain ⟨m,hm⟩:=h1; exact DataW.trod_lt m _ _ _ hm
 obtain ⟨ao1,len1,cap1,l1,e1,in1⟩:=ints_in h1 (hw 1 23 d1 rfl rfl)
 obtain ⟨ax1,nx1,cx1,rfl⟩:=okWide_slice Tryz.underlying23 (hval 1 23 v1 rfl rfl)
 obtain ⟨rfl,rfl,rfl⟩:ax1 = ao1 /\ nx1 = len1 /\ cx1 = cap1:=by have e:=e1; simp [Value.cells] at e; exact e
 have lt2:∀ x ∈ p2,x.block < W.heap.size:=by obtain ⟨m,hm⟩:=h2; exact DataW.trod_lt m _ _ _ hm
 obtain ⟨ao2,len2,cap2,l2,e2,in2⟩:=ints_in h2 (hw 2 23 d2 rfl rfl)
 obtain ⟨ax2,nx2,cx2,rfl⟩:=okWide_slice Tryz.underlying23 (hval 2 23 v2 rfl rfl)
 obtain ⟨rfl,rfl,rfl⟩:ax2 = ao2 /\ nx2 = len2 /\ cx2 = cap2:=by have e:=e2; simp [Value.cells] at e; exact e
 obtain ⟨a3,rfl,rfl,rfl,w3⟩:=open_int Tryz.underlying3 (hval 3 3 v3 rfl rfl) h3
 obtain ⟨a4,rfl,rfl,rfl,w4⟩:=open_int Tryz.underlying3 (hval 4 3 v4 rfl rfl) h4
 clear hA0 hval0
 refine (wider_walk x0 ⟨da0,dn0,dc0⟩ ⟨sa0,sn0,sc0⟩ ⟨ta0,tn0,tc0⟩ ⟨ax1,nx1,cx1⟩ ⟨ax2,nx2,cx2⟩ l1 l2 a3 a4 W in0 in1 in2).mono fun e W' ⟨he,bel⟩=>?_
 subst he
 exact ⟨_,rfl,_,_,_,[],_,[],hW',trodAll_mk1 (shut_bool Tryz.underlying4 _),(trodAll_cons_mk (Below.trod laidOut (by kernel_rfl) (of_decide_eq_true (by kernel_rfl)) h0 bel lt0) (trodAll_cons_mk (Below.trod laidOut (by kernel_rfl) (of_decide_eq_true (by kernel_rfl)) h1 bel lt1) (trodAll_cons_mk (Below.trod laidOut (by kernel_rfl) (of_decide_eq_true (by kernel_rfl)) h2 bel lt2) (trodAll_cons_mk (shut_int Tryz.underlying3 w3) (trodAll_cons_mk (shut_int Tryz.underlying3 w4) trodAll_mk0))))),rfl,bel.frame _,fun h=>by cases h⟩
end evalWider
theorem evalWider_holds:Rows.EvalWiderSaid:=
 OpenClaim.holds_of_wide 7 Tryz.f7 rfl rfl rfl rfl rfl rfl rfl ⟨rfl,rfl,rfl,rfl,rfl⟩ rfl rfl rfl rfl rfl (by kernel_rfl) Tryz.func7 (by kernel_rfl)
  (of_decide_eq_true (by kernel_rfl)) (by unfold Func.isWrapper; first | (rw [if_pos (by decide +kernel)]; kernel_rfl) | (rw [if_neg (by decide +kernel)]; exact ⟨rfl,rfl⟩))
  (fun os started H enc _=>evalWider.lifted os started H enc)
end Go.Proofs.YtbbbnopganhebaaGreat
