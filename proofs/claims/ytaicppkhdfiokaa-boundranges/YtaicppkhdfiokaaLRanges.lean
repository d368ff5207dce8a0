/-
  BoundRanges is proved for every input: Range answers as the document says, of any model and any lengths. Its condition is the row's own: what is handed in reads as data.
-/
import Derived.Test.YtaicppkhdfiokaaRows
import Derived.Test.YtaicppkhdfiokaaBdI
import Derived.Test.YtaicppkhdfiokaaBdO
import Derived.WalkKit
import Derived.ProofKit
import Derived.OpenShut
import Derived.ShutString
import Derived.ChangeOld
import Derived.Below
namespace Go.Proofs.Ytaicppkhdfiokaa
open Go.RowKit Go.Deep

set_option maxHeartbeats 400000 in
theorem ranges_walk (m : Md) (sa : Option Addr) (sn sc : Nat) (ga : Option Addr) (gn gc : Nat) (r c : Int) (w : World) (h : MdIn w m sa sn ga gn) :
    Calls Try.prog 4 #[.agg (mdCells m sa sn sc ga gn gc), .int .i64 r, .int .i64 c] w fun e w' => e = .returned (.bool true) ∧ Below w.heap.size w w' := by
  have HM : Hid (MdAt w m sa sn ga gn) := h.at'
  clear h
  rw [show mdCells m sa sn sc ga gn gc = #[.int .i64 m.letters, .slice sa sn sc, .slice ga gn gc, .int .i64 m.mode, .bool m.banded, .int .i64 m.lo, .int .i64 m.hi, .int .i64 m.front, .int .i64 m.back, .int .i64 m.least] from rfl]
  go_enter Try.func4, Try.ntmps4
  go_wp2_with fail
  refine (awake_calls _).mono ?_
  rintro e w1 ⟨rfl, hb⟩
  have HX : Hid (Bx w (mdCells m sa sn sc ga gn gc) w1) := (Bx.start w _).next hb
  clear hb
  have c0 := HX.out.cell 0 (.int .i64 m.letters) rfl
  have c1 := HX.out.cell 1 (.slice sa sn sc) rfl
  have c2 := HX.out.cell 2 (.slice ga gn gc) rfl
  have c3 := HX.out.cell 3 (.int .i64 m.mode) rfl
  have c4 := HX.out.cell 4 (.bool m.banded) rfl
  have c5 := HX.out.cell 5 (.int .i64 m.lo) rfl
  have c6 := HX.out.cell 6 (.int .i64 m.hi) rfl
  have c7 := HX.out.cell 7 (.int .i64 m.front) rfl
  have c8 := HX.out.cell 8 (.int .i64 m.back) rfl
  have c9 := HX.out.cell 9 (.int .i64 m.least) rfl
  go_wp2_with fail
  refine (range_calls m sa sn sc ga gn gc r c _ (HM.out.below HX.out.low)).mono ?_
  rintro e w2 ⟨rfl, hb⟩
  have HX2 : Hid (Bx w (mdCells m sa sn sc ga gn gc) w2) := HX.out.next hb
  clear hb HX c0 c1 c2 c3 c4 c5 c6 c7 c8 c9
  have c0 := HX2.out.cell 0 (.int .i64 m.letters) rfl
  have c1 := HX2.out.cell 1 (.slice sa sn sc) rfl
  have c2 := HX2.out.cell 2 (.slice ga gn gc) rfl
  have c3 := HX2.out.cell 3 (.int .i64 m.mode) rfl
  have c4 := HX2.out.cell 4 (.bool m.banded) rfl
  have c5 := HX2.out.cell 5 (.int .i64 m.lo) rfl
  have c6 := HX2.out.cell 6 (.int .i64 m.hi) rfl
  have c7 := HX2.out.cell 7 (.int .i64 m.front) rfl
  have c8 := HX2.out.cell 8 (.int .i64 m.back) rfl
  have c9 := HX2.out.cell 9 (.int .i64 m.least) rfl
  go_wp2_with fail
  refine (rangeR_calls m sa sn sc ga gn gc r c _ (HM.out.below HX2.out.low)).mono ?_
  rintro e w3 ⟨rfl, hb⟩
  have HB : Hid (Below w.heap.size w w3) := (HX2.out.next hb).low
  clear hb HX2 c0 c1 c2 c3 c4 c5 c6 c7 c8 c9
  generalize ranL m r c = x1
  generalize ranH m r c = x2
  generalize ranE m r c = x3
  have e1 : (x1 == x1) = true := by simp
  have e2 : (x2 == x2) = true := by simp
  have e3 : (x3 == x3) = true := by simp
  go_wp2
  go_ret
  exact ⟨rfl, HB.out⟩

namespace boundRanges
open Go.ChangeShapes Go.WideShapes Go.ChangeAt Go.RowKit
open Go.ChangeMaps (open_string shut_string)
theorem own : ownKnob Try.prog.godebug = none := by kernel_rfl
theorem laidOut : laidOutB Try.prog = true := by kernel_rfl
set_option maxRecDepth 100000 in
theorem lifted (os : Os) (started : os.Started) (H : Type) (enc : TypeId × Value → H) :
    ReturnsInHanded {} Try.checked os 4 .any (Rows.boundRangesSpec.pre6 enc Try.prog Try.f4 Rows.boundRangesRow.domain false) (Rows.boundRangesSpec.post enc Try.prog Try.f4 false true false false) := by
  refine returnsInHanded_of_change_sized (C := Try.checked) own started (by kernel_rfl) Try.func4
    (ChangeSpec.witness6 (enc := enc) (C := Try.checked) false ⟨#[], #[.agg #[.int .i64 0, .slice none 0 0, .slice none 0 0, .int .i64 0, .bool false, .int .i64 0, .int .i64 0, .int .i64 0, .int .i64 0, .int .i64 0], .int .i64 0, .int .i64 0], []⟩ 8 (by kernel_rfl) (by kernel_rfl) (by kernel_rfl) (by kernel_rfl)) ?_
  intro W base args ds gs before hval0 hW _ hsz0 _
  have hval : ∀ (j : Nat) t v, Try.f4.params[j]? = some t → args[j]? = some v → Value.okWide Try.prog W .any base t v := hval0
  have hsz : (DataW.weightsEach Try.prog (Try.f4.params.toList ++ Rows.boundRangesSpec.plain.varTypes Try.prog) (ds ++ gs)).all (· ≤ reachBytes) = true := hsz0
  have hW' := hW
  obtain ⟨p, q, hA0, hV, rfl, hfz, hnd⟩ := hW
  have hA : DataW.TrodAll enc Try.prog W 0 (fun _ => true) true Try.f4.params.toList args.toList ds p := hA0
  rw [Try.params4] at hA hval hsz
  obtain ⟨v0, vs0, d0, ds0, p0, q0, hargs, rfl, rfl, h0, r0⟩ := trodAll_cons hA
  obtain ⟨v1, vs1, d1, ds1, p1, q1, rfl, rfl, rfl, h1, r1⟩ := trodAll_cons r0
  obtain ⟨v2, vs2, d2, ds2, p2, q2, rfl, rfl, rfl, h2, r2⟩ := trodAll_cons r1
  obtain ⟨rfl, rfl, rfl⟩ := trodAll_nil r2
  obtain rfl : args = #[v0, v1, v2] := by cases args; simp_all
  obtain ⟨rfl, rfl⟩ := trodVars_none hV
  have hw : ∀ (j : Nat) (t : TypeId) (d : DataW H), ([25, 3, 3] ++ Rows.boundRangesSpec.plain.varTypes Try.prog)[j]? = some t → ([d0, d1, d2] ++ [])[j]? = some d → ∀ n ∈ d.weights Try.prog t, n ≤ reachBytes := fun j t d ht hd n hn =>
    of_decide_eq_true (List.all_eq_true.1 hsz _ (DataW.weights_mem_each ht hd n hn))
  obtain ⟨cs0, rfl, hcs0⟩ := okWide_struct Try.underlying25 (hval 0 25 v0 rfl rfl)
  have lt0 : ∀ x ∈ p0, x.block < W.heap.size := by obtain ⟨m, hm⟩ := h0; exact DataW.trod_lt m _ _ _ hm
  obtain ⟨m0, sa0, sn0, sc0, ga0, gn0, gc0, e0, in0⟩ := md_in hcs0 h0 (hw 0 25 d0 rfl rfl)
  subst e0
  obtain ⟨a1, rfl, rfl, rfl, w1⟩ := open_int Try.underlying3 (hval 1 3 v1 rfl rfl) h1
  obtain ⟨a2, rfl, rfl, rfl, w2⟩ := open_int Try.underlying3 (hval 2 3 v2 rfl rfl) h2
  clear hA0 hval0
  refine (ranges_walk m0 sa0 sn0 sc0 ga0 gn0 gc0 a1 a2 W in0).mono fun e W' ⟨he, bel⟩ => ?_
  subst he
  exact ⟨_, rfl, _, _, _, [], _, [], hW', trodAll_mk1 (shut_bool Try.underlying4 _), (trodAll_cons_mk (Below.trod laidOut (by kernel_rfl) (of_decide_eq_true (by kernel_rfl)) h0 bel lt0) (trodAll_cons_mk (shut_int Try.underlying3 w1) (trodAll_cons_mk (shut_int Try.underlying3 w2) trodAll_mk0))), rfl, bel.frame _, fun h => by cases h⟩
end boundRanges

theorem boundRanges_holds : Rows.BoundRangesSaid :=
  OpenClaim.holds_of_wide 4 Try.f4 rfl rfl rfl rfl rfl rfl rfl ⟨rfl, rfl, rfl, rfl, rfl⟩ rfl rfl rfl rfl rfl (by kernel_rfl) Try.func4 (by kernel_rfl)
    (of_decide_eq_true (by kernel_rfl)) (by unfold Func.isWrapper; first | (rw [if_pos (by decide +kernel)]; kernel_rfl) | (rw [if_neg (by decide +kernel)]; exact ⟨rfl, rfl⟩))
    (fun os started H enc _ => boundRanges.lifted os started H enc)

end Go.Proofs.Ytaicppkhdfiokaa
