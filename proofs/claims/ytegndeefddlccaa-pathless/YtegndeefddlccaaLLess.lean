/-
  Proved: whatever two paths are handed in, PathLess answers true: path.Less and the document's Less tell the same, either way round; no condition but that what is handed in can be read.
-/
import Derived.Test.YtegndeefddlccaaPxA
import Derived.Test.YtegndeefddlccaaPyD
import Derived.Test.YtegndeefddlccaaPxO
import Derived.Test.YtegndeefddlccaaRows
import Derived.ProofKit
import Derived.OpenShut
import Derived.ShutString
import Derived.ChangeOld
import Derived.Below
namespace Go.Proofs.Ytegndeefddlccaa
open Go.RowKit

set_option maxRecDepth 20000 in
set_option maxHeartbeats 2000000 in
theorem less_walk (i0 j0 : Int) (s0 : ByteArray) (i1 j1 : Int) (s1 : ByteArray) (w : World) (hs0 : s0.size ≤ 140737488351232) (_wi0 : (Lit.int .i64 i0).wf = true) (_wj0 : (Lit.int .i64 j0).wf = true) (hs1 : s1.size ≤ 140737488351232) (_wi1 : (Lit.int .i64 i1).wf = true) (_wj1 : (Lit.int .i64 j1).wf = true) :
    Calls Try.prog 6 #[.agg #[.int .i64 i0, .int .i64 j0, .string s0], .agg #[.int .i64 i1, .int .i64 j1, .string s1]] w fun e w' => e = .returned (.bool true) ∧ Below w.heap.size w w' := by
  obtain ⟨x, hx⟩ : ∃ x, lessB ⟨i0, j0, s0.data.toList⟩ ⟨i1, j1, s1.data.toList⟩ = x := ⟨_, rfl⟩
  obtain ⟨y, hy⟩ : ∃ y, lessB ⟨i1, j1, s1.data.toList⟩ ⟨i0, j0, s0.data.toList⟩ = y := ⟨_, rfl⟩
  have Cx : Hid (∀ W, Calls Try.prog 21 #[.agg #[.int .i64 i0, .int .i64 j0, .string s0], .agg #[.int .i64 i1, .int .i64 j1, .string s1]] W fun e w' => e = .returned (.bool x) ∧ Below W.heap.size W w') := fun W => by rw [← hx]; exact less_calls _ _ _ _ _ _ W hs0 hs1
  have Cy : Hid (∀ W, Calls Try.prog 21 #[.agg #[.int .i64 i1, .int .i64 j1, .string s1], .agg #[.int .i64 i0, .int .i64 j0, .string s0]] W fun e w' => e = .returned (.bool y) ∧ Below W.heap.size W w') := fun W => by rw [← hy]; exact less_calls _ _ _ _ _ _ W hs1 hs0
  have Cp : Hid (∀ W, Calls Try.prog 22 #[.agg #[.int .i64 i0, .int .i64 j0, .string s0], .agg #[.int .i64 i1, .int .i64 j1, .string s1]] W fun e w' => e = .returned (.bool x) ∧ Below W.heap.size W w') := fun W => by rw [← hx]; exact lessR_calls _ _ _ _ _ _ W hs0 hs1
  have Cq : Hid (∀ W, Calls Try.prog 22 #[.agg #[.int .i64 i1, .int .i64 j1, .string s1], .agg #[.int .i64 i0, .int .i64 j0, .string s0]] W fun e w' => e = .returned (.bool y) ∧ Below W.heap.size W w') := fun W => by rw [← hy]; exact lessR_calls _ _ _ _ _ _ W hs1 hs0
  clear hx hy hs0 hs1
  have HB0 : Hid (P2 w #[.int .i64 i0, .int .i64 j0, .string s0] #[.int .i64 i1, .int .i64 j1, .string s1] ((w.alloc (.cells #[.int .i64 i0, .int .i64 j0, .string s0] 33)).alloc (.cells #[.int .i64 i1, .int .i64 j1, .string s1] 33))) := P2.start w _ _
  go_enter Try.func6, Try.ntmps6
  go_wp2_with fail
  refine (awake_calls _).mono ?_
  rintro e w1 ⟨rfl, hb1⟩
  have HB1 : Hid (P2 w #[.int .i64 i0, .int .i64 j0, .string s0] #[.int .i64 i1, .int .i64 j1, .string s1] w1) := HB0.out.next hb1
  clear hb1 HB0
  have c00 := cell_block HB1.out.a 0 (.int .i64 i0) rfl
  have c01 := cell_block HB1.out.a 1 (.int .i64 j0) rfl
  have c02 := cell_block HB1.out.a 2 (.string s0) rfl
  have c10 := cell_block HB1.out.b 0 (.int .i64 i1) rfl
  have c11 := cell_block HB1.out.b 1 (.int .i64 j1) rfl
  have c12 := cell_block HB1.out.b 2 (.string s1) rfl
  go_wp2_with fail
  with_reducible refine (Cx.out _).mono ?_
  rintro e w2 ⟨rfl, hb2⟩
  have HB2 : Hid (P2 w #[.int .i64 i0, .int .i64 j0, .string s0] #[.int .i64 i1, .int .i64 j1, .string s1] w2) := HB1.out.next hb2
  clear hb2 HB1 Cx
  clear c00 c01 c02 c10 c11 c12
  have c00 := cell_block HB2.out.a 0 (.int .i64 i0) rfl
  have c01 := cell_block HB2.out.a 1 (.int .i64 j0) rfl
  have c02 := cell_block HB2.out.a 2 (.string s0) rfl
  have c10 := cell_block HB2.out.b 0 (.int .i64 i1) rfl
  have c11 := cell_block HB2.out.b 1 (.int .i64 j1) rfl
  have c12 := cell_block HB2.out.b 2 (.string s1) rfl
  go_wp2_with fail
  with_reducible refine (Cy.out _).mono ?_
  rintro e w3 ⟨rfl, hb3⟩
  have HB3 : Hid (P2 w #[.int .i64 i0, .int .i64 j0, .string s0] #[.int .i64 i1, .int .i64 j1, .string s1] w3) := HB2.out.next hb3
  clear hb3 HB2 Cy
  clear c00 c01 c02 c10 c11 c12
  have c00 := cell_block HB3.out.a 0 (.int .i64 i0) rfl
  have c01 := cell_block HB3.out.a 1 (.int .i64 j0) rfl
  have c02 := cell_block HB3.out.a 2 (.string s0) rfl
  have c10 := cell_block HB3.out.b 0 (.int .i64 i1) rfl
  have c11 := cell_block HB3.out.b 1 (.int .i64 j1) rfl
  have c12 := cell_block HB3.out.b 2 (.string s1) rfl
  go_wp2_with fail
  with_reducible refine (Cp.out _).mono ?_
  rintro e w4 ⟨rfl, hb4⟩
  have HB4 : Hid (P2 w #[.int .i64 i0, .int .i64 j0, .string s0] #[.int .i64 i1, .int .i64 j1, .string s1] w4) := HB3.out.next hb4
  clear hb4 HB3 Cp
  clear c00 c01 c02 c10 c11 c12
  have c00 := cell_block HB4.out.a 0 (.int .i64 i0) rfl
  have c01 := cell_block HB4.out.a 1 (.int .i64 j0) rfl
  have c02 := cell_block HB4.out.a 2 (.string s0) rfl
  have c10 := cell_block HB4.out.b 0 (.int .i64 i1) rfl
  have c11 := cell_block HB4.out.b 1 (.int .i64 j1) rfl
  have c12 := cell_block HB4.out.b 2 (.string s1) rfl
  go_wp2_with fail
  with_reducible refine (Cq.out _).mono ?_
  rintro e w5 ⟨rfl, hb5⟩
  have HB5 : Hid (P2 w #[.int .i64 i0, .int .i64 j0, .string s0] #[.int .i64 i1, .int .i64 j1, .string s1] w5) := HB4.out.next hb5
  clear hb5 HB4 Cq
  clear c00 c01 c02 c10 c11 c12
  have c00 := cell_block HB5.out.a 0 (.int .i64 i0) rfl
  have c01 := cell_block HB5.out.a 1 (.int .i64 j0) rfl
  have c02 := cell_block HB5.out.a 2 (.string s0) rfl
  have c10 := cell_block HB5.out.b 0 (.int .i64 i1) rfl
  have c11 := cell_block HB5.out.b 1 (.int .i64 j1) rfl
  have c12 := cell_block HB5.out.b 2 (.string s1) rfl
  cases x <;> cases y
  all_goals (go_wp2; go_ret; exact ⟨rfl, HB5.out.low⟩)

namespace pathLess
open Go.ChangeShapes Go.WideShapes Go.ChangeAt Go.RowKit
open Go.ChangeMaps (open_string shut_string)
theorem own : ownKnob Try.prog.godebug = none := by kernel_rfl
theorem laidOut : laidOutB Try.prog = true := by kernel_rfl
set_option maxRecDepth 100000 in
theorem lifted (os : Os) (started : os.Started) (H : Type) (enc : TypeId × Value → H) :
    ReturnsInHanded {} Try.checked os 6 .any (Rows.pathLessSpec.pre6 enc Try.prog Try.f6 Rows.pathLessRow.domain false) (Rows.pathLessSpec.post enc Try.prog Try.f6 false true false false) := by
  refine returnsInHanded_of_change_sized (C := Try.checked) own started (by kernel_rfl) Try.func6
    (ChangeSpec.witness6 (enc := enc) (C := Try.checked) false ⟨#[], #[.agg #[.int .i64 0, .int .i64 0, .string { data := #[] }], .agg #[.int .i64 0, .int .i64 0, .string { data := #[] }]], []⟩ 8 (by kernel_rfl) (by kernel_rfl) (by kernel_rfl) (by kernel_rfl)) ?_
  intro W base args ds gs before hval0 hW _ hsz0 _
  have hval : ∀ (j : Nat) t v, Try.f6.params[j]? = some t → args[j]? = some v → Value.okWide Try.prog W .any base t v := hval0
  have hsz : (DataW.weightsEach Try.prog (Try.f6.params.toList ++ Rows.pathLessSpec.plain.varTypes Try.prog) (ds ++ gs)).all (· ≤ reachBytes) = true := hsz0
  have hW' := hW
  obtain ⟨p, q, hA0, hV, rfl, hfz, hnd⟩ := hW
  have hA : DataW.TrodAll enc Try.prog W 0 (fun _ => true) true Try.f6.params.toList args.toList ds p := hA0
  rw [Try.params6] at hA hval hsz
  obtain ⟨v0, vs0, d0, ds0, p0, q0, hargs, rfl, rfl, h0, r0⟩ := trodAll_cons hA
  obtain ⟨v1, vs1, d1, ds1, p1, q1, rfl, rfl, rfl, h1, r1⟩ := trodAll_cons r0
  obtain ⟨rfl, rfl, rfl⟩ := trodAll_nil r1
  obtain rfl : args = #[v0, v1] := by cases args; simp_all
  obtain ⟨rfl, rfl⟩ := trodVars_none hV
  have hw : ∀ (j : Nat) (t : TypeId) (d : DataW H), ([33, 33] ++ Rows.pathLessSpec.plain.varTypes Try.prog)[j]? = some t → ([d0, d1] ++ [])[j]? = some d → ∀ n ∈ d.weights Try.prog t, n ≤ reachBytes := fun j t d ht hd n hn =>
    of_decide_eq_true (List.all_eq_true.1 hsz _ (DataW.weights_mem_each ht hd n hn))
  obtain ⟨cs0, rfl, hcs0⟩ := okWide_struct Try.underlying33 (hval 0 33 v0 rfl rfl)
  have lt0 : ∀ x ∈ p0, x.block < W.heap.size := by obtain ⟨m, hm⟩ := h0; exact DataW.trod_lt m _ _ _ hm
  obtain ⟨pi0, pj0, ps0, e0, in0, wi0, wj0⟩ := path_in hcs0 h0 (hw 0 33 d0 rfl rfl)
  subst e0
  obtain ⟨cs1, rfl, hcs1⟩ := okWide_struct Try.underlying33 (hval 1 33 v1 rfl rfl)
  have lt1 : ∀ x ∈ p1, x.block < W.heap.size := by obtain ⟨m, hm⟩ := h1; exact DataW.trod_lt m _ _ _ hm
  obtain ⟨pi1, pj1, ps1, e1, in1, wi1, wj1⟩ := path_in hcs1 h1 (hw 1 33 d1 rfl rfl)
  subst e1
  clear hA0 hval0
  refine (less_walk pi0 pj0 ps0 pi1 pj1 ps1 W in0 wi0 wj0 in1 wi1 wj1).mono fun e W' ⟨he, bel⟩ => ?_
  subst he
  exact ⟨_, rfl, _, _, _, [], _, [], hW', trodAll_mk1 (shut_bool Try.underlying4 _), (trodAll_cons_mk (Below.trod laidOut (by kernel_rfl) (of_decide_eq_true (by kernel_rfl)) h0 bel lt0) (trodAll_cons_mk (Below.trod laidOut (by kernel_rfl) (of_decide_eq_true (by kernel_rfl)) h1 bel lt1) trodAll_mk0)), rfl, bel.frame _, fun h => by cases h⟩
end pathLess

theorem pathLess_holds : Rows.PathLessSaid :=
  OpenClaim.holds_of_wide 6 Try.f6 rfl rfl rfl rfl rfl rfl rfl ⟨rfl, rfl, rfl, rfl, rfl⟩ rfl rfl rfl rfl rfl (by kernel_rfl) Try.func6 (by kernel_rfl)
    (of_decide_eq_true (by kernel_rfl)) (by unfold Func.isWrapper; first | (rw [if_pos (by decide +kernel)]; kernel_rfl) | (rw [if_neg (by decide +kernel)]; exact ⟨rfl, rfl⟩))
    (fun os started H enc _ => pathLess.lifted os started H enc)

end Go.Proofs.Ytegndeefddlccaa
