/-
  Proved: whatever number of columns and whatever gaps are handed in, PathCosts answers true: path.Cost and the document's Cost tell the same; no condition but that what is handed in can be read.
-/
import Derived.Test.YtegndeefddlccaaPxA
import Derived.Test.YtegndeefddlccaaPxC
import Derived.Test.YtegndeefddlccaaPxO
import Derived.Test.YtegndeefddlccaaRows
import Derived.ProofKit
import Derived.OpenShut
import Derived.ShutString
import Derived.ChangeOld
import Derived.Below
namespace Go.Proofs.Ytegndeefddlccaa
open Go.RowKit

set_option maxHeartbeats 1000000 in
theorem costs_walk (k : Int) (ao : Option Addr) (len cap : Nat) (l : List (Int × Int)) (w : World) (h : GpsAt w ao len l) (_hl : len ≤ 8796093022208) :
    Calls Try.prog 3 #[.int .i64 k, .slice ao len cap] w fun e w' => e = .returned (.bool true) ∧ Below w.heap.size w w' := by
  have HM : Hid (GpsAt w ao len l) := h
  clear h
  go_enter Try.func3, Try.ntmps3
  go_wp2_with fail
  refine (awake_calls _).mono ?_
  rintro e w1 ⟨rfl, hb1⟩
  go_wp2_with fail
  refine (cost_calls k ao len cap l _ (HM.out.below hb1)).mono ?_
  rintro e w2 ⟨rfl, hb2⟩
  have hb12 := hb1.trans (hb2.mono hb1.size)
  obtain ⟨cv, hcv⟩ : ∃ cv, costV k l = cv := ⟨_, rfl⟩
  obtain ⟨ce, hce⟩ : ∃ ce, costE k l = ce := ⟨_, rfl⟩
  rw [hcv, hce]
  go_wp2_with fail
  refine (costR_calls k ao len cap l _ (HM.out.below hb12)).mono ?_
  rintro e w3 ⟨rfl, hb3⟩
  rw [hcv, hce]
  have e1 : (cv == cv) = true := by simp
  have e2 : (ce == ce) = true := by simp
  have HB : Hid (Below w.heap.size w w3) := hb12.trans (hb3.mono hb12.size)
  clear hb1 hb2 hb3 hb12 hcv hce
  go_wp2
  go_ret
  exact ⟨rfl, HB.out⟩

namespace pathCosts
open Go.ChangeShapes Go.WideShapes Go.ChangeAt Go.RowKit
open Go.ChangeMaps (open_string shut_string)
theorem own : ownKnob Try.prog.godebug = none := by kernel_rfl
theorem laidOut : laidOutB Try.prog = true := by kernel_rfl
set_option maxRecDepth 100000 in
theorem lifted (os : Os) (started : os.Started) (H : Type) (enc : TypeId × Value → H) :
    ReturnsInHanded {} Try.checked os 3 .any (Rows.pathCostsSpec.pre6 enc Try.prog Try.f3 Rows.pathCostsRow.domain false) (Rows.pathCostsSpec.post enc Try.prog Try.f3 false true false false) := by
  refine returnsInHanded_of_change_sized (C := Try.checked) own started (by kernel_rfl) Try.func3
    (ChangeSpec.witness6 (enc := enc) (C := Try.checked) false ⟨#[], #[.int .i64 0, .slice none 0 0], []⟩ 8 (by kernel_rfl) (by kernel_rfl) (by kernel_rfl) (by kernel_rfl)) ?_
  intro W base args ds gs before hval0 hW _ hsz0 _
  have hval : ∀ (j : Nat) t v, Try.f3.params[j]? = some t → args[j]? = some v → Value.okWide Try.prog W .any base t v := hval0
  have hsz : (DataW.weightsEach Try.prog (Try.f3.params.toList ++ Rows.pathCostsSpec.plain.varTypes Try.prog) (ds ++ gs)).all (· ≤ reachBytes) = true := hsz0
  have hW' := hW
  obtain ⟨p, q, hA0, hV, rfl, hfz, hnd⟩ := hW
  have hA : DataW.TrodAll enc Try.prog W 0 (fun _ => true) true Try.f3.params.toList args.toList ds p := hA0
  rw [Try.params3] at hA hval hsz
  obtain ⟨v0, vs0, d0, ds0, p0, q0, hargs, rfl, rfl, h0, r0⟩ := trodAll_cons hA
  obtain ⟨v1, vs1, d1, ds1, p1, q1, rfl, rfl, rfl, h1, r1⟩ := trodAll_cons r0
  obtain ⟨rfl, rfl, rfl⟩ := trodAll_nil r1
  obtain rfl : args = #[v0, v1] := by cases args; simp_all
  obtain ⟨rfl, rfl⟩ := trodVars_none hV
  have hw : ∀ (j : Nat) (t : TypeId) (d : DataW H), ([3, 22] ++ Rows.pathCostsSpec.plain.varTypes Try.prog)[j]? = some t → ([d0, d1] ++ [])[j]? = some d → ∀ n ∈ d.weights Try.prog t, n ≤ reachBytes := fun j t d ht hd n hn =>
    of_decide_eq_true (List.all_eq_true.1 hsz _ (DataW.weights_mem_each ht hd n hn))
  obtain ⟨a0, rfl, rfl, rfl, w0⟩ := open_int Try.underlying3 (hval 0 3 v0 rfl rfl) h0
  have lt1 : ∀ x ∈ p1, x.block < W.heap.size := by obtain ⟨m, hm⟩ := h1; exact DataW.trod_lt m _ _ _ hm
  obtain ⟨ao1, len1, cap1, l1, e1, few1, in1⟩ := gps_in h1 (hw 1 22 d1 rfl rfl)
  obtain ⟨ax1, nx1, cx1, rfl⟩ := okWide_slice Try.underlying22 (hval 1 22 v1 rfl rfl)
  obtain ⟨rfl, rfl, rfl⟩ : ax1 = ao1 ∧ nx1 = len1 ∧ cx1 = cap1 := by have e := e1; simp [Value.cells] at e; exact e
  clear hA0 hval0
  refine (costs_walk a0 ax1 nx1 cx1 l1 W in1 few1).mono fun e W' ⟨he, bel⟩ => ?_
  subst he
  exact ⟨_, rfl, _, _, _, [], _, [], hW', trodAll_mk1 (shut_bool Try.underlying4 _), (trodAll_cons_mk (shut_int Try.underlying3 w0) (trodAll_cons_mk (Below.trod laidOut (by kernel_rfl) (of_decide_eq_true (by kernel_rfl)) h1 bel lt1) trodAll_mk0)), rfl, bel.frame _, fun h => by cases h⟩
end pathCosts

theorem pathCosts_holds : Rows.PathCostsSaid :=
  OpenClaim.holds_of_wide 3 Try.f3 rfl rfl rfl rfl rfl rfl rfl ⟨rfl, rfl, rfl, rfl, rfl⟩ rfl rfl rfl rfl rfl (by kernel_rfl) Try.func3 (by kernel_rfl)
    (of_decide_eq_true (by kernel_rfl)) (by unfold Func.isWrapper; first | (rw [if_pos (by decide +kernel)]; kernel_rfl) | (rw [if_neg (by decide +kernel)]; exact ⟨rfl, rfl⟩))
    (fun os started H enc _ => pathCosts.lifted os started H enc)

end Go.Proofs.Ytegndeefddlccaa
