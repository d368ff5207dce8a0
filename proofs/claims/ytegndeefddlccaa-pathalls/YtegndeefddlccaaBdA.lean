/-
  The walks of isShape, areNumbers and Right, and the document's Gaps and Right.
-/
import Derived.Test.YtegndeefddlccaaBdM
namespace Go.Proofs.Ytegndeefddlccaa
open Go.RowKit

theorem sq_bd {a : Int} (h1 : 2 ≤ a) (h2 : a ≤ 20) : 0 ≤ a * a ∧ a * a ≤ 400 := by
  have h3 : a * a ≤ 20 * 20 := Int.mul_le_mul h2 h2 (by omega) (by omega)
  have h4 : 0 ≤ a * a := Int.mul_nonneg (by omega) (by omega)
  omega
theorem shapeB_eq (m : Md) {sn gn : Nat} (h1 : m.subst.length = sn) (h2 : m.gaps.length = gn) (b : Bool) (h : (2 ≤ m.letters ∧ m.letters ≤ 20 ∧ (sn : Int) = m.letters * m.letters ∧ gn ≤ 4 ∧ 1 ≤ m.mode ∧ m.mode ≤ 4) ↔ b = true) : shapeB m = b := by
  unfold shapeB
  rw [h1, h2]
  cases b
  · rw [decide_eq_false_iff_not, h]; simp
  · rw [decide_eq_true_iff, h]

set_option maxHeartbeats 1000000 in
theorem isShape_calls (m : Md) (sa : Option Addr) (sn sc : Nat) (ga : Option Addr) (gn gc : Nat) (w : World) (h : MdAt w m sa sn ga gn) :
    Calls Try.prog 70 #[.agg (mdCells m sa sn sc ga gn gc)] w fun e w' => e = .returned (.bool (shapeB m)) ∧ Below w.heap.size w w' := by
  have HS : ∀ b : Bool, ((2 ≤ m.letters ∧ m.letters ≤ 20 ∧ (sn : Int) = m.letters * m.letters ∧ gn ≤ 4 ∧ 1 ≤ m.mode ∧ m.mode ≤ 4) ↔ b = true) → shapeB m = b := shapeB_eq m h.subst.length h.gaps.length
  have hs := h.subst.short
  have hg := h.gaps.short
  unfold maxLen at hs hg
  clear h
  obtain ⟨L, su, gp, mo, bd, lo, hi, fr, bk, le⟩ := m
  generalize hsh : shapeB _ = r at *
  clear hsh
  unfold mdCells
  simp only at HS ⊢
  have H : Hid (∀ b : Bool, ((2 ≤ L ∧ L ≤ 20 ∧ (sn : Int) = L * L ∧ gn ≤ 4 ∧ 1 ≤ mo ∧ mo ≤ 4) ↔ b = true) → r = b) := HS
  clear HS
  by_cases h1 : L < 2
  · go_enter Try.func70, Try.ntmps70
    go_wp2
    go_ret
    exact ⟨ret_bool (H.out false (by simp; omega)).symm, (Below.refl _ _).alloc (Nat.le_refl _) _⟩
  · by_cases h2 : 20 < L
    · go_enter Try.func70, Try.ntmps70
      go_wp2
      go_ret
      exact ⟨ret_bool (H.out false (by simp; omega)).symm, (Below.refl _ _).alloc (Nat.le_refl _) _⟩
    · have hsq := sq_bd (a := L) (by omega) (by omega)
      by_cases h3 : (sn : Int) = L * L
      · have h3b : ((sn : Int) == L * L) = true := by simpa using h3
        have H3 : Hid ((sn : Int) = L * L) := h3
        clear h3
        by_cases h4 : gn ≤ 4
        · have h4b : decide ((gn : Int) ≤ 4) = true := by simp; omega
          by_cases h5 : 1 ≤ mo
          · go_enter Try.func70, Try.ntmps70
            go_wp2
            go_ret
            exact ⟨ret_bool (H.out (decide (mo ≤ 4)) (by rw [decide_eq_true_iff]; exact ⟨fun h => h.2.2.2.2.2, fun h => ⟨by omega, by omega, H3.out, h4, h5, h⟩⟩)).symm, (Below.refl _ _).alloc (Nat.le_refl _) _⟩
          · have h5b : decide (1 ≤ mo) = false := by simpa using h5
            go_enter Try.func70, Try.ntmps70
            go_wp2
            go_ret
            exact ⟨ret_bool (H.out false (by simp; omega)).symm, (Below.refl _ _).alloc (Nat.le_refl _) _⟩
        · have h4b : decide ((gn : Int) ≤ 4) = false := by simp; omega
          go_enter Try.func70, Try.ntmps70
          go_wp2
          go_ret
          exact ⟨ret_bool (H.out false (by simp; omega)).symm, (Below.refl _ _).alloc (Nat.le_refl _) _⟩
      · have h3b : ((sn : Int) == L * L) = false := by simpa using h3
        go_enter Try.func70, Try.ntmps70
        go_wp2
        go_ret
        exact ⟨ret_bool (H.out false (by simp [h3])).symm, (Below.refl _ _).alloc (Nat.le_refl _) _⟩
end Go.Proofs.Ytegndeefddlccaa
