/-
  The document's worth: runs.
-/
import Derived.Test.YtegndeefddlccaaPqC
namespace Go.Proofs.Ytegndeefddlccaa
open Go.RowKit

theorem wGo_run {m : Md} {xs ys : List Int} {nx ny : Nat} {cols : List UInt8} {c : UInt8} (h77 : c ≠ 77) : ∀ (n k : Nat) (i j s g : Int), 1 ≤ n → (∀ t, t < n → cols[k + t]? = some c) → cols[k + n]? ≠ some c → stepsB m nx ny i j (cols.drop k) = true →
    wGo m xs ys i j s g (cols.drop k) = wGo m xs ys (i + n * dnB c) (j + n * ovB c) (wrap64 (s - leastB (g + n) m.gaps)) 0 (cols.drop (k + n)) ∧ hasB m nx ny (i + n * dnB c) (j + n * ovB c) = true ∧ stepsB m nx ny (i + n * dnB c) (j + n * ovB c) (cols.drop (k + n)) = true := by
  intro n
  induction n with
  | zero => intro k i j s g h; omega
  | succ n ih =>
    intro k i j s g _ hall hend hst
    have h0 := hall 0 (by omega)
    rw [Nat.add_zero] at h0
    rw [wGo_cons h0, if_neg h77]
    rw [stepsB_cons h0] at hst
    simp only [Bool.and_eq_true] at hst
    obtain ⟨⟨hgo, hhas⟩, hst2⟩ := hst
    by_cases hn : n = 0
    · subst hn
      rw [if_neg hend]
      exact ⟨by simp, by simpa using hhas, by simpa using hst2⟩
    · have h1 := hall 1 (by omega)
      rw [if_pos h1]
      have := ih (k + 1) (i + dnB c) (j + ovB c) s (g + 1) (by omega) (fun t ht => by have := hall (t + 1) (by omega); rw [← this]; congr 1; omega) (by rw [show k + 1 + n = k + (n + 1) by omega]; exact hend) hst2
      rw [show k + 1 + n = k + (n + 1) by omega] at this
      rw [show i + dnB c + (n : Int) * dnB c = i + ((n + 1 : Nat) : Int) * dnB c by rw [Int.natCast_add, Int.add_mul]; omega, show j + ovB c + (n : Int) * ovB c = j + ((n + 1 : Nat) : Int) * ovB c by rw [Int.natCast_add, Int.add_mul]; omega, show g + 1 + (n : Int) = g + ((n + 1 : Nat) : Int) by omega] at this
      exact this
theorem run_few {m : Md} {nx ny : Nat} {i j : Int} {n : Nat} {c : UInt8} (hk : c = 68 ∨ c = 73) (h1 : 0 ≤ i) (h2 : 0 ≤ j) (h : hasB m nx ny (i + n * dnB c) (j + n * ovB c) = true) : n ≤ max nx ny := by
  have hc := hasB_cells h
  rcases hk with rfl | rfl
  · have e1 : dnB 68 = 1 := rfl
    rw [e1] at hc
    omega
  · have e1 : ovB 73 = 1 := rfl
    rw [e1] at hc
    omega

end Go.Proofs.Ytegndeefddlccaa
