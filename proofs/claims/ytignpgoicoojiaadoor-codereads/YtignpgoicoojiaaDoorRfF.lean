/-
  How great the document's numbers are.
-/
import Derived.Test.YtignpgoicoojiaaDoorRfE
namespace Go.Proofs.YtignpgoicoojiaaDoor
open Go.RowKit
theorem rnGo_lt (t : List UInt8) : ∀ (f k n i : Nat), n < 128 ^ k → (rnGo t f k n i).1 < 128 ^ (k + f)
  | 0, k, n, i, h => h
  | f + 1, k, n, i, h => by
    have h1 : 128 ^ k * ((t.getD i 0).toNat % 128) ≤ 128 ^ k * 127 := Nat.mul_le_mul_left _ (by omega)
    have h2 : n + 128 ^ k * ((t.getD i 0).toNat % 128) < 128 ^ (k + 1) := by rw [Nat.pow_succ]; omega
    rw [rnGo]
    split
    · exact Nat.lt_of_lt_of_le h2 (Nat.pow_le_pow_right (by omega) (by omega))
    · have := rnGo_lt t f (k + 1) _ (i + 1) h2
      rw [show k + 1 + f = k + (f + 1) by omega] at this
      exact this
theorem rnum_bd (t : List UInt8) (i : Nat) : -4611686018427387904 ≤ (rnum t i).1 ∧ (rnum t i).1 ≤ 4611686018427387904 := by
  have h := rnGo_lt t 9 0 0 i (by decide)
  rw [rnum]
  simp only
  generalize (rnGo t 9 0 0 i).1 = m at h
  have h2 : m < 9223372036854775808 := h
  unfold hlv
  split <;> omega
end Go.Proofs.YtignpgoicoojiaaDoor
