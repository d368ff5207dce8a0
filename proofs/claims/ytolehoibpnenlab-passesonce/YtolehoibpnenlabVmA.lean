/-
  The document's small ones: ints, defs, times, Made.
-/
import Derived.Test.YtolehoibpnenlabMc
namespace Go.Proofs.Ytolehoibpnenlab
open Go.RowKit Go.Deep Go.Maps
theorem bdiv {a b : Int} (ha : 0 < a) : b > 144115188075855872 / a ↔ 144115188075855872 < a * b := by
  constructor
  · intro h
    have := Int.lt_mul_of_ediv_lt ha h
    rwa [Int.mul_comm] at this
  · intro h
    exact Int.ediv_lt_of_lt_mul ha (by rw [Int.mul_comm]; exact h)
theorem times_in (a b : Int) : inB maxV (a * b) = decide ((a.natAbs : Int) * b.natAbs ≤ 144115188075855872) := by
  have h := abs_mul_le (a := a) (b := b) _ rfl
  rw [Bool.eq_iff_iff, inB_iff, decide_eq_true_iff]
  have e : ((a.natAbs : Int) * b.natAbs) = ((a.natAbs * b.natAbs : Nat) : Int) := by simp
  rw [e]
  by_cases s : (a < 0) = (b < 0)
  · rw [h.1 s]; unfold maxV; omega
  · rw [h.2 s]; unfold maxV; omega
def madeR (op a b : Int) : Int := if op = 2 then -a else if op = 3 then a + b else if op = 4 then a - b else if op = 5 then a * b else if op = 6 then min a b else if op = 7 then max a b else 0
end Go.Proofs.Ytolehoibpnenlab
