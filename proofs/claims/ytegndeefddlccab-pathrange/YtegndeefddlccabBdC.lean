/-
  The walks of the document's Gaps and Right.
-/
import Derived.Test.YtegndeefddlccabBdB
import Derived.BigRegion
import Derived.Deep.RegionHeld3
namespace Go.Proofs.Ytegndeefddlccab
open Go.RowKit

theorem IntsAt.drew {w : World} {ao : Option Addr} {len : Nat} {zs : List Int} (h : IntsAt w ao len zs) : IntsAt w.drew ao len zs := ⟨h.length, h.short, h.cells⟩
theorem cell_alloc_old {W : World} {o : Obj} {p : Addr} {v : Value} (h : W.cell? p = some v) : (W.alloc o).cell? p = some v := by
  rw [((Below.refl W.heap.size W).alloc (Nat.le_refl _) o).cell (World.block_lt_of_cell? W p h)]
  exact h
def shapeR (L : Int) (sn : Nat) (mo : Int) : Bool := decide (2 ≤ L ∧ L ≤ 20 ∧ (sn : Int) = L * L ∧ 1 ≤ mo ∧ mo ≤ 4)
theorem fromB_three (least a b c : Int) : fromB least [a, b, c] = (fromB least [a] && fromB least [b, c]) := by
  simp [fromB]
theorem fromB_zero : fromB (-72057594037927936) [0, 0] = true := by decide
theorem rightR_eq (m : Md) {sn gn : Nat} (h1 : m.subst.length = sn) (h2 : m.gaps.length = gn) :
    rightM m = (shapeR m.letters sn m.mode && (fromB (-72057594037927936) m.subst && fromB (-72057594037927936) [m.least, m.lo, m.hi] && fromB 0 [m.front, m.back] && (gapsB m.gaps && decide (gn ≤ 4)) && (if m.banded then decide (m.lo ≤ m.hi) else decide (m.lo = 0 ∧ m.hi = 0)))) := by
  have hS : shapeB m = (shapeR m.letters sn m.mode && decide (gn ≤ 4)) := by
    unfold shapeB shapeR
    rw [h1, h2, ← Bool.decide_and]
    congr 1
    apply propext
    constructor
    · rintro ⟨a, b, c, d, e, f⟩; exact ⟨⟨a, b, c, e, f⟩, d⟩
    · rintro ⟨⟨a, b, c, e, f⟩, d⟩; exact ⟨a, b, c, d, e, f⟩
  unfold rightM numbersB bandB
  rw [hS, fromB_three]
  generalize shapeR m.letters sn m.mode = q1
  generalize decide (gn ≤ 4) = q2
  generalize gapsB m.gaps = q3
  generalize fromB 0 [m.front, m.back] = q4
  generalize fromB (-72057594037927936) [m.least] = q5
  generalize fromB (-72057594037927936) m.subst = q6
  cases hb : m.banded
  · by_cases h0 : m.lo = 0 ∧ m.hi = 0
    · rw [h0.1, h0.2, fromB_zero]
      revert q1 q2 q3 q4 q5 q6; decide
    · have e : decide (m.lo = 0 ∧ m.hi = 0) = false := by simpa using h0
      rw [e]
      generalize decide (m.lo ≤ m.hi) = q8
      generalize fromB (-72057594037927936) [m.lo, m.hi] = q7
      revert q1 q2 q3 q4 q5 q6 q7 q8; decide
  · generalize fromB (-72057594037927936) [m.lo, m.hi] = q7
    generalize decide (m.lo ≤ m.hi) = q8
    generalize decide (m.lo = 0 ∧ m.hi = 0) = q9
    revert q9 q1 q2 q3 q4 q5 q6 q7 q8; decide
end Go.Proofs.Ytegndeefddlccab
