/-
  A run in memory: its box, the table's, the planes' slots.
-/
import Derived.Test.YtnkfibahkmmnpaaGreatKad
import Derived.Test.YtnkfibahkmmnpaaGreatVrE
import Derived.Test.YtnkfibahkmmnpaaGreatVdM
namespace Go.Proofs.YtnkfibahkmmnpaaGreat
open Go.RowKit

def ctCell (c : Ct) (m : Nat) : Value := if m = 0 then .bool c.has else if m = 1 then .int .u16 c.mask else .int .i64 c.num
def slC (f : Nat → Ct) (n : Nat) : Array Value := Array.ofFn (n := n * 3) fun i => ctCell (f (i.val / 3)) (i.val % 3)
theorem slC_size (f : Nat → Ct) (n : Nat) : (slC f n).size = n * 3 := by simp [slC]
theorem slC_get (f : Nat → Ct) (n : Nat) {k m : Nat} (hk : k < n) (hm : m < 3) : (slC f n)[k * 3 + m]? = some (ctCell (f k) m) := by
  have h1 : (k * 3 + m) / 3 = k := by omega
  have h2 : (k * 3 + m) % 3 = m := by omega
  have h3 : k * 3 + m < n * 3 := by omega
  simp [slC, h1, h2, h3]
theorem slC_set (f : Nat → Ct) (n k : Nat) (x : Ct) : (((slC f n).setIfInBounds (k * 3) (ctCell x 0)).setIfInBounds (k * 3 + 1) (ctCell x 1)).setIfInBounds (k * 3 + 2) (ctCell x 2) = slC (updC f k x) n := by
  apply Array.ext_getElem?
  intro j
  by_cases hj : j < n * 3
  · have e1 : (slC f n)[j]? = some (ctCell (f (j / 3)) (j % 3)) := by simp [slC, hj]
    have e2 : (slC (updC f k x) n)[j]? = some (ctCell (updC f k x (j / 3)) (j % 3)) := by simp [slC, hj]
    rw [e2]
    simp only [Array.getElem?_setIfInBounds, Array.size_setIfInBounds, slC_size, e1]
    by_cases ek : j / 3 = k
    · rw [ek, updC_same]
      have : j % 3 = 0 ∨ j % 3 = 1 ∨ j % 3 = 2 := by omega
      rcases this with e | e | e
      · have : j = k * 3 := by omega
        subst this; simp [e, hj]
      · have : j = k * 3 + 1 := by omega
        subst this; simp [e, hj]
      · have : j = k * 3 + 2 := by omega
        subst this; simp [e, hj]
    · rw [updC_ne _ _ ek, if_neg (by omega), if_neg (by omega), if_neg (by omega)]
  · rw [Array.getElem?_eq_none (by simp [slC_size]; omega), Array.getElem?_eq_none (by rw [slC_size]; omega)]
/-- The table's box: planes, arrows, ends, steps. -/
def tbCells (P X Y gs n : Nat) (sa : Sl) (e : En) (st : Int) : Array Value :=
  #[.int .i64 P, .int .i64 X, .int .i64 Y, .slice (some ⟨gs, 0, none⟩) n n, .slice sa.a sa.n sa.c, .bool e.found, .int .i64 e.score, .int .i64 e.i, .int .i64 e.j, .bool (e.planes 0), .bool (e.planes 1), .bool (e.planes 2), .bool (e.planes 3), .bool (e.planes 4), .bool (e.planes 5), .bool (e.planes 6), .bool (e.planes 7), .bool (e.planes 8), .bool (e.planes 9), .int .i64 st]
/-- A table in memory, at g, its slots at gs. -/
structure Tb (w : World) (g gs P X Y : Nat) (sa : Sl) (f : Nat → Ct) (e : En) (st : Int) : Prop where
  box : w.heap[g]? = some (.cells (tbCells P X Y gs (P * (X + 1) * (Y + 1)) sa e st) 90 (0, 0))
  row : w.heap[gs]? = some (.cells (slC f (P * (X + 1) * (Y + 1))) 50 (0, 0))
  few : P ≤ 10 ∧ (X + 1) * (Y + 1) ≤ 1048576
section
variable {w w2 : World} {g gs P X Y : Nat} {sa : Sl} {f : Nat → Ct} {e : En} {st : Int}
theorem Tb.next (h : Tb w g gs P X Y sa f e st) (hb : Below w.heap.size w w2) : Tb w2 g gs P X Y sa f e st := ⟨by rw [hb.block _ (lt_block h.box)]; exact h.box, by rw [hb.block _ (lt_block h.row)]; exact h.row, h.few⟩
theorem Tb.cell (h : Tb w g gs P X Y sa f e st) (i : Nat) {v : Value} (hv : (tbCells P X Y gs (P * (X + 1) * (Y + 1)) sa e st)[i]? = some v) : w.cell? ⟨g, i, none⟩ = some v := cell_block h.box i v hv
theorem Tb.fz (h : Tb w g gs P X Y sa f e st) (i : Nat) : w.frozen? ⟨g, i, none⟩ = false := frozen_of_row w g i _ _ h.box
theorem Tb.slot (h : Tb w g gs P X Y sa f e st) {k m : Nat} (hk : k < P * (X + 1) * (Y + 1)) (hm : m < 3) : w.cell? ⟨gs, k * 3 + m, none⟩ = some (ctCell (f k) m) ∧ w.frozen? ⟨gs, k * 3 + m, none⟩ = false :=
  ⟨cell_block h.row _ _ (slC_get f _ hk hm), frozen_of_row w gs _ _ _ h.row⟩
/-- A slot is kept. -/
theorem Tb.keep (h : Tb w g gs P X Y sa f e st) (k : Nat) (q : Bool) (m n : Int) : Tb (((w.setCell ⟨gs, k * 3, none⟩ (.bool q)).setCell ⟨gs, k * 3 + 1, none⟩ (.int .u16 m)).setCell ⟨gs, k * 3 + 2, none⟩ (.int .i64 n)) g gs P X Y sa (updC f k ⟨q, m, n⟩) e st := by
  have r0 := heap_setCell_same w gs (k * 3) _ 50 (.bool q) h.row
  have r1 := heap_setCell_same _ gs (k * 3 + 1) _ 50 (.int .u16 m) r0
  have r2 := heap_setCell_same _ gs (k * 3 + 2) _ 50 (.int .i64 n) r1
  have hne : g ≠ gs := fun e' => by have := h.box; rw [e', h.row] at this; injection this with t1; injection t1 with _ t2; exact absurd t2 (by decide)
  refine ⟨?_, ?_, h.few⟩
  · rw [Below.heap_setCell _ _ _ _ hne, Below.heap_setCell _ _ _ _ hne, Below.heap_setCell _ _ _ _ hne]; exact h.box
  · rw [r2]
    have := slC_set f (P * (X + 1) * (Y + 1)) k ⟨q, m, n⟩
    rw [← this]; rfl
theorem Tb.size (h : Tb w g gs P X Y sa f e st) : P * (X + 1) * (Y + 1) ≤ 10485760 := by
  have h1 := h.few
  have : P * ((X + 1) * (Y + 1)) ≤ 10 * 1048576 := Nat.mul_le_mul h1.1 h1.2
  rw [Nat.mul_assoc]; omega
end
end Go.Proofs.YtnkfibahkmmnpaaGreat
