/-
  A block of the call's own whose cells are known one by one: what is read, written and kept.
-/
import Derived.Test.YtefngikfidlojaaLists
import Derived.Laws.CopyOwn
namespace Go.Proofs.Ytefngikfidlojaa
open Go.RowKit

theorem block_owned {w : World} {base g n : Nat} {e : TypeId} {xs : List Value} (h : w.ownsRow base e 1 (.slice (some ⟨g, 0, none⟩) n n) n xs) : w.heap[g]? = some (.cells xs.toArray e (0, 0)) := by
  rcases h.2 with ⟨hv, _⟩ | ⟨g', cap, cur, hv, hb, hg, hnc, hcm, hcs, ht⟩
  · cases hv
  · cases hv
    rw [hg]
    have : cur.toList = xs := by rw [← ht, List.take_of_length_le (by simp [hcs])]
    rw [← this]
theorem cell_block {w : World} {g : Nat} {e : TypeId} {xs : List Value} (h : w.heap[g]? = some (.cells xs.toArray e (0, 0))) (j : Nat) (u : Value) (hj : xs[j]? = some u) : w.cell? ⟨g, j, none⟩ = some u := by
  rw [cell_of_row w g j xs.toArray e (0, 0) h]; simpa using hj
theorem frozen_block {w : World} {g : Nat} {e : TypeId} {xs : List Value} (h : w.heap[g]? = some (.cells xs.toArray e (0, 0))) (j : Nat) : w.frozen? ⟨g, j, none⟩ = false :=
  frozen_of_row w g j xs.toArray e h
theorem put_block {w : World} {g : Nat} {e : TypeId} {xs : List Value} (h : w.heap[g]? = some (.cells xs.toArray e (0, 0))) (j : Nat) (u : Value) : (w.setCell ⟨g, j, none⟩ u).heap[g]? = some (.cells (xs.set j u).toArray e (0, 0)) := by
  have := heap_setCell_same w g j xs.toArray e u h
  rw [this]; simp
theorem lt_block {w : World} {g : Nat} {o : Obj} (h : w.heap[g]? = some o) : g < w.heap.size := (Array.getElem?_eq_some_iff.1 h).1
theorem block_below {w w' : World} {g : Nat} {o : Obj} (h : w.heap[g]? = some o) (hb : Below w.heap.size w w') : w'.heap[g]? = some o := by
  rw [hb.block g (lt_block h)]; exact h

end Go.Proofs.Ytefngikfidlojaa
