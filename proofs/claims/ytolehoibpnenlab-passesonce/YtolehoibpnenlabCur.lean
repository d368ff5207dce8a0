/-
  The cursor: here, sees, next; the parser's wrong, tooMany, sign.
-/
import Derived.Test.YtolehoibpnenlabSynMem
import Derived.WalkKit
namespace Go.Proofs.Ytolehoibpnenlab
open Go.RowKit Go.Deep
theorem blk {w : World} {g i : Nat} {cs : Array Value} {ty : TypeId} {u : Value} (h : w.heap[g]? = some (.cells cs ty (0, 0))) (hi : cs[i]? = some u) : w.cell? ⟨g, i, none⟩ = some u := by
  rw [cell_of_row w g i _ _ _ h]; exact hi
theorem below_box' {w w1 : World} {o : Obj} (hb : Below (w.alloc o).heap.size (w.alloc o) w1) : Below w.heap.size w w1 :=
  ((Below.refl _ _).alloc (Nat.le_refl _) o).trans (hb.mono (by simp))
end Go.Proofs.Ytolehoibpnenlab
