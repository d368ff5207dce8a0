/-
  Expressions, items and the parser in memory; a world that is as it was but for one block. The cursor: here, sees, next; the parser's wrong, tooMany, sign.
-/
import Derived.WalkKit
import Derived.Test.YtolehoibpnenlabMa
namespace Go.Proofs.Ytolehoibpnenlab
open Go.RowKit Go.Deep
def InR (z : Int) : Prop := -9223372036854775808 ≤ z ∧ z ≤ 9223372036854775807
section
end
end Go.Proofs.Ytolehoibpnenlab
namespace Go.Proofs.Ytolehoibpnenlab
open Go.RowKit Go.Deep
theorem blk {w : World} {g i : Nat} {cs : Array Value} {ty : TypeId} {u : Value} (h : w.heap[g]? = some (.cells cs ty (0, 0))) (hi : cs[i]? = some u) : w.cell? ⟨g, i, none⟩ = some u := by
  rw [cell_of_row w g i _ _ _ h]; exact hi
theorem below_box' {w w1 : World} {o : Obj} (hb : Below (w.alloc o).heap.size (w.alloc o) w1) : Below w.heap.size w w1 :=
  ((Below.refl _ _).alloc (Nat.le_refl _) o).trans (hb.mono (by simp))
end Go.Proofs.Ytolehoibpnenlab
