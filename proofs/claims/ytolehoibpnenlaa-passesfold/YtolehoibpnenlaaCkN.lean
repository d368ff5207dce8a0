/-
  What was said so far in memory: the checker's block, its rows, the names; a world that is as it was but for some blocks. The checker's block and its rows: what a store, an append leaves of them; what may be said so far.
-/
import Derived.ArgAppend
import Derived.Maps.OwnSet
import Derived.StringKeys
import Derived.Test.YtolehoibpnenlaaMem
import Derived.Test.YtolehoibpnenlaaCkB
namespace Go.Proofs.Ytolehoibpnenlaa
open Go.RowKit Go.Deep Go.Maps
def dfCells (d : Df) : List Value := [.int .i64 d.op, .int .i64 d.num, .int .i64 d.a, .int .i64 d.b]
def dfRow (l : List Df) : List Value := l.flatMap dfCells
def itRow (l : List Int) : List Value := l.map (.int .i64 ·)
def pcCells (p : Int × Int) : List Value := [.int .i64 p.1, .int .i64 p.2]
def pcRow (l : List (Int × Int)) : List Value := l.flatMap pcCells
theorem itRow_snoc (l : List Int) (d : Int) : itRow (l ++ [d]) = itRow l ++ [.int .i64 d] := by simp [itRow]
end Go.Proofs.Ytolehoibpnenlaa
namespace Go.Proofs.Ytolehoibpnenlaa
open Go.RowKit Go.Deep Go.Maps
section
variable {O : Nat → Prop} {b : Nat} {w w' : World}
theorem own_isI {base : Nat} {v : Value} {l : List Int} (h : w.ownsRow base 3 1 v l.length (itRow l)) : ∃ ao cap, v = .slice ao l.length cap ∧ IsI w ao l := by
  obtain ⟨ao, cap, rfl⟩ := owned_shape h
  refine ⟨ao, cap, rfl, fun i z hi => ?_⟩
  have hlt : i < l.length := (List.getElem?_eq_some_iff.1 hi).1
  obtain ⟨g, cap', e, _⟩ := owned_some h (by omega)
  cases e
  refine ⟨g, 0, rfl, ?_⟩
  rw [Nat.zero_add]
  exact (owned_cells h i _ (by simp [itRow, hi])).1
end
section
variable {O : Nat → Prop} {b : Nat} {w : World}
end
end Go.Proofs.Ytolehoibpnenlaa
