/-
  The checker's block and its rows: what a store, an append leaves of them; what may be said so far.
-/
import Derived.Test.YtolehoibpnenlabCkM
namespace Go.Proofs.Ytolehoibpnenlab
open Go.RowKit Go.Deep Go.Maps
section
variable {O : Nat → Prop} {b : Nat} {w w' : World}
theorem own_isI {base : Nat} {v : Value} {l : List Int} (h : w.ownsRow base 3 1 v l.length (itRow l)) : ∃ ao cap, v = .slice ao l.length cap ∧ IsI w ao l := by
  obtain ⟨ao, cap, rfl⟩ := owned_shape h
  refine ⟨ao, cap, rfl, fun i z hi => ?_⟩
  have hlt : i < l.length := (List.getElem?_eq_some_iff.1 hi).1
  obtain ⟨g, cap', e, _⟩ := owned_some h (by omega)
  cases e
  refine ⟨g, 0, rfl, ?_⟩
  rw [Nat.zero_add]
  exact (owned_cells h i _ (by simp [itRow, hi])).1
end
section
variable {O : Nat → Prop} {b : Nat} {w : World}
end
end Go.Proofs.Ytolehoibpnenlab
