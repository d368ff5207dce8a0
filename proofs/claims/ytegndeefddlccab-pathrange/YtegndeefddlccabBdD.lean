/-
  The walk of the document's Right.
-/
import Derived.Test.YtegndeefddlccabBdC
namespace Go.Proofs.Ytegndeefddlccab
open Go.RowKit

theorem decB {p : Prop} [Decidable p] {b : Bool} (h : p ↔ b = true) : decide p = b := by
  cases b
  · rw [decide_eq_false_iff_not, h]; simp
  · rw [decide_eq_true_iff, h]

end Go.Proofs.Ytegndeefddlccab
