/-
  The document's Depth, SameExpr, placesExpr.
-/
import Derived.Test.YtpeldiibjhffiaaDoorG19
import Derived.Test.YtpeldiibjhffiaaDoorDrawn
namespace Go.Proofs.YtpeldiibjhffiaaDoor
open Go.RowKit Go.Deep

/-- Expressions but for places. -/
def sameE (a b : Ex) : Bool := sameH a.1 b.1 && sameF a.2 b.2
/-- The places of two lists that are the same. -/
def plF : Fo → Fo → Bool
  | .node _ _ h k r, .node _ _ h' k' r' => decide (h.pl = h'.pl) && (plF k k' && plF r r')
  | _, _ => true
def plE (a b : Ex) : Bool := decide (a.1.pl = b.1.pl) && plF a.2 b.2
theorem below_two (w : World) (o o' : Obj) : Below w.heap.size w ((w.alloc o).alloc o') := ((Below.refl _ _).alloc (Nat.le_refl _) o).alloc (by simp) o'
theorem twoN_new (w : World) (o o' : Obj) : ((w.alloc o).alloc o').heap[w.heap.size + 1]? = some o' := by
  have := heap_alloc_new (w.alloc o) o'
  rwa [show (w.alloc o).heap.size = w.heap.size + 1 by simp] at this

end Go.Proofs.YtpeldiibjhffiaaDoor
