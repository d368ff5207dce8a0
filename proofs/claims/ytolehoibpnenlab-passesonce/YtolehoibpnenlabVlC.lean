/-
  Places of definitions: arePlaces.
-/
import Derived.Test.YtolehoibpnenlabVlB
namespace Go.Proofs.Ytolehoibpnenlab
open Go.RowKit Go.Deep Go.Maps
/-- Numbers that can be read in a world. -/
structure IntA (w : World) (ao : Option Addr) (n : Nat) (l : List Int) : Prop where
  length : l.length = n
  short : n ≤ maxLen
  isI : IsI w ao l
theorem IntA.below {w w' : World} {ao : Option Addr} {n : Nat} {l : List Int} (h : IntA w ao n l) (hb : Below w.heap.size w w') : IntA w' ao n l := ⟨h.length, h.short, h.isI.below hb⟩
theorem intA_new {W : World} {l : List Int} {g : Nat} (hg : g = W.heap.size) (hs : l.length ≤ maxLen) : IntA (W.alloc (.cells (itRow l).toArray 3)) (some ⟨g, 0, none⟩) l.length l := by
  subst hg
  refine ⟨rfl, hs, fun i v hi => ⟨_, 0, rfl, ?_⟩⟩
  rw [Nat.zero_add]
  exact blk (heap_alloc_new W _) (by simp [itRow, hi])
theorem intA_own {w : World} {base : Nat} {vo : Option Addr} {n vc : Nat} {vs : List Int} (h : w.ownsRow base 3 1 (.slice vo n vc) n (itRow vs)) (hl : vs.length = n) (hs : n ≤ maxLen) : IntA w vo n vs := ⟨hl, hs, own_isI' h hl⟩
end Go.Proofs.Ytolehoibpnenlab
