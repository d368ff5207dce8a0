/-
  Whether all places of a scheme are some: arePlaces.
-/
import Derived.Test.YtolehoibpnenlabVlC
import Derived.Test.YtolehoibpnenlabCkM2
import Derived.Test.YtolehoibpnenlabCur
import Derived.Deep.RegionHeld3
import Derived.Deep.LoopGhost
import Derived.ArgAppend
import Derived.Test.YtolehoibpnenlabMem
import Derived.Test.YtolehoibpnenlabProg
import Derived.BigQuiet
import Derived.Deep.QuietTactic
import Derived.Recover
import Derived.Test.YtolehoibpnenlabCkL
import Derived.Deep.RegionLaw
import Derived.BigRegion
import Derived.Lib.Bytealg
import GoSem.Claim
import Derived.WalkKit
import Derived.WalkSmall
import Derived.Deep.RegionWith
namespace Go.Proofs.Ytolehoibpnenlab
open Go.RowKit Go.Deep Go.Maps
/-- Pieces that can be read in a world. -/
structure PcsAt (w : World) (ao : Option Addr) (n : Nat) (l : List (Int × Int)) : Prop where
  length : l.length = n
  short : n ≤ maxLen
  cells : 0 < n → ∃ g off, ao = some ⟨g, off, none⟩ ∧ ∀ (i : Nat) (p : Int × Int), l[i]? = some p → w.cell? ⟨g, off + i * 2, none⟩ = some (.int .i64 p.1) ∧ w.cell? ⟨g, off + i * 2 + 1, none⟩ = some (.int .i64 p.2)
theorem PcsAt.below {w w' : World} {ao : Option Addr} {n : Nat} {l : List (Int × Int)} (h : PcsAt w ao n l) (hb : Below w.heap.size w w') : PcsAt w' ao n l := by
  refine ⟨h.length, h.short, fun h0 => ?_⟩
  obtain ⟨g, off, e, hc⟩ := h.cells h0
  refine ⟨g, off, e, fun i q hi => ?_⟩
  obtain ⟨h1, h2⟩ := hc i q hi
  exact ⟨by rw [hb.cell (World.block_lt_of_cell? w _ h1)]; exact h1, by rw [hb.cell (World.block_lt_of_cell? w _ h2)]; exact h2⟩
theorem two_intA (W : World) (a b : Int) (g : Nat) (hg : g = W.heap.size) : IntA (W.alloc (.cells #[.int .i64 a, .int .i64 b] 3)) (some ⟨g, 0, none⟩) 2 [a, b] := intA_new (l := [a, b]) hg (by unfold maxLen; simp)
theorem one_intA (W : World) (a : Int) (g : Nat) (hg : g = W.heap.size) : IntA (W.alloc (.cells #[.int .i64 a] 3)) (some ⟨g, 0, none⟩) 1 [a] := intA_new (l := [a]) hg (by unfold maxLen; simp)
end Go.Proofs.Ytolehoibpnenlab
