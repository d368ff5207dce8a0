/-
  A scheme of Check for Numbers; what the two sources of the chapter say.
-/
import Derived.Test.YtolehoibpnenlabCkM2
import Derived.Test.YtolehoibpnenlabCur
import Derived.Deep.RegionHeld3
import Derived.Deep.LoopGhost
import Derived.ArgAppend
import Derived.Test.YtolehoibpnenlabMem
import Derived.Test.YtolehoibpnenlabProg
import Derived.BigQuiet
import Derived.Deep.QuietTactic
import Derived.Recover
import Derived.Test.YtolehoibpnenlabCkL
import Derived.Deep.RegionLaw
import Derived.BigRegion
import Derived.Lib.Bytealg
import GoSem.Claim
import Derived.WalkKit
import Derived.WalkSmall
import Derived.Deep.RegionWith
import Derived.Laws.CopyOwn
import Derived.Lib.IndexLaws
import Derived.Test.YtolehoibpnenlabVlD
import Derived.Test.YtolehoibpnenlabVmE
namespace Go.Proofs.Ytolehoibpnenlab
open Go.RowKit Go.Deep Go.Maps
theorem pcs_own {w : World} {v : Value} {e : TypeId} {base : Nat} {l : List (Int × Int)} (h : w.ownsRow base e 2 v l.length (pcRow l)) (hs : l.length ≤ maxLen) : ∃ ao cap, v = .slice ao l.length cap ∧ PcsAt w ao l.length l := by
  obtain ⟨ao, cap, rfl⟩ := owned_shape h
  refine ⟨ao, cap, rfl, rfl, hs, fun h0 => ?_⟩
  obtain ⟨g, cap', e, _⟩ := owned_some h h0
  cases e
  refine ⟨g, 0, rfl, fun i d hi => ?_⟩
  have c : ∀ (j : Nat) (u : Value), (pcCells d)[j]? = some u → w.cell? ⟨g, 0 + (i * 2 + j), none⟩ = some u := fun j u hu => by
    rw [Nat.zero_add]
    exact (owned_cells h _ _ (flat_get (s := 2) (fun _ => rfl) l i d j u hi hu)).1
  exact ⟨c 0 _ rfl, c 1 _ rfl⟩
end Go.Proofs.Ytolehoibpnenlab
