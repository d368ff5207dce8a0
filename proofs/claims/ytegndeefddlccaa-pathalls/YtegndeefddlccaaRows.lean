/-
  No cell of these rows narrows 'for every input' (looked for: loops, veiled, ifaces, maps, wideKeys, modest, calm, conditions, laid).
  DERIVED. THE GIVEN ROWS OF THIS SEAT. 6 by the template 'for every input the law returns true; each argument reads behind the call as it read before'; 0 by the template 'total and deterministic' (their statements: YtegndeefddlccaaTotals.lean).
  GIVEN WITH THE SEED: the statements are not yours to turn. If you find one false, say at which input.
  Laid BY PROGRAM, IN A SANDBOX (cutbox-rows.mjs): the forced cells as the released guide's own fill.sh prints them over the translation 7bb7d1fb93184a4c… (all of the seat's roots in one cut). By AI agents, Wed Nov 11 2026. No macro, syntax, notation, axiom, sorry.
-/
import Derived.Test.YtegndeefddlccaaChecked
import GoSem.Claim
import GoSem.ClaimJoined
import GoSem.ClaimMapViews
import Derived.JoinedTies
import Derived.KernelRfl
namespace Go.Proofs.Ytegndeefddlccaa
/- THE CELL 'sum', in the pinned program and in every row, IS THE sha256 OF THE DUMP (.gsa) THAT YtegndeefddlccaaProg.lean LOADS. Nothing in Lean hashes anything: it is a label: what it is worth is what the hold of that sum in a sandbox is worth. -/
noncomputable def Try.pinned : Pinned := { name := "ytegndeefddlccaa", sum := "7bb7d1fb93184a4c4ed134ce831aecdbcea8942865d441d32367285eb7489d69", checked := Try.checked }
namespace Rows
def none {H : Type} : Left H := { results := [], args := [] }

/-- 'helixlaw11.PathCosts': WHATEVER THE INPUT: true; the input reads as it did. -/
def pathCostsSpec : ChangeSpec := { name := "pathCosts", fn := fun _ => fun
  | [d1, d2] => { results := [.lit (.bool true)], args := [d1, d2] }
  | _ => none }
def pathCostsRow : OpenClaim := { program := "ytegndeefddlccaa", sum := "7bb7d1fb93184a4c4ed134ce831aecdbcea8942865d441d32367285eb7489d69", func := "helix/helixlaw11.PathCosts", spec := "pathCosts", unfollowed := true, recurses := true, apart := false }
def PathCostsSaid : Prop := pathCostsRow.holds Try.pinned (OpenSpec.ofChange pathCostsSpec)

/-- ITS FALSE NEIGHBOUR: 'it returns false'. Refute it at one input. -/
def pathCostsWrong : ChangeSpec := { name := "pathCosts", fn := fun _ => fun
  | [d1, d2] => { results := [.lit (.bool false)], args := [d1, d2] }
  | _ => none }
def PathCostsWrongFalsely : Prop := pathCostsRow.holds Try.pinned (OpenSpec.ofChange pathCostsWrong)

/-- 'helixlaw11.PathLegals': WHATEVER THE INPUT: true; the input reads as it did. -/
def pathLegalsSpec : ChangeSpec := { name := "pathLegals", fn := fun _ => fun
  | [d1, d2, d3, d4] => { results := [.lit (.bool true)], args := [d1, d2, d3, d4] }
  | _ => none }
def pathLegalsRow : OpenClaim := { program := "ytegndeefddlccaa", sum := "7bb7d1fb93184a4c4ed134ce831aecdbcea8942865d441d32367285eb7489d69", func := "helix/helixlaw11.PathLegals", spec := "pathLegals", unfollowed := true, recurses := true, apart := false }
def PathLegalsSaid : Prop := pathLegalsRow.holds Try.pinned (OpenSpec.ofChange pathLegalsSpec)

/-- ITS FALSE NEIGHBOUR: 'it returns false'. Refute it at one input. -/
def pathLegalsWrong : ChangeSpec := { name := "pathLegals", fn := fun _ => fun
  | [d1, d2, d3, d4] => { results := [.lit (.bool false)], args := [d1, d2, d3, d4] }
  | _ => none }
def PathLegalsWrongFalsely : Prop := pathLegalsRow.holds Try.pinned (OpenSpec.ofChange pathLegalsWrong)

/-- 'helixlaw11.PathAlls': WHATEVER THE INPUT: true; the input reads as it did. -/
def pathAllsSpec : ChangeSpec := { name := "pathAlls", fn := fun _ => fun
  | [d1, d2, d3] => { results := [.lit (.bool true)], args := [d1, d2, d3] }
  | _ => none }
def pathAllsRow : OpenClaim := { program := "ytegndeefddlccaa", sum := "7bb7d1fb93184a4c4ed134ce831aecdbcea8942865d441d32367285eb7489d69", func := "helix/helixlaw11.PathAlls", spec := "pathAlls", unfollowed := true, recurses := true, apart := false }
def PathAllsSaid : Prop := pathAllsRow.holds Try.pinned (OpenSpec.ofChange pathAllsSpec)

/-- ITS FALSE NEIGHBOUR: 'it returns false'. Refute it at one input. -/
def pathAllsWrong : ChangeSpec := { name := "pathAlls", fn := fun _ => fun
  | [d1, d2, d3] => { results := [.lit (.bool false)], args := [d1, d2, d3] }
  | _ => none }
def PathAllsWrongFalsely : Prop := pathAllsRow.holds Try.pinned (OpenSpec.ofChange pathAllsWrong)

/-- 'helixlaw11.PathLess': WHATEVER THE INPUT: true; the input reads as it did. -/
def pathLessSpec : ChangeSpec := { name := "pathLess", fn := fun _ => fun
  | [d1, d2] => { results := [.lit (.bool true)], args := [d1, d2] }
  | _ => none }
def pathLessRow : OpenClaim := { program := "ytegndeefddlccaa", sum := "7bb7d1fb93184a4c4ed134ce831aecdbcea8942865d441d32367285eb7489d69", func := "helix/helixlaw11.PathLess", spec := "pathLess", unfollowed := true, recurses := true, apart := false }
def PathLessSaid : Prop := pathLessRow.holds Try.pinned (OpenSpec.ofChange pathLessSpec)

/-- ITS FALSE NEIGHBOUR: 'it returns false'. Refute it at one input. -/
def pathLessWrong : ChangeSpec := { name := "pathLess", fn := fun _ => fun
  | [d1, d2] => { results := [.lit (.bool false)], args := [d1, d2] }
  | _ => none }
def PathLessWrongFalsely : Prop := pathLessRow.holds Try.pinned (OpenSpec.ofChange pathLessWrong)

/-- 'helixlaw11.PathOrder': WHATEVER THE INPUT: true; the input reads as it did. -/
def pathOrderSpec : ChangeSpec := { name := "pathOrder", fn := fun _ => fun
  | [d1, d2, d3] => { results := [.lit (.bool true)], args := [d1, d2, d3] }
  | _ => none }
def pathOrderRow : OpenClaim := { program := "ytegndeefddlccaa", sum := "7bb7d1fb93184a4c4ed134ce831aecdbcea8942865d441d32367285eb7489d69", func := "helix/helixlaw11.PathOrder", spec := "pathOrder", unfollowed := true, recurses := true, apart := false }
def PathOrderSaid : Prop := pathOrderRow.holds Try.pinned (OpenSpec.ofChange pathOrderSpec)

/-- ITS FALSE NEIGHBOUR: 'it returns false'. Refute it at one input. -/
def pathOrderWrong : ChangeSpec := { name := "pathOrder", fn := fun _ => fun
  | [d1, d2, d3] => { results := [.lit (.bool false)], args := [d1, d2, d3] }
  | _ => none }
def PathOrderWrongFalsely : Prop := pathOrderRow.holds Try.pinned (OpenSpec.ofChange pathOrderWrong)

/-- 'helixlaw11.PathSplits': WHATEVER THE INPUT: true; the input reads as it did. -/
def pathSplitsSpec : ChangeSpec := { name := "pathSplits", fn := fun _ => fun
  | [d1, d2, d3, d4] => { results := [.lit (.bool true)], args := [d1, d2, d3, d4] }
  | _ => none }
def pathSplitsRow : OpenClaim := { program := "ytegndeefddlccaa", sum := "7bb7d1fb93184a4c4ed134ce831aecdbcea8942865d441d32367285eb7489d69", func := "helix/helixlaw11.PathSplits", spec := "pathSplits", unfollowed := true, recurses := true, apart := false }
def PathSplitsSaid : Prop := pathSplitsRow.holds Try.pinned (OpenSpec.ofChange pathSplitsSpec)

/-- ITS FALSE NEIGHBOUR: 'it returns false'. Refute it at one input. -/
def pathSplitsWrong : ChangeSpec := { name := "pathSplits", fn := fun _ => fun
  | [d1, d2, d3, d4] => { results := [.lit (.bool false)], args := [d1, d2, d3, d4] }
  | _ => none }
def PathSplitsWrongFalsely : Prop := pathSplitsRow.holds Try.pinned (OpenSpec.ofChange pathSplitsWrong)

/- THE SECOND FORM. 'bulk': how many values and letters a reading holds, each counted each time it is reached (what is shared counts as often as it is met; a slice's spare places count too). A statement '..UptoSaid' is the law's where the arguments, and the package variables that the reading takes, are together of bulk at most 1048576: NARROWER than '..Said'. Prove '..Said' where nothing that the law and all that it calls make is longer than what came in: it says more and counts as full. Else prove '..UptoSaid'. A law counts once. -/
mutual
def uptoBulk {H : Type} : DataW H → Nat
  | .lit (.string bytes) => bytes.length + 1
  | .lit _ => 1
  | .nil => 1
  | .ptr d => uptoBulk d + 1
  | .slice elems spare => uptoBulkAll elems + uptoBulkAll spare + 1
  | .agg parts => uptoBulkAll parts + 1
  | .iface _ d => uptoBulk d + 1
  | .map entries => uptoBulkEntries entries + 1
  | .held _ => 1
def uptoBulkAll {H : Type} : List (DataW H) → Nat
  | [] => 0
  | d :: r => uptoBulk d + uptoBulkAll r
def uptoBulkEntries {H : Type} : List (Lit × DataW H) → Nat
  | [] => 0
  | x :: r => uptoBulkEntry x + uptoBulkEntries r
def uptoBulkEntry {H : Type} : Lit × DataW H → Nat
  | (.string bytes, d) => bytes.length + uptoBulk d + 1
  | (_, d) => uptoBulk d + 1
 end
def uptoSmall : (H : Type) → List (DataW H) → Bool := fun _ ds => decide (uptoBulkAll ds ≤ 1048576)
def OpenSpec.upto (s : _root_.Go.ChangeSpec) : _root_.Go.OpenSpec := { _root_.Go.OpenSpec.ofChange s with cond := some uptoSmall }

/-- 'helixlaw11.PathCosts', WHERE WHAT IT READS IS OF BULK AT MOST 1048576: true; the input reads as it did. -/
def pathCostsUptoRow : OpenClaim := { program := "ytegndeefddlccaa", sum := "7bb7d1fb93184a4c4ed134ce831aecdbcea8942865d441d32367285eb7489d69", func := "helix/helixlaw11.PathCosts", spec := "pathCosts", unfollowed := true, recurses := true, apart := false, narrowed := true }
def PathCostsUptoSaid : Prop := pathCostsUptoRow.holds Try.pinned (OpenSpec.upto pathCostsSpec)

/-- 'helixlaw11.PathLegals', WHERE WHAT IT READS IS OF BULK AT MOST 1048576: true; the input reads as it did. -/
def pathLegalsUptoRow : OpenClaim := { program := "ytegndeefddlccaa", sum := "7bb7d1fb93184a4c4ed134ce831aecdbcea8942865d441d32367285eb7489d69", func := "helix/helixlaw11.PathLegals", spec := "pathLegals", unfollowed := true, recurses := true, apart := false, narrowed := true }
def PathLegalsUptoSaid : Prop := pathLegalsUptoRow.holds Try.pinned (OpenSpec.upto pathLegalsSpec)

/-- 'helixlaw11.PathAlls', WHERE WHAT IT READS IS OF BULK AT MOST 1048576: true; the input reads as it did. -/
def pathAllsUptoRow : OpenClaim := { program := "ytegndeefddlccaa", sum := "7bb7d1fb93184a4c4ed134ce831aecdbcea8942865d441d32367285eb7489d69", func := "helix/helixlaw11.PathAlls", spec := "pathAlls", unfollowed := true, recurses := true, apart := false, narrowed := true }
def PathAllsUptoSaid : Prop := pathAllsUptoRow.holds Try.pinned (OpenSpec.upto pathAllsSpec)

/-- 'helixlaw11.PathLess', WHERE WHAT IT READS IS OF BULK AT MOST 1048576: true; the input reads as it did. -/
def pathLessUptoRow : OpenClaim := { program := "ytegndeefddlccaa", sum := "7bb7d1fb93184a4c4ed134ce831aecdbcea8942865d441d32367285eb7489d69", func := "helix/helixlaw11.PathLess", spec := "pathLess", unfollowed := true, recurses := true, apart := false, narrowed := true }
def PathLessUptoSaid : Prop := pathLessUptoRow.holds Try.pinned (OpenSpec.upto pathLessSpec)

/-- 'helixlaw11.PathOrder', WHERE WHAT IT READS IS OF BULK AT MOST 1048576: true; the input reads as it did. -/
def pathOrderUptoRow : OpenClaim := { program := "ytegndeefddlccaa", sum := "7bb7d1fb93184a4c4ed134ce831aecdbcea8942865d441d32367285eb7489d69", func := "helix/helixlaw11.PathOrder", spec := "pathOrder", unfollowed := true, recurses := true, apart := false, narrowed := true }
def PathOrderUptoSaid : Prop := pathOrderUptoRow.holds Try.pinned (OpenSpec.upto pathOrderSpec)

/-- 'helixlaw11.PathSplits', WHERE WHAT IT READS IS OF BULK AT MOST 1048576: true; the input reads as it did. -/
def pathSplitsUptoRow : OpenClaim := { program := "ytegndeefddlccaa", sum := "7bb7d1fb93184a4c4ed134ce831aecdbcea8942865d441d32367285eb7489d69", func := "helix/helixlaw11.PathSplits", spec := "pathSplits", unfollowed := true, recurses := true, apart := false, narrowed := true }
def PathSplitsUptoSaid : Prop := pathSplitsUptoRow.holds Try.pinned (OpenSpec.upto pathSplitsSpec)

end Rows
end Go.Proofs.Ytegndeefddlccaa
