/-
  No cell of these rows narrows 'for every input' (looked for: loops, veiled, ifaces, maps, wideKeys, modest, calm, conditions, laid).
  DERIVED. THE GIVEN ROWS OF THIS SEAT. 5 by the template 'for every input the law returns true; each argument reads behind the call as it read before'; 0 by the template 'total and deterministic' (their statements: YtaicppkhdfiokaaTotals.lean).
  GIVEN WITH THE SEED: the statements are not yours to turn. If you find one false, say at which input.
  Laid BY PROGRAM, IN A SANDBOX (cutbox-rows.mjs): the forced cells as the released guide's own fill.sh prints them over the translation 49d183de64f231aa… (all of the seat's roots in one cut). By AI agents, Wed Nov 11 2026. No macro, syntax, notation, axiom, sorry.
-/
import Derived.Test.YtaicppkhdfiokaaChecked
import GoSem.Claim
import GoSem.ClaimJoined
import GoSem.ClaimMapViews
import Derived.JoinedTies
import Derived.KernelRfl
namespace Go.Proofs.Ytaicppkhdfiokaa
/- THE CELL 'sum', in the pinned program and in every row, IS THE sha256 OF THE DUMP (.gsa) THAT YtaicppkhdfiokaaProg.lean LOADS. Nothing in Lean hashes anything: it is a label: what it is worth is what the hold of that sum in a sandbox is worth. -/
noncomputable def Try.pinned : Pinned := { name := "ytaicppkhdfiokaa", sum := "49d183de64f231aae1be391ddb1648ad0c8f16ee79f9b46da312d70c4575b189", checked := Try.checked }
namespace Rows
def none {H : Type} : Left H := { results := [], args := [] }

/-- 'helixlaw10.BoundModels': WHATEVER THE INPUT: true; the input reads as it did. -/
def boundModelsSpec : ChangeSpec := { name := "boundModels", fn := fun _ => fun
  | [d1, d2] => { results := [.lit (.bool true)], args := [d1, d2] }
  | _ => none }
def boundModelsRow : OpenClaim := { program := "ytaicppkhdfiokaa", sum := "49d183de64f231aae1be391ddb1648ad0c8f16ee79f9b46da312d70c4575b189", func := "helix/helixlaw10.BoundModels", spec := "boundModels", apart := false }
def BoundModelsSaid : Prop := boundModelsRow.holds Try.pinned (OpenSpec.ofChange boundModelsSpec)

/-- ITS FALSE NEIGHBOUR: 'it returns false'. Refute it at one input. -/
def boundModelsWrong : ChangeSpec := { name := "boundModels", fn := fun _ => fun
  | [d1, d2] => { results := [.lit (.bool false)], args := [d1, d2] }
  | _ => none }
def BoundModelsWrongFalsely : Prop := boundModelsRow.holds Try.pinned (OpenSpec.ofChange boundModelsWrong)

/-- 'helixlaw10.BoundRanges': WHATEVER THE INPUT: true; the input reads as it did. -/
def boundRangesSpec : ChangeSpec := { name := "boundRanges", fn := fun _ => fun
  | [d1, d2, d3] => { results := [.lit (.bool true)], args := [d1, d2, d3] }
  | _ => none }
def boundRangesRow : OpenClaim := { program := "ytaicppkhdfiokaa", sum := "49d183de64f231aae1be391ddb1648ad0c8f16ee79f9b46da312d70c4575b189", func := "helix/helixlaw10.BoundRanges", spec := "boundRanges", apart := false }
def BoundRangesSaid : Prop := boundRangesRow.holds Try.pinned (OpenSpec.ofChange boundRangesSpec)

/-- ITS FALSE NEIGHBOUR: 'it returns false'. Refute it at one input. -/
def boundRangesWrong : ChangeSpec := { name := "boundRanges", fn := fun _ => fun
  | [d1, d2, d3] => { results := [.lit (.bool false)], args := [d1, d2, d3] }
  | _ => none }
def BoundRangesWrongFalsely : Prop := boundRangesRow.holds Try.pinned (OpenSpec.ofChange boundRangesWrong)

/-- 'helixlaw10.BoundFits': WHATEVER THE INPUT: true; the input reads as it did. -/
def boundFitsSpec : ChangeSpec := { name := "boundFits", fn := fun _ => fun
  | [d] => { results := [.lit (.bool true)], args := [d] }
  | _ => none }
def boundFitsRow : OpenClaim := { program := "ytaicppkhdfiokaa", sum := "49d183de64f231aae1be391ddb1648ad0c8f16ee79f9b46da312d70c4575b189", func := "helix/helixlaw10.BoundFits", spec := "boundFits", apart := false }
def BoundFitsSaid : Prop := boundFitsRow.holds Try.pinned (OpenSpec.ofChange boundFitsSpec)

/-- ITS FALSE NEIGHBOUR: 'it returns false'. Refute it at one input. -/
def boundFitsWrong : ChangeSpec := { name := "boundFits", fn := fun _ => fun
  | [d] => { results := [.lit (.bool false)], args := [d] }
  | _ => none }
def BoundFitsWrongFalsely : Prop := boundFitsRow.holds Try.pinned (OpenSpec.ofChange boundFitsWrong)

/-- 'helixlaw10.BoundGrows': WHATEVER THE INPUT: true; the input reads as it did. -/
def boundGrowsSpec : ChangeSpec := { name := "boundGrows", fn := fun _ => fun
  | [d1, d2, d3, d4] => { results := [.lit (.bool true)], args := [d1, d2, d3, d4] }
  | _ => none }
def boundGrowsRow : OpenClaim := { program := "ytaicppkhdfiokaa", sum := "49d183de64f231aae1be391ddb1648ad0c8f16ee79f9b46da312d70c4575b189", func := "helix/helixlaw10.BoundGrows", spec := "boundGrows", apart := false }
def BoundGrowsSaid : Prop := boundGrowsRow.holds Try.pinned (OpenSpec.ofChange boundGrowsSpec)

/-- ITS FALSE NEIGHBOUR: 'it returns false'. Refute it at one input. -/
def boundGrowsWrong : ChangeSpec := { name := "boundGrows", fn := fun _ => fun
  | [d1, d2, d3, d4] => { results := [.lit (.bool false)], args := [d1, d2, d3, d4] }
  | _ => none }
def BoundGrowsWrongFalsely : Prop := boundGrowsRow.holds Try.pinned (OpenSpec.ofChange boundGrowsWrong)

/-- 'helixlaw10.BoundScaled': WHATEVER THE INPUT: true; the input reads as it did. -/
def boundScaledSpec : ChangeSpec := { name := "boundScaled", fn := fun _ => fun
  | [d1, d2] => { results := [.lit (.bool true)], args := [d1, d2] }
  | _ => none }
def boundScaledRow : OpenClaim := { program := "ytaicppkhdfiokaa", sum := "49d183de64f231aae1be391ddb1648ad0c8f16ee79f9b46da312d70c4575b189", func := "helix/helixlaw10.BoundScaled", spec := "boundScaled", apart := false }
def BoundScaledSaid : Prop := boundScaledRow.holds Try.pinned (OpenSpec.ofChange boundScaledSpec)

/-- ITS FALSE NEIGHBOUR: 'it returns false'. Refute it at one input. -/
def boundScaledWrong : ChangeSpec := { name := "boundScaled", fn := fun _ => fun
  | [d1, d2] => { results := [.lit (.bool false)], args := [d1, d2] }
  | _ => none }
def BoundScaledWrongFalsely : Prop := boundScaledRow.holds Try.pinned (OpenSpec.ofChange boundScaledWrong)

/- THE SECOND FORM. 'bulk': how many values and letters a reading holds, each counted each time it is reached (what is shared counts as often as it is met; a slice's spare places count too). A statement '..UptoSaid' is the law's where the arguments, and the package variables that the reading takes, are together of bulk at most 1048576: NARROWER than '..Said'. Prove '..Said' where nothing that the law and all that it calls make is longer than what came in: it says more and counts as full. Else prove '..UptoSaid'. A law counts once. -/
mutual
def uptoBulk {H : Type} : DataW H → Nat
  | .lit (.string bytes) => bytes.length + 1
  | .lit _ => 1
  | .nil => 1
  | .ptr d => uptoBulk d + 1
  | .slice elems spare => uptoBulkAll elems + uptoBulkAll spare + 1
  | .agg parts => uptoBulkAll parts + 1
  | .iface _ d => uptoBulk d + 1
  | .map entries => uptoBulkEntries entries + 1
  | .held _ => 1
def uptoBulkAll {H : Type} : List (DataW H) → Nat
  | [] => 0
  | d :: r => uptoBulk d + uptoBulkAll r
def uptoBulkEntries {H : Type} : List (Lit × DataW H) → Nat
  | [] => 0
  | x :: r => uptoBulkEntry x + uptoBulkEntries r
def uptoBulkEntry {H : Type} : Lit × DataW H → Nat
  | (.string bytes, d) => bytes.length + uptoBulk d + 1
  | (_, d) => uptoBulk d + 1
 end
def uptoSmall : (H : Type) → List (DataW H) → Bool := fun _ ds => decide (uptoBulkAll ds ≤ 1048576)
def OpenSpec.upto (s : _root_.Go.ChangeSpec) : _root_.Go.OpenSpec := { _root_.Go.OpenSpec.ofChange s with cond := some uptoSmall }

/-- 'helixlaw10.BoundModels', WHERE WHAT IT READS IS OF BULK AT MOST 1048576: true; the input reads as it did. -/
def boundModelsUptoRow : OpenClaim := { program := "ytaicppkhdfiokaa", sum := "49d183de64f231aae1be391ddb1648ad0c8f16ee79f9b46da312d70c4575b189", func := "helix/helixlaw10.BoundModels", spec := "boundModels", apart := false, narrowed := true }
def BoundModelsUptoSaid : Prop := boundModelsUptoRow.holds Try.pinned (OpenSpec.upto boundModelsSpec)

/-- 'helixlaw10.BoundRanges', WHERE WHAT IT READS IS OF BULK AT MOST 1048576: true; the input reads as it did. -/
def boundRangesUptoRow : OpenClaim := { program := "ytaicppkhdfiokaa", sum := "49d183de64f231aae1be391ddb1648ad0c8f16ee79f9b46da312d70c4575b189", func := "helix/helixlaw10.BoundRanges", spec := "boundRanges", apart := false, narrowed := true }
def BoundRangesUptoSaid : Prop := boundRangesUptoRow.holds Try.pinned (OpenSpec.upto boundRangesSpec)

/-- 'helixlaw10.BoundFits', WHERE WHAT IT READS IS OF BULK AT MOST 1048576: true; the input reads as it did. -/
def boundFitsUptoRow : OpenClaim := { program := "ytaicppkhdfiokaa", sum := "49d183de64f231aae1be391ddb1648ad0c8f16ee79f9b46da312d70c4575b189", func := "helix/helixlaw10.BoundFits", spec := "boundFits", apart := false, narrowed := true }
def BoundFitsUptoSaid : Prop := boundFitsUptoRow.holds Try.pinned (OpenSpec.upto boundFitsSpec)

/-- 'helixlaw10.BoundGrows', WHERE WHAT IT READS IS OF BULK AT MOST 1048576: true; the input reads as it did. -/
def boundGrowsUptoRow : OpenClaim := { program := "ytaicppkhdfiokaa", sum := "49d183de64f231aae1be391ddb1648ad0c8f16ee79f9b46da312d70c4575b189", func := "helix/helixlaw10.BoundGrows", spec := "boundGrows", apart := false, narrowed := true }
def BoundGrowsUptoSaid : Prop := boundGrowsUptoRow.holds Try.pinned (OpenSpec.upto boundGrowsSpec)

/-- 'helixlaw10.BoundScaled', WHERE WHAT IT READS IS OF BULK AT MOST 1048576: true; the input reads as it did. -/
def boundScaledUptoRow : OpenClaim := { program := "ytaicppkhdfiokaa", sum := "49d183de64f231aae1be391ddb1648ad0c8f16ee79f9b46da312d70c4575b189", func := "helix/helixlaw10.BoundScaled", spec := "boundScaled", apart := false, narrowed := true }
def BoundScaledUptoSaid : Prop := boundScaledUptoRow.holds Try.pinned (OpenSpec.upto boundScaledSpec)

end Rows
end Go.Proofs.Ytaicppkhdfiokaa
