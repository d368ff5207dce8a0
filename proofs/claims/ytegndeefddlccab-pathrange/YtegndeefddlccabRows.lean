/-
  No cell of these rows narrows 'for every input' (looked for: loops, veiled, ifaces, maps, wideKeys, modest, calm, conditions, laid).
  DERIVED. THE GIVEN ROWS OF THIS SEAT. 4 by the template 'for every input the law returns true; each argument reads behind the call as it read before'; 0 by the template 'total and deterministic' (their statements: YtegndeefddlccabTotals.lean).
  GIVEN WITH THE SEED: the statements are not yours to turn. If you find one false, say at which input.
  Laid BY PROGRAM, IN A SANDBOX (cutbox-rows.mjs): the forced cells as the released guide's own fill.sh prints them over the translation 40d7c110b00ed992… (all of the seat's roots in one cut). By AI agents, Wed Nov 11 2026. No macro, syntax, notation, axiom, sorry.
-/
import Derived.Test.YtegndeefddlccabChecked
import GoSem.Claim
import GoSem.ClaimJoined
import GoSem.ClaimMapViews
import Derived.JoinedTies
import Derived.KernelRfl
namespace Go.Proofs.Ytegndeefddlccab
/- THE CELL 'sum', in the pinned program and in every row, IS THE sha256 OF THE DUMP (.gsa) THAT YtegndeefddlccabProg.lean LOADS. Nothing in Lean hashes anything: it is a label: what it is worth is what the hold of that sum in a sandbox is worth. -/
noncomputable def Try.pinned : Pinned := { name := "ytegndeefddlccab", sum := "40d7c110b00ed99212f6504a13b7f0cbad12b4363ccfff2d90a468b192aeedd7", checked := Try.checked }
namespace Rows
def none {H : Type} : Left H := { results := [], args := [] }

/-- 'helixlaw11.PathRange': WHATEVER THE INPUT: true; the input reads as it did. -/
def pathRangeSpec : ChangeSpec := { name := "pathRange", fn := fun _ => fun
  | [d1, d2, d3] => { results := [.lit (.bool true)], args := [d1, d2, d3] }
  | _ => none }
def pathRangeRow : OpenClaim := { program := "ytegndeefddlccab", sum := "40d7c110b00ed99212f6504a13b7f0cbad12b4363ccfff2d90a468b192aeedd7", func := "helix/helixlaw11.PathRange", spec := "pathRange", unfollowed := true, recurses := true, apart := false }
def PathRangeSaid : Prop := pathRangeRow.holds Try.pinned (OpenSpec.ofChange pathRangeSpec)

/-- ITS FALSE NEIGHBOUR: 'it returns false'. Refute it at one input. -/
def pathRangeWrong : ChangeSpec := { name := "pathRange", fn := fun _ => fun
  | [d1, d2, d3] => { results := [.lit (.bool false)], args := [d1, d2, d3] }
  | _ => none }
def PathRangeWrongFalsely : Prop := pathRangeRow.holds Try.pinned (OpenSpec.ofChange pathRangeWrong)

/-- 'helixlaw11.PathTurned': WHATEVER THE INPUT: true; the input reads as it did. -/
def pathTurnedSpec : ChangeSpec := { name := "pathTurned", fn := fun _ => fun
  | [d1, d2, d3, d4, d5] => { results := [.lit (.bool true)], args := [d1, d2, d3, d4, d5] }
  | _ => none }
def pathTurnedRow : OpenClaim := { program := "ytegndeefddlccab", sum := "40d7c110b00ed99212f6504a13b7f0cbad12b4363ccfff2d90a468b192aeedd7", func := "helix/helixlaw11.PathTurned", spec := "pathTurned", unfollowed := true, recurses := true, apart := false }
def PathTurnedSaid : Prop := pathTurnedRow.holds Try.pinned (OpenSpec.ofChange pathTurnedSpec)

/-- ITS FALSE NEIGHBOUR: 'it returns false'. Refute it at one input. -/
def pathTurnedWrong : ChangeSpec := { name := "pathTurned", fn := fun _ => fun
  | [d1, d2, d3, d4, d5] => { results := [.lit (.bool false)], args := [d1, d2, d3, d4, d5] }
  | _ => none }
def PathTurnedWrongFalsely : Prop := pathTurnedRow.holds Try.pinned (OpenSpec.ofChange pathTurnedWrong)

/-- 'helixlaw11.PathMany': WHATEVER THE INPUT: true; the input reads as it did. -/
def pathManySpec : ChangeSpec := { name := "pathMany", fn := fun _ => fun
  | [d1, d2, d3] => { results := [.lit (.bool true)], args := [d1, d2, d3] }
  | _ => none }
def pathManyRow : OpenClaim := { program := "ytegndeefddlccab", sum := "40d7c110b00ed99212f6504a13b7f0cbad12b4363ccfff2d90a468b192aeedd7", func := "helix/helixlaw11.PathMany", spec := "pathMany", unfollowed := true, recurses := true, apart := false }
def PathManySaid : Prop := pathManyRow.holds Try.pinned (OpenSpec.ofChange pathManySpec)

/-- ITS FALSE NEIGHBOUR: 'it returns false'. Refute it at one input. -/
def pathManyWrong : ChangeSpec := { name := "pathMany", fn := fun _ => fun
  | [d1, d2, d3] => { results := [.lit (.bool false)], args := [d1, d2, d3] }
  | _ => none }
def PathManyWrongFalsely : Prop := pathManyRow.holds Try.pinned (OpenSpec.ofChange pathManyWrong)

/-- 'helixlaw11.PathMirror': WHATEVER THE INPUT: true; the input reads as it did. -/
def pathMirrorSpec : ChangeSpec := { name := "pathMirror", fn := fun _ => fun
  | [d1, d2, d3, d4] => { results := [.lit (.bool true)], args := [d1, d2, d3, d4] }
  | _ => none }
def pathMirrorRow : OpenClaim := { program := "ytegndeefddlccab", sum := "40d7c110b00ed99212f6504a13b7f0cbad12b4363ccfff2d90a468b192aeedd7", func := "helix/helixlaw11.PathMirror", spec := "pathMirror", unfollowed := true, recurses := true, apart := false }
def PathMirrorSaid : Prop := pathMirrorRow.holds Try.pinned (OpenSpec.ofChange pathMirrorSpec)

/-- ITS FALSE NEIGHBOUR: 'it returns false'. Refute it at one input. -/
def pathMirrorWrong : ChangeSpec := { name := "pathMirror", fn := fun _ => fun
  | [d1, d2, d3, d4] => { results := [.lit (.bool false)], args := [d1, d2, d3, d4] }
  | _ => none }
def PathMirrorWrongFalsely : Prop := pathMirrorRow.holds Try.pinned (OpenSpec.ofChange pathMirrorWrong)

/- THE SECOND FORM. 'bulk': how many values and letters a reading holds, each counted each time it is reached (what is shared counts as often as it is met; a slice's spare places count too). A statement '..UptoSaid' is the law's where the arguments, and the package variables that the reading takes, are together of bulk at most 1048576: NARROWER than '..Said'. Prove '..Said' where nothing that the law and all that it calls make is longer than what came in: it says more and counts as full. Else prove '..UptoSaid'. A law counts once. -/
mutual
def uptoBulk {H : Type} : DataW H → Nat
  | .lit (.string bytes) => bytes.length + 1
  | .lit _ => 1
  | .nil => 1
  | .ptr d => uptoBulk d + 1
  | .slice elems spare => uptoBulkAll elems + uptoBulkAll spare + 1
  | .agg parts => uptoBulkAll parts + 1
  | .iface _ d => uptoBulk d + 1
  | .map entries => uptoBulkEntries entries + 1
  | .held _ => 1
def uptoBulkAll {H : Type} : List (DataW H) → Nat
  | [] => 0
  | d :: r => uptoBulk d + uptoBulkAll r
def uptoBulkEntries {H : Type} : List (Lit × DataW H) → Nat
  | [] => 0
  | x :: r => uptoBulkEntry x + uptoBulkEntries r
def uptoBulkEntry {H : Type} : Lit × DataW H → Nat
  | (.string bytes, d) => bytes.length + uptoBulk d + 1
  | (_, d) => uptoBulk d + 1
 end
def uptoSmall : (H : Type) → List (DataW H) → Bool := fun _ ds => decide (uptoBulkAll ds ≤ 1048576)
def OpenSpec.upto (s : _root_.Go.ChangeSpec) : _root_.Go.OpenSpec := { _root_.Go.OpenSpec.ofChange s with cond := some uptoSmall }

/-- 'helixlaw11.PathRange', WHERE WHAT IT READS IS OF BULK AT MOST 1048576: true; the input reads as it did. -/
def pathRangeUptoRow : OpenClaim := { program := "ytegndeefddlccab", sum := "40d7c110b00ed99212f6504a13b7f0cbad12b4363ccfff2d90a468b192aeedd7", func := "helix/helixlaw11.PathRange", spec := "pathRange", unfollowed := true, recurses := true, apart := false, narrowed := true }
def PathRangeUptoSaid : Prop := pathRangeUptoRow.holds Try.pinned (OpenSpec.upto pathRangeSpec)

/-- 'helixlaw11.PathTurned', WHERE WHAT IT READS IS OF BULK AT MOST 1048576: true; the input reads as it did. -/
def pathTurnedUptoRow : OpenClaim := { program := "ytegndeefddlccab", sum := "40d7c110b00ed99212f6504a13b7f0cbad12b4363ccfff2d90a468b192aeedd7", func := "helix/helixlaw11.PathTurned", spec := "pathTurned", unfollowed := true, recurses := true, apart := false, narrowed := true }
def PathTurnedUptoSaid : Prop := pathTurnedUptoRow.holds Try.pinned (OpenSpec.upto pathTurnedSpec)

/-- 'helixlaw11.PathMany', WHERE WHAT IT READS IS OF BULK AT MOST 1048576: true; the input reads as it did. -/
def pathManyUptoRow : OpenClaim := { program := "ytegndeefddlccab", sum := "40d7c110b00ed99212f6504a13b7f0cbad12b4363ccfff2d90a468b192aeedd7", func := "helix/helixlaw11.PathMany", spec := "pathMany", unfollowed := true, recurses := true, apart := false, narrowed := true }
def PathManyUptoSaid : Prop := pathManyUptoRow.holds Try.pinned (OpenSpec.upto pathManySpec)

/-- 'helixlaw11.PathMirror', WHERE WHAT IT READS IS OF BULK AT MOST 1048576: true; the input reads as it did. -/
def pathMirrorUptoRow : OpenClaim := { program := "ytegndeefddlccab", sum := "40d7c110b00ed99212f6504a13b7f0cbad12b4363ccfff2d90a468b192aeedd7", func := "helix/helixlaw11.PathMirror", spec := "pathMirror", unfollowed := true, recurses := true, apart := false, narrowed := true }
def PathMirrorUptoSaid : Prop := pathMirrorUptoRow.holds Try.pinned (OpenSpec.upto pathMirrorSpec)

end Rows
end Go.Proofs.Ytegndeefddlccab
