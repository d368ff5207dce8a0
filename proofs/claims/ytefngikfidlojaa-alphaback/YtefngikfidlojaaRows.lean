/-
  No cell of these rows narrows 'for every input' (looked for: loops, veiled, ifaces, maps, wideKeys, modest, calm, conditions, laid).
  DERIVED. THE GIVEN ROWS OF THIS SEAT. 6 by the template 'for every input the law returns true; each argument reads behind the call as it read before'; 0 by the template 'total and deterministic' (their statements: YtefngikfidlojaaTotals.lean).
  GIVEN WITH THE SEED: the statements are not yours to turn. If you find one false, say at which input.
  Laid BY PROGRAM, IN A SANDBOX (cutbox-rows.mjs): the forced cells as the released guide's own fill.sh prints them over the translation ccd957e3527d7b39… (all of the seat's roots in one cut). By AI agents, Wed Nov 11 2026. No macro, syntax, notation, axiom, sorry.
-/
import Derived.Test.YtefngikfidlojaaChecked
import GoSem.Claim
import GoSem.ClaimJoined
import GoSem.ClaimMapViews
import Derived.JoinedTies
import Derived.KernelRfl
namespace Go.Proofs.Ytefngikfidlojaa
/- THE CELL 'sum', in the pinned program and in every row, IS THE sha256 OF THE DUMP (.gsa) THAT YtefngikfidlojaaProg.lean LOADS. Nothing in Lean hashes anything: it is a label: what it is worth is what the hold of that sum in a sandbox is worth. -/
noncomputable def Try.pinned : Pinned := { name := "ytefngikfidlojaa", sum := "ccd957e3527d7b391c235e176f9501f5d937525e1108ac0ca2fce33732ed40e2", checked := Try.checked }
namespace Rows
def none {H : Type} : Left H := { results := [], args := [] }

/-- 'helixlaw01.AlphaRights': WHATEVER THE INPUT: true; the input reads as it did. -/
def alphaRightsSpec : ChangeSpec := { name := "alphaRights", fn := fun _ => fun
  | [d1, d2] => { results := [.lit (.bool true)], args := [d1, d2] }
  | _ => none }
def alphaRightsRow : OpenClaim := { program := "ytefngikfidlojaa", sum := "ccd957e3527d7b391c235e176f9501f5d937525e1108ac0ca2fce33732ed40e2", func := "helix/helixlaw01.AlphaRights", spec := "alphaRights", inPlace := ["internal/bytealg.IndexByteString"], apart := false }
def AlphaRightsSaid : Prop := alphaRightsRow.holds Try.pinned (OpenSpec.ofChange alphaRightsSpec)

/-- ITS FALSE NEIGHBOUR: 'it returns false'. Refute it at one input. -/
def alphaRightsWrong : ChangeSpec := { name := "alphaRights", fn := fun _ => fun
  | [d1, d2] => { results := [.lit (.bool false)], args := [d1, d2] }
  | _ => none }
def AlphaRightsWrongFalsely : Prop := alphaRightsRow.holds Try.pinned (OpenSpec.ofChange alphaRightsWrong)

/-- 'helixlaw01.AlphaAdds': WHATEVER THE INPUT: true; the input reads as it did. -/
def alphaAddsSpec : ChangeSpec := { name := "alphaAdds", fn := fun _ => fun
  | [d] => { results := [.lit (.bool true)], args := [d] }
  | _ => none }
def alphaAddsRow : OpenClaim := { program := "ytefngikfidlojaa", sum := "ccd957e3527d7b391c235e176f9501f5d937525e1108ac0ca2fce33732ed40e2", func := "helix/helixlaw01.AlphaAdds", spec := "alphaAdds", inPlace := ["internal/bytealg.IndexByteString"], apart := false }
def AlphaAddsSaid : Prop := alphaAddsRow.holds Try.pinned (OpenSpec.ofChange alphaAddsSpec)

/-- ITS FALSE NEIGHBOUR: 'it returns false'. Refute it at one input. -/
def alphaAddsWrong : ChangeSpec := { name := "alphaAdds", fn := fun _ => fun
  | [d] => { results := [.lit (.bool false)], args := [d] }
  | _ => none }
def AlphaAddsWrongFalsely : Prop := alphaAddsRow.holds Try.pinned (OpenSpec.ofChange alphaAddsWrong)

/-- 'helixlaw01.AlphaReads': WHATEVER THE INPUT: true; the input reads as it did. -/
def alphaReadsSpec : ChangeSpec := { name := "alphaReads", fn := fun _ => fun
  | [d1, d2] => { results := [.lit (.bool true)], args := [d1, d2] }
  | _ => none }
def alphaReadsRow : OpenClaim := { program := "ytefngikfidlojaa", sum := "ccd957e3527d7b391c235e176f9501f5d937525e1108ac0ca2fce33732ed40e2", func := "helix/helixlaw01.AlphaReads", spec := "alphaReads", inPlace := ["internal/bytealg.IndexByteString"], apart := false }
def AlphaReadsSaid : Prop := alphaReadsRow.holds Try.pinned (OpenSpec.ofChange alphaReadsSpec)

/-- ITS FALSE NEIGHBOUR: 'it returns false'. Refute it at one input. -/
def alphaReadsWrong : ChangeSpec := { name := "alphaReads", fn := fun _ => fun
  | [d1, d2] => { results := [.lit (.bool false)], args := [d1, d2] }
  | _ => none }
def AlphaReadsWrongFalsely : Prop := alphaReadsRow.holds Try.pinned (OpenSpec.ofChange alphaReadsWrong)

/-- 'helixlaw01.AlphaWrites': WHATEVER THE INPUT: true; the input reads as it did. -/
def alphaWritesSpec : ChangeSpec := { name := "alphaWrites", fn := fun _ => fun
  | [d1, d2] => { results := [.lit (.bool true)], args := [d1, d2] }
  | _ => none }
def alphaWritesRow : OpenClaim := { program := "ytefngikfidlojaa", sum := "ccd957e3527d7b391c235e176f9501f5d937525e1108ac0ca2fce33732ed40e2", func := "helix/helixlaw01.AlphaWrites", spec := "alphaWrites", inPlace := ["internal/bytealg.IndexByteString"], apart := false }
def AlphaWritesSaid : Prop := alphaWritesRow.holds Try.pinned (OpenSpec.ofChange alphaWritesSpec)

/-- ITS FALSE NEIGHBOUR: 'it returns false'. Refute it at one input. -/
def alphaWritesWrong : ChangeSpec := { name := "alphaWrites", fn := fun _ => fun
  | [d1, d2] => { results := [.lit (.bool false)], args := [d1, d2] }
  | _ => none }
def AlphaWritesWrongFalsely : Prop := alphaWritesRow.holds Try.pinned (OpenSpec.ofChange alphaWritesWrong)

/-- 'helixlaw01.AlphaBack': WHATEVER THE INPUT: true; the input reads as it did. -/
def alphaBackSpec : ChangeSpec := { name := "alphaBack", fn := fun _ => fun
  | [d1, d2, d3] => { results := [.lit (.bool true)], args := [d1, d2, d3] }
  | _ => none }
def alphaBackRow : OpenClaim := { program := "ytefngikfidlojaa", sum := "ccd957e3527d7b391c235e176f9501f5d937525e1108ac0ca2fce33732ed40e2", func := "helix/helixlaw01.AlphaBack", spec := "alphaBack", inPlace := ["internal/bytealg.IndexByteString"], apart := false }
def AlphaBackSaid : Prop := alphaBackRow.holds Try.pinned (OpenSpec.ofChange alphaBackSpec)

/-- ITS FALSE NEIGHBOUR: 'it returns false'. Refute it at one input. -/
def alphaBackWrong : ChangeSpec := { name := "alphaBack", fn := fun _ => fun
  | [d1, d2, d3] => { results := [.lit (.bool false)], args := [d1, d2, d3] }
  | _ => none }
def AlphaBackWrongFalsely : Prop := alphaBackRow.holds Try.pinned (OpenSpec.ofChange alphaBackWrong)

/-- 'helixlaw01.AlphaJoins': WHATEVER THE INPUT: true; the input reads as it did. -/
def alphaJoinsSpec : ChangeSpec := { name := "alphaJoins", fn := fun _ => fun
  | [d1, d2, d3] => { results := [.lit (.bool true)], args := [d1, d2, d3] }
  | _ => none }
def alphaJoinsRow : OpenClaim := { program := "ytefngikfidlojaa", sum := "ccd957e3527d7b391c235e176f9501f5d937525e1108ac0ca2fce33732ed40e2", func := "helix/helixlaw01.AlphaJoins", spec := "alphaJoins", inPlace := ["internal/bytealg.IndexByteString"], apart := false }
def AlphaJoinsSaid : Prop := alphaJoinsRow.holds Try.pinned (OpenSpec.ofChange alphaJoinsSpec)

/-- ITS FALSE NEIGHBOUR: 'it returns false'. Refute it at one input. -/
def alphaJoinsWrong : ChangeSpec := { name := "alphaJoins", fn := fun _ => fun
  | [d1, d2, d3] => { results := [.lit (.bool false)], args := [d1, d2, d3] }
  | _ => none }
def AlphaJoinsWrongFalsely : Prop := alphaJoinsRow.holds Try.pinned (OpenSpec.ofChange alphaJoinsWrong)

/- THE SECOND FORM. 'bulk': how many values and letters a reading holds, each counted each time it is reached (what is shared counts as often as it is met; a slice's spare places count too). A statement '..UptoSaid' is the law's where the arguments, and the package variables that the reading takes, are together of bulk at most 1048576: NARROWER than '..Said'. Prove '..Said' where nothing that the law and all that it calls make is longer than what came in: it says more and counts as full. Else prove '..UptoSaid'. A law counts once. -/
mutual
def uptoBulk {H : Type} : DataW H → Nat
  | .lit (.string bytes) => bytes.length + 1
  | .lit _ => 1
  | .nil => 1
  | .ptr d => uptoBulk d + 1
  | .slice elems spare => uptoBulkAll elems + uptoBulkAll spare + 1
  | .agg parts => uptoBulkAll parts + 1
  | .iface _ d => uptoBulk d + 1
  | .map entries => uptoBulkEntries entries + 1
  | .held _ => 1
def uptoBulkAll {H : Type} : List (DataW H) → Nat
  | [] => 0
  | d :: r => uptoBulk d + uptoBulkAll r
def uptoBulkEntries {H : Type} : List (Lit × DataW H) → Nat
  | [] => 0
  | x :: r => uptoBulkEntry x + uptoBulkEntries r
def uptoBulkEntry {H : Type} : Lit × DataW H → Nat
  | (.string bytes, d) => bytes.length + uptoBulk d + 1
  | (_, d) => uptoBulk d + 1
 end
def uptoSmall : (H : Type) → List (DataW H) → Bool := fun _ ds => decide (uptoBulkAll ds ≤ 1048576)
def OpenSpec.upto (s : _root_.Go.ChangeSpec) : _root_.Go.OpenSpec := { _root_.Go.OpenSpec.ofChange s with cond := some uptoSmall }

/-- 'helixlaw01.AlphaRights', WHERE WHAT IT READS IS OF BULK AT MOST 1048576: true; the input reads as it did. -/
def alphaRightsUptoRow : OpenClaim := { program := "ytefngikfidlojaa", sum := "ccd957e3527d7b391c235e176f9501f5d937525e1108ac0ca2fce33732ed40e2", func := "helix/helixlaw01.AlphaRights", spec := "alphaRights", inPlace := ["internal/bytealg.IndexByteString"], apart := false, narrowed := true }
def AlphaRightsUptoSaid : Prop := alphaRightsUptoRow.holds Try.pinned (OpenSpec.upto alphaRightsSpec)

/-- 'helixlaw01.AlphaAdds', WHERE WHAT IT READS IS OF BULK AT MOST 1048576: true; the input reads as it did. -/
def alphaAddsUptoRow : OpenClaim := { program := "ytefngikfidlojaa", sum := "ccd957e3527d7b391c235e176f9501f5d937525e1108ac0ca2fce33732ed40e2", func := "helix/helixlaw01.AlphaAdds", spec := "alphaAdds", inPlace := ["internal/bytealg.IndexByteString"], apart := false, narrowed := true }
def AlphaAddsUptoSaid : Prop := alphaAddsUptoRow.holds Try.pinned (OpenSpec.upto alphaAddsSpec)

/-- 'helixlaw01.AlphaReads', WHERE WHAT IT READS IS OF BULK AT MOST 1048576: true; the input reads as it did. -/
def alphaReadsUptoRow : OpenClaim := { program := "ytefngikfidlojaa", sum := "ccd957e3527d7b391c235e176f9501f5d937525e1108ac0ca2fce33732ed40e2", func := "helix/helixlaw01.AlphaReads", spec := "alphaReads", inPlace := ["internal/bytealg.IndexByteString"], apart := false, narrowed := true }
def AlphaReadsUptoSaid : Prop := alphaReadsUptoRow.holds Try.pinned (OpenSpec.upto alphaReadsSpec)

/-- 'helixlaw01.AlphaWrites', WHERE WHAT IT READS IS OF BULK AT MOST 1048576: true; the input reads as it did. -/
def alphaWritesUptoRow : OpenClaim := { program := "ytefngikfidlojaa", sum := "ccd957e3527d7b391c235e176f9501f5d937525e1108ac0ca2fce33732ed40e2", func := "helix/helixlaw01.AlphaWrites", spec := "alphaWrites", inPlace := ["internal/bytealg.IndexByteString"], apart := false, narrowed := true }
def AlphaWritesUptoSaid : Prop := alphaWritesUptoRow.holds Try.pinned (OpenSpec.upto alphaWritesSpec)

/-- 'helixlaw01.AlphaBack', WHERE WHAT IT READS IS OF BULK AT MOST 1048576: true; the input reads as it did. -/
def alphaBackUptoRow : OpenClaim := { program := "ytefngikfidlojaa", sum := "ccd957e3527d7b391c235e176f9501f5d937525e1108ac0ca2fce33732ed40e2", func := "helix/helixlaw01.AlphaBack", spec := "alphaBack", inPlace := ["internal/bytealg.IndexByteString"], apart := false, narrowed := true }
def AlphaBackUptoSaid : Prop := alphaBackUptoRow.holds Try.pinned (OpenSpec.upto alphaBackSpec)

/-- 'helixlaw01.AlphaJoins', WHERE WHAT IT READS IS OF BULK AT MOST 1048576: true; the input reads as it did. -/
def alphaJoinsUptoRow : OpenClaim := { program := "ytefngikfidlojaa", sum := "ccd957e3527d7b391c235e176f9501f5d937525e1108ac0ca2fce33732ed40e2", func := "helix/helixlaw01.AlphaJoins", spec := "alphaJoins", inPlace := ["internal/bytealg.IndexByteString"], apart := false, narrowed := true }
def AlphaJoinsUptoSaid : Prop := alphaJoinsUptoRow.holds Try.pinned (OpenSpec.upto alphaJoinsSpec)

end Rows
end Go.Proofs.Ytefngikfidlojaa
