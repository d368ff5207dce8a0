/-
  No cell of these rows narrows 'for every input' (looked for: loops, veiled, ifaces, maps, wideKeys, modest, calm, conditions, laid).
  DERIVED. THE GIVEN ROWS OF THIS SEAT. 5 by the template 'for every input the law returns true; each argument reads behind the call as it read before'; 0 by the template 'total and deterministic' (their statements: YtcleejdlmamdhaaTotals.lean).
  GIVEN WITH THE SEED: the statements are not yours to turn. If you find one false, say at which input.
  Laid BY PROGRAM, IN A SANDBOX (cutbox-rows.mjs): the forced cells as the released guide's own fill.sh prints them over the translation dd2f8555975544fc… (all of the seat's roots in one cut). By AI agents, Wed Nov 11 2026. No macro, syntax, notation, axiom, sorry.
-/
import Derived.Test.YtcleejdlmamdhaaChecked
import GoSem.Claim
import GoSem.ClaimJoined
import GoSem.ClaimMapViews
import Derived.JoinedTies
import Derived.KernelRfl
namespace Go.Proofs.Ytcleejdlmamdhaa
/- THE CELL 'sum', in the pinned program and in every row, IS THE sha256 OF THE DUMP (.gsa) THAT YtcleejdlmamdhaaProg.lean LOADS. Nothing in Lean hashes anything: it is a label: what it is worth is what the hold of that sum in a sandbox is worth. -/
noncomputable def Try.pinned : Pinned := { name := "ytcleejdlmamdhaa", sum := "dd2f8555975544fcba006c5de6e2ae246c36fe1c75931c1da05b00dcae019d53", checked := Try.checked }
namespace Rows
def none {H : Type} : Left H := { results := [], args := [] }

/-- 'helixlaw02.FastaReads': WHATEVER THE INPUT: true; the input reads as it did. -/
def fastaReadsSpec : ChangeSpec := { name := "fastaReads", fn := fun _ => fun
  | [d] => { results := [.lit (.bool true)], args := [d] }
  | _ => none }
def fastaReadsRow : OpenClaim := { program := "ytcleejdlmamdhaa", sum := "dd2f8555975544fcba006c5de6e2ae246c36fe1c75931c1da05b00dcae019d53", func := "helix/helixlaw02.FastaReads", spec := "fastaReads", inPlace := ["internal/bytealg.IndexByteString", "internal/bytealg.IndexString", "internal/abi.NoEscape"], named := ["internal/bytealg.MaxLen"], apart := false }
def FastaReadsSaid : Prop := fastaReadsRow.holds Try.pinned (OpenSpec.ofChange fastaReadsSpec)

/-- ITS FALSE NEIGHBOUR: 'it returns false'. Refute it at one input. -/
def fastaReadsWrong : ChangeSpec := { name := "fastaReads", fn := fun _ => fun
  | [d] => { results := [.lit (.bool false)], args := [d] }
  | _ => none }
def FastaReadsWrongFalsely : Prop := fastaReadsRow.holds Try.pinned (OpenSpec.ofChange fastaReadsWrong)

/-- 'helixlaw02.FastaWrites': WHATEVER THE INPUT: true; the input reads as it did. -/
def fastaWritesSpec : ChangeSpec := { name := "fastaWrites", fn := fun _ => fun
  | [d1, d2] => { results := [.lit (.bool true)], args := [d1, d2] }
  | _ => none }
def fastaWritesRow : OpenClaim := { program := "ytcleejdlmamdhaa", sum := "dd2f8555975544fcba006c5de6e2ae246c36fe1c75931c1da05b00dcae019d53", func := "helix/helixlaw02.FastaWrites", spec := "fastaWrites", inPlace := ["internal/bytealg.IndexByteString", "internal/bytealg.IndexString", "internal/abi.NoEscape"], named := ["internal/bytealg.MaxLen"], apart := false }
def FastaWritesSaid : Prop := fastaWritesRow.holds Try.pinned (OpenSpec.ofChange fastaWritesSpec)

/-- ITS FALSE NEIGHBOUR: 'it returns false'. Refute it at one input. -/
def fastaWritesWrong : ChangeSpec := { name := "fastaWrites", fn := fun _ => fun
  | [d1, d2] => { results := [.lit (.bool false)], args := [d1, d2] }
  | _ => none }
def FastaWritesWrongFalsely : Prop := fastaWritesRow.holds Try.pinned (OpenSpec.ofChange fastaWritesWrong)

/-- 'helixlaw02.FastaBack': WHATEVER THE INPUT: true; the input reads as it did. -/
def fastaBackSpec : ChangeSpec := { name := "fastaBack", fn := fun _ => fun
  | [d1, d2, d3] => { results := [.lit (.bool true)], args := [d1, d2, d3] }
  | _ => none }
def fastaBackRow : OpenClaim := { program := "ytcleejdlmamdhaa", sum := "dd2f8555975544fcba006c5de6e2ae246c36fe1c75931c1da05b00dcae019d53", func := "helix/helixlaw02.FastaBack", spec := "fastaBack", inPlace := ["internal/bytealg.IndexByteString", "internal/bytealg.IndexString", "internal/abi.NoEscape"], named := ["internal/bytealg.MaxLen"], apart := false }
def FastaBackSaid : Prop := fastaBackRow.holds Try.pinned (OpenSpec.ofChange fastaBackSpec)

/-- ITS FALSE NEIGHBOUR: 'it returns false'. Refute it at one input. -/
def fastaBackWrong : ChangeSpec := { name := "fastaBack", fn := fun _ => fun
  | [d1, d2, d3] => { results := [.lit (.bool false)], args := [d1, d2, d3] }
  | _ => none }
def FastaBackWrongFalsely : Prop := fastaBackRow.holds Try.pinned (OpenSpec.ofChange fastaBackWrong)

/-- 'helixlaw02.FastaLoose': WHATEVER THE INPUT: true; the input reads as it did. -/
def fastaLooseSpec : ChangeSpec := { name := "fastaLoose", fn := fun _ => fun
  | [d1, d2] => { results := [.lit (.bool true)], args := [d1, d2] }
  | _ => none }
def fastaLooseRow : OpenClaim := { program := "ytcleejdlmamdhaa", sum := "dd2f8555975544fcba006c5de6e2ae246c36fe1c75931c1da05b00dcae019d53", func := "helix/helixlaw02.FastaLoose", spec := "fastaLoose", inPlace := ["internal/bytealg.IndexByteString", "internal/bytealg.IndexString", "internal/abi.NoEscape"], named := ["internal/bytealg.MaxLen"], apart := false }
def FastaLooseSaid : Prop := fastaLooseRow.holds Try.pinned (OpenSpec.ofChange fastaLooseSpec)

/-- ITS FALSE NEIGHBOUR: 'it returns false'. Refute it at one input. -/
def fastaLooseWrong : ChangeSpec := { name := "fastaLoose", fn := fun _ => fun
  | [d1, d2] => { results := [.lit (.bool false)], args := [d1, d2] }
  | _ => none }
def FastaLooseWrongFalsely : Prop := fastaLooseRow.holds Try.pinned (OpenSpec.ofChange fastaLooseWrong)

/-- 'helixlaw02.FastaJoins': WHATEVER THE INPUT: true; the input reads as it did. -/
def fastaJoinsSpec : ChangeSpec := { name := "fastaJoins", fn := fun _ => fun
  | [d1, d2] => { results := [.lit (.bool true)], args := [d1, d2] }
  | _ => none }
def fastaJoinsRow : OpenClaim := { program := "ytcleejdlmamdhaa", sum := "dd2f8555975544fcba006c5de6e2ae246c36fe1c75931c1da05b00dcae019d53", func := "helix/helixlaw02.FastaJoins", spec := "fastaJoins", inPlace := ["internal/bytealg.IndexByteString", "internal/bytealg.IndexString", "internal/abi.NoEscape"], named := ["internal/bytealg.MaxLen"], apart := false }
def FastaJoinsSaid : Prop := fastaJoinsRow.holds Try.pinned (OpenSpec.ofChange fastaJoinsSpec)

/-- ITS FALSE NEIGHBOUR: 'it returns false'. Refute it at one input. -/
def fastaJoinsWrong : ChangeSpec := { name := "fastaJoins", fn := fun _ => fun
  | [d1, d2] => { results := [.lit (.bool false)], args := [d1, d2] }
  | _ => none }
def FastaJoinsWrongFalsely : Prop := fastaJoinsRow.holds Try.pinned (OpenSpec.ofChange fastaJoinsWrong)

/- THE SECOND FORM. 'bulk': how many values and letters a reading holds, each counted each time it is reached (what is shared counts as often as it is met; a slice's spare places count too). A statement '..UptoSaid' is the law's where the arguments, and the package variables that the reading takes, are together of bulk at most 1048576: NARROWER than '..Said'. Prove '..Said' where nothing that the law and all that it calls make is longer than what came in: it says more and counts as full. Else prove '..UptoSaid'. A law counts once. -/
mutual
def uptoBulk {H : Type} : DataW H → Nat
  | .lit (.string bytes) => bytes.length + 1
  | .lit _ => 1
  | .nil => 1
  | .ptr d => uptoBulk d + 1
  | .slice elems spare => uptoBulkAll elems + uptoBulkAll spare + 1
  | .agg parts => uptoBulkAll parts + 1
  | .iface _ d => uptoBulk d + 1
  | .map entries => uptoBulkEntries entries + 1
  | .held _ => 1
def uptoBulkAll {H : Type} : List (DataW H) → Nat
  | [] => 0
  | d :: r => uptoBulk d + uptoBulkAll r
def uptoBulkEntries {H : Type} : List (Lit × DataW H) → Nat
  | [] => 0
  | x :: r => uptoBulkEntry x + uptoBulkEntries r
def uptoBulkEntry {H : Type} : Lit × DataW H → Nat
  | (.string bytes, d) => bytes.length + uptoBulk d + 1
  | (_, d) => uptoBulk d + 1
 end
def uptoSmall : (H : Type) → List (DataW H) → Bool := fun _ ds => decide (uptoBulkAll ds ≤ 1048576)
def OpenSpec.upto (s : _root_.Go.ChangeSpec) : _root_.Go.OpenSpec := { _root_.Go.OpenSpec.ofChange s with cond := some uptoSmall }

/-- 'helixlaw02.FastaReads', WHERE WHAT IT READS IS OF BULK AT MOST 1048576: true; the input reads as it did. -/
def fastaReadsUptoRow : OpenClaim := { program := "ytcleejdlmamdhaa", sum := "dd2f8555975544fcba006c5de6e2ae246c36fe1c75931c1da05b00dcae019d53", func := "helix/helixlaw02.FastaReads", spec := "fastaReads", inPlace := ["internal/bytealg.IndexByteString", "internal/bytealg.IndexString", "internal/abi.NoEscape"], named := ["internal/bytealg.MaxLen"], apart := false, narrowed := true }
def FastaReadsUptoSaid : Prop := fastaReadsUptoRow.holds Try.pinned (OpenSpec.upto fastaReadsSpec)

/-- 'helixlaw02.FastaWrites', WHERE WHAT IT READS IS OF BULK AT MOST 1048576: true; the input reads as it did. -/
def fastaWritesUptoRow : OpenClaim := { program := "ytcleejdlmamdhaa", sum := "dd2f8555975544fcba006c5de6e2ae246c36fe1c75931c1da05b00dcae019d53", func := "helix/helixlaw02.FastaWrites", spec := "fastaWrites", inPlace := ["internal/bytealg.IndexByteString", "internal/bytealg.IndexString", "internal/abi.NoEscape"], named := ["internal/bytealg.MaxLen"], apart := false, narrowed := true }
def FastaWritesUptoSaid : Prop := fastaWritesUptoRow.holds Try.pinned (OpenSpec.upto fastaWritesSpec)

/-- 'helixlaw02.FastaBack', WHERE WHAT IT READS IS OF BULK AT MOST 1048576: true; the input reads as it did. -/
def fastaBackUptoRow : OpenClaim := { program := "ytcleejdlmamdhaa", sum := "dd2f8555975544fcba006c5de6e2ae246c36fe1c75931c1da05b00dcae019d53", func := "helix/helixlaw02.FastaBack", spec := "fastaBack", inPlace := ["internal/bytealg.IndexByteString", "internal/bytealg.IndexString", "internal/abi.NoEscape"], named := ["internal/bytealg.MaxLen"], apart := false, narrowed := true }
def FastaBackUptoSaid : Prop := fastaBackUptoRow.holds Try.pinned (OpenSpec.upto fastaBackSpec)

/-- 'helixlaw02.FastaLoose', WHERE WHAT IT READS IS OF BULK AT MOST 1048576: true; the input reads as it did. -/
def fastaLooseUptoRow : OpenClaim := { program := "ytcleejdlmamdhaa", sum := "dd2f8555975544fcba006c5de6e2ae246c36fe1c75931c1da05b00dcae019d53", func := "helix/helixlaw02.FastaLoose", spec := "fastaLoose", inPlace := ["internal/bytealg.IndexByteString", "internal/bytealg.IndexString", "internal/abi.NoEscape"], named := ["internal/bytealg.MaxLen"], apart := false, narrowed := true }
def FastaLooseUptoSaid : Prop := fastaLooseUptoRow.holds Try.pinned (OpenSpec.upto fastaLooseSpec)

/-- 'helixlaw02.FastaJoins', WHERE WHAT IT READS IS OF BULK AT MOST 1048576: true; the input reads as it did. -/
def fastaJoinsUptoRow : OpenClaim := { program := "ytcleejdlmamdhaa", sum := "dd2f8555975544fcba006c5de6e2ae246c36fe1c75931c1da05b00dcae019d53", func := "helix/helixlaw02.FastaJoins", spec := "fastaJoins", inPlace := ["internal/bytealg.IndexByteString", "internal/bytealg.IndexString", "internal/abi.NoEscape"], named := ["internal/bytealg.MaxLen"], apart := false, narrowed := true }
def FastaJoinsUptoSaid : Prop := fastaJoinsUptoRow.holds Try.pinned (OpenSpec.upto fastaJoinsSpec)

end Rows
end Go.Proofs.Ytcleejdlmamdhaa
