/-
  No cell of these rows narrows 'for every input' (looked for: loops, veiled, ifaces, maps, wideKeys, modest, calm, conditions, laid).
  DERIVED. THE GIVEN ROWS OF THIS SEAT. 4 by the template 'for every input the law returns true; each argument reads behind the call as it read before'; 0 by the template 'total and deterministic' (their statements: YtcpoiaclicmmmaaTotals.lean).
  GIVEN WITH THE SEED: the statements are not yours to turn. If you find one false, say at which input.
  Laid BY PROGRAM, IN A SANDBOX (cutbox-rows.mjs): the forced cells as the released guide's own fill.sh prints them over the translation ff32f0f034bc5474… (all of the seat's roots in one cut). By AI agents, Wed Nov 11 2026. No macro, syntax, notation, axiom, sorry.
-/
import Derived.Test.YtcpoiaclicmmmaaChecked
import GoSem.Claim
import GoSem.ClaimJoined
import GoSem.ClaimMapViews
import Derived.JoinedTies
import Derived.KernelRfl
namespace Go.Proofs.Ytcpoiaclicmmmaa
/- THE CELL 'sum', in the pinned program and in every row, IS THE sha256 OF THE DUMP (.gsa) THAT YtcpoiaclicmmmaaProg.lean LOADS. Nothing in Lean hashes anything: it is a label: what it is worth is what the hold of that sum in a sandbox is worth. -/
noncomputable def Try.pinned : Pinned := { name := "ytcpoiaclicmmmaa", sum := "ff32f0f034bc5474d2d49498c6f801340bf92751e752b10d580456d60f733fbf", checked := Try.checked }
namespace Rows
def none {H : Type} : Left H := { results := [], args := [] }

/-- 'helixlaw03.FastqReads': WHATEVER THE INPUT: true; the input reads as it did. -/
def fastqReadsSpec : ChangeSpec := { name := "fastqReads", fn := fun _ => fun
  | [d] => { results := [.lit (.bool true)], args := [d] }
  | _ => none }
def fastqReadsRow : OpenClaim := { program := "ytcpoiaclicmmmaa", sum := "ff32f0f034bc5474d2d49498c6f801340bf92751e752b10d580456d60f733fbf", func := "helix/helixlaw03.FastqReads", spec := "fastqReads", inPlace := ["internal/bytealg.IndexByteString", "internal/bytealg.IndexString", "internal/abi.NoEscape"], named := ["internal/bytealg.MaxLen"], apart := false }
def FastqReadsSaid : Prop := fastqReadsRow.holds Try.pinned (OpenSpec.ofChange fastqReadsSpec)

/-- ITS FALSE NEIGHBOUR: 'it returns false'. Refute it at one input. -/
def fastqReadsWrong : ChangeSpec := { name := "fastqReads", fn := fun _ => fun
  | [d] => { results := [.lit (.bool false)], args := [d] }
  | _ => none }
def FastqReadsWrongFalsely : Prop := fastqReadsRow.holds Try.pinned (OpenSpec.ofChange fastqReadsWrong)

/-- 'helixlaw03.FastqWrites': WHATEVER THE INPUT: true; the input reads as it did. -/
def fastqWritesSpec : ChangeSpec := { name := "fastqWrites", fn := fun _ => fun
  | [d] => { results := [.lit (.bool true)], args := [d] }
  | _ => none }
def fastqWritesRow : OpenClaim := { program := "ytcpoiaclicmmmaa", sum := "ff32f0f034bc5474d2d49498c6f801340bf92751e752b10d580456d60f733fbf", func := "helix/helixlaw03.FastqWrites", spec := "fastqWrites", inPlace := ["internal/bytealg.IndexByteString", "internal/bytealg.IndexString", "internal/abi.NoEscape"], named := ["internal/bytealg.MaxLen"], apart := false }
def FastqWritesSaid : Prop := fastqWritesRow.holds Try.pinned (OpenSpec.ofChange fastqWritesSpec)

/-- ITS FALSE NEIGHBOUR: 'it returns false'. Refute it at one input. -/
def fastqWritesWrong : ChangeSpec := { name := "fastqWrites", fn := fun _ => fun
  | [d] => { results := [.lit (.bool false)], args := [d] }
  | _ => none }
def FastqWritesWrongFalsely : Prop := fastqWritesRow.holds Try.pinned (OpenSpec.ofChange fastqWritesWrong)

/-- 'helixlaw03.FastqBack': WHATEVER THE INPUT: true; the input reads as it did. -/
def fastqBackSpec : ChangeSpec := { name := "fastqBack", fn := fun _ => fun
  | [d1, d2] => { results := [.lit (.bool true)], args := [d1, d2] }
  | _ => none }
def fastqBackRow : OpenClaim := { program := "ytcpoiaclicmmmaa", sum := "ff32f0f034bc5474d2d49498c6f801340bf92751e752b10d580456d60f733fbf", func := "helix/helixlaw03.FastqBack", spec := "fastqBack", inPlace := ["internal/bytealg.IndexByteString", "internal/bytealg.IndexString", "internal/abi.NoEscape"], named := ["internal/bytealg.MaxLen"], apart := false }
def FastqBackSaid : Prop := fastqBackRow.holds Try.pinned (OpenSpec.ofChange fastqBackSpec)

/-- ITS FALSE NEIGHBOUR: 'it returns false'. Refute it at one input. -/
def fastqBackWrong : ChangeSpec := { name := "fastqBack", fn := fun _ => fun
  | [d1, d2] => { results := [.lit (.bool false)], args := [d1, d2] }
  | _ => none }
def FastqBackWrongFalsely : Prop := fastqBackRow.holds Try.pinned (OpenSpec.ofChange fastqBackWrong)

/-- 'helixlaw03.FastqJoins': WHATEVER THE INPUT: true; the input reads as it did. -/
def fastqJoinsSpec : ChangeSpec := { name := "fastqJoins", fn := fun _ => fun
  | [d1, d2] => { results := [.lit (.bool true)], args := [d1, d2] }
  | _ => none }
def fastqJoinsRow : OpenClaim := { program := "ytcpoiaclicmmmaa", sum := "ff32f0f034bc5474d2d49498c6f801340bf92751e752b10d580456d60f733fbf", func := "helix/helixlaw03.FastqJoins", spec := "fastqJoins", inPlace := ["internal/bytealg.IndexByteString", "internal/bytealg.IndexString", "internal/abi.NoEscape"], named := ["internal/bytealg.MaxLen"], apart := false }
def FastqJoinsSaid : Prop := fastqJoinsRow.holds Try.pinned (OpenSpec.ofChange fastqJoinsSpec)

/-- ITS FALSE NEIGHBOUR: 'it returns false'. Refute it at one input. -/
def fastqJoinsWrong : ChangeSpec := { name := "fastqJoins", fn := fun _ => fun
  | [d1, d2] => { results := [.lit (.bool false)], args := [d1, d2] }
  | _ => none }
def FastqJoinsWrongFalsely : Prop := fastqJoinsRow.holds Try.pinned (OpenSpec.ofChange fastqJoinsWrong)

/- THE SECOND FORM. 'bulk': how many values and letters a reading holds, each counted each time it is reached (what is shared counts as often as it is met; a slice's spare places count too). A statement '..UptoSaid' is the law's where the arguments, and the package variables that the reading takes, are together of bulk at most 1048576: NARROWER than '..Said'. Prove '..Said' where nothing that the law and all that it calls make is longer than what came in: it says more and counts as full. Else prove '..UptoSaid'. A law counts once. -/
mutual
def uptoBulk {H : Type} : DataW H → Nat
  | .lit (.string bytes) => bytes.length + 1
  | .lit _ => 1
  | .nil => 1
  | .ptr d => uptoBulk d + 1
  | .slice elems spare => uptoBulkAll elems + uptoBulkAll spare + 1
  | .agg parts => uptoBulkAll parts + 1
  | .iface _ d => uptoBulk d + 1
  | .map entries => uptoBulkEntries entries + 1
  | .held _ => 1
def uptoBulkAll {H : Type} : List (DataW H) → Nat
  | [] => 0
  | d :: r => uptoBulk d + uptoBulkAll r
def uptoBulkEntries {H : Type} : List (Lit × DataW H) → Nat
  | [] => 0
  | x :: r => uptoBulkEntry x + uptoBulkEntries r
def uptoBulkEntry {H : Type} : Lit × DataW H → Nat
  | (.string bytes, d) => bytes.length + uptoBulk d + 1
  | (_, d) => uptoBulk d + 1
 end
def uptoSmall : (H : Type) → List (DataW H) → Bool := fun _ ds => decide (uptoBulkAll ds ≤ 1048576)
def OpenSpec.upto (s : _root_.Go.ChangeSpec) : _root_.Go.OpenSpec := { _root_.Go.OpenSpec.ofChange s with cond := some uptoSmall }

/-- 'helixlaw03.FastqReads', WHERE WHAT IT READS IS OF BULK AT MOST 1048576: true; the input reads as it did. -/
def fastqReadsUptoRow : OpenClaim := { program := "ytcpoiaclicmmmaa", sum := "ff32f0f034bc5474d2d49498c6f801340bf92751e752b10d580456d60f733fbf", func := "helix/helixlaw03.FastqReads", spec := "fastqReads", inPlace := ["internal/bytealg.IndexByteString", "internal/bytealg.IndexString", "internal/abi.NoEscape"], named := ["internal/bytealg.MaxLen"], apart := false, narrowed := true }
def FastqReadsUptoSaid : Prop := fastqReadsUptoRow.holds Try.pinned (OpenSpec.upto fastqReadsSpec)

/-- 'helixlaw03.FastqWrites', WHERE WHAT IT READS IS OF BULK AT MOST 1048576: true; the input reads as it did. -/
def fastqWritesUptoRow : OpenClaim := { program := "ytcpoiaclicmmmaa", sum := "ff32f0f034bc5474d2d49498c6f801340bf92751e752b10d580456d60f733fbf", func := "helix/helixlaw03.FastqWrites", spec := "fastqWrites", inPlace := ["internal/bytealg.IndexByteString", "internal/bytealg.IndexString", "internal/abi.NoEscape"], named := ["internal/bytealg.MaxLen"], apart := false, narrowed := true }
def FastqWritesUptoSaid : Prop := fastqWritesUptoRow.holds Try.pinned (OpenSpec.upto fastqWritesSpec)

/-- 'helixlaw03.FastqBack', WHERE WHAT IT READS IS OF BULK AT MOST 1048576: true; the input reads as it did. -/
def fastqBackUptoRow : OpenClaim := { program := "ytcpoiaclicmmmaa", sum := "ff32f0f034bc5474d2d49498c6f801340bf92751e752b10d580456d60f733fbf", func := "helix/helixlaw03.FastqBack", spec := "fastqBack", inPlace := ["internal/bytealg.IndexByteString", "internal/bytealg.IndexString", "internal/abi.NoEscape"], named := ["internal/bytealg.MaxLen"], apart := false, narrowed := true }
def FastqBackUptoSaid : Prop := fastqBackUptoRow.holds Try.pinned (OpenSpec.upto fastqBackSpec)

/-- 'helixlaw03.FastqJoins', WHERE WHAT IT READS IS OF BULK AT MOST 1048576: true; the input reads as it did. -/
def fastqJoinsUptoRow : OpenClaim := { program := "ytcpoiaclicmmmaa", sum := "ff32f0f034bc5474d2d49498c6f801340bf92751e752b10d580456d60f733fbf", func := "helix/helixlaw03.FastqJoins", spec := "fastqJoins", inPlace := ["internal/bytealg.IndexByteString", "internal/bytealg.IndexString", "internal/abi.NoEscape"], named := ["internal/bytealg.MaxLen"], apart := false, narrowed := true }
def FastqJoinsUptoSaid : Prop := fastqJoinsUptoRow.holds Try.pinned (OpenSpec.upto fastqJoinsSpec)

end Rows
end Go.Proofs.Ytcpoiaclicmmmaa
