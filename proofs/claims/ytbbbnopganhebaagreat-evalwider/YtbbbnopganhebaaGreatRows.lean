/-
  No cell of these rows narrows 'for every input' (looked for: loops, veiled, ifaces, maps, wideKeys, modest, calm, conditions, laid).
  DERIVED. THE GIVEN ROWS OF THIS SEAT. 6 by the template 'for every input the law returns true; each argument reads behind the call as it read before'; 0 by the template 'total and deterministic' (their statements: YtbbbnopganhebaaGreatTotals.lean).
  GIVEN WITH THE SEED: the statements are not yours to turn. If you find one false, say at which input.
  Laid BY PROGRAM, IN A SANDBOX (cutbox-rows.mjs): the forced cells as the released guide's own fill.sh prints them over the translation c365a7397bba3573… (all of the seat's roots in one cut). By AI agents, Wed Nov 11 2026. No macro, syntax, notation, axiom, sorry.
-/
import Derived.Test.YtbbbnopganhebaaGreatChecked
import GoSem.Claim
import GoSem.ClaimJoined
import GoSem.ClaimMapViews
import Derived.JoinedTies
import Derived.KernelRfl
namespace Go.Proofs.YtbbbnopganhebaaGreat
/- THE CELL 'sum', in the pinned program and in every row, IS THE sha256 OF THE DUMP (.gsa) THAT YtbbbnopganhebaaGreatProg.lean LOADS. Nothing in Lean hashes anything: it is a label: what it is worth is what the hold of that sum in a sandbox is worth. -/
noncomputable def Tryz.pinned : Pinned := { name := "ytbbbnopganhebaagreat", sum := "c365a7397bba3573f44039cda049dd5fb8d617caf573e91bb42bed2b2ee485d3", checked := Tryz.checked }
namespace Rows
def none {H : Type} : Left H := { results := [], args := [] }

/-- 'helixlaw13.EvalEvals': WHATEVER THE INPUT: true; the input reads as it did. -/
def evalEvalsSpec : ChangeSpec := { name := "evalEvals", fn := fun _ => fun
  | [d1, d2, d3] => { results := [.lit (.bool true)], args := [d1, d2, d3] }
  | _ => none }
def evalEvalsRow : OpenClaim := { program := "ytbbbnopganhebaagreat", sum := "c365a7397bba3573f44039cda049dd5fb8d617caf573e91bb42bed2b2ee485d3", func := "helix/helixlaw13.EvalEvals", spec := "evalEvals", inPlace := ["internal/bytealg.IndexByteString", "internal/bytealg.IndexString"], unfollowed := true, recurses := true, named := ["internal/bytealg.MaxLen"], apart := false }
def EvalEvalsSaid : Prop := evalEvalsRow.holds Tryz.pinned (OpenSpec.ofChange evalEvalsSpec)

/-- ITS FALSE NEIGHBOUR: 'it returns false'. Refute it at one input. -/
def evalEvalsWrong : ChangeSpec := { name := "evalEvals", fn := fun _ => fun
  | [d1, d2, d3] => { results := [.lit (.bool false)], args := [d1, d2, d3] }
  | _ => none }
def EvalEvalsWrongFalsely : Prop := evalEvalsRow.holds Tryz.pinned (OpenSpec.ofChange evalEvalsWrong)

/-- 'helixlaw13.EvalValues': WHATEVER THE INPUT: true; the input reads as it did. -/
def evalValuesSpec : ChangeSpec := { name := "evalValues", fn := fun _ => fun
  | [d1, d2, d3, d4, d5, d6] => { results := [.lit (.bool true)], args := [d1, d2, d3, d4, d5, d6] }
  | _ => none }
def evalValuesRow : OpenClaim := { program := "ytbbbnopganhebaagreat", sum := "c365a7397bba3573f44039cda049dd5fb8d617caf573e91bb42bed2b2ee485d3", func := "helix/helixlaw13.EvalValues", spec := "evalValues", inPlace := ["internal/bytealg.IndexByteString", "internal/bytealg.IndexString"], unfollowed := true, recurses := true, named := ["internal/bytealg.MaxLen"], apart := false }
def EvalValuesSaid : Prop := evalValuesRow.holds Tryz.pinned (OpenSpec.ofChange evalValuesSpec)

/-- ITS FALSE NEIGHBOUR: 'it returns false'. Refute it at one input. -/
def evalValuesWrong : ChangeSpec := { name := "evalValues", fn := fun _ => fun
  | [d1, d2, d3, d4, d5, d6] => { results := [.lit (.bool false)], args := [d1, d2, d3, d4, d5, d6] }
  | _ => none }
def EvalValuesWrongFalsely : Prop := evalValuesRow.holds Tryz.pinned (OpenSpec.ofChange evalValuesWrong)

/-- 'helixlaw13.EvalBest': WHATEVER THE INPUT: true; the input reads as it did. -/
def evalBestSpec : ChangeSpec := { name := "evalBest", fn := fun _ => fun
  | [d1, d2, d3] => { results := [.lit (.bool true)], args := [d1, d2, d3] }
  | _ => none }
def evalBestRow : OpenClaim := { program := "ytbbbnopganhebaagreat", sum := "c365a7397bba3573f44039cda049dd5fb8d617caf573e91bb42bed2b2ee485d3", func := "helix/helixlaw13.EvalBest", spec := "evalBest", inPlace := ["internal/bytealg.IndexByteString", "internal/bytealg.IndexString"], unfollowed := true, recurses := true, named := ["internal/bytealg.MaxLen"], apart := false }
def EvalBestSaid : Prop := evalBestRow.holds Tryz.pinned (OpenSpec.ofChange evalBestSpec)

/-- ITS FALSE NEIGHBOUR: 'it returns false'. Refute it at one input. -/
def evalBestWrong : ChangeSpec := { name := "evalBest", fn := fun _ => fun
  | [d1, d2, d3] => { results := [.lit (.bool false)], args := [d1, d2, d3] }
  | _ => none }
def EvalBestWrongFalsely : Prop := evalBestRow.holds Tryz.pinned (OpenSpec.ofChange evalBestWrong)

/-- 'helixlaw13.EvalLegal': WHATEVER THE INPUT: true; the input reads as it did. -/
def evalLegalSpec : ChangeSpec := { name := "evalLegal", fn := fun _ => fun
  | [d1, d2, d3] => { results := [.lit (.bool true)], args := [d1, d2, d3] }
  | _ => none }
def evalLegalRow : OpenClaim := { program := "ytbbbnopganhebaagreat", sum := "c365a7397bba3573f44039cda049dd5fb8d617caf573e91bb42bed2b2ee485d3", func := "helix/helixlaw13.EvalLegal", spec := "evalLegal", inPlace := ["internal/bytealg.IndexByteString", "internal/bytealg.IndexString"], unfollowed := true, recurses := true, named := ["internal/bytealg.MaxLen"], apart := false }
def EvalLegalSaid : Prop := evalLegalRow.holds Tryz.pinned (OpenSpec.ofChange evalLegalSpec)

/-- ITS FALSE NEIGHBOUR: 'it returns false'. Refute it at one input. -/
def evalLegalWrong : ChangeSpec := { name := "evalLegal", fn := fun _ => fun
  | [d1, d2, d3] => { results := [.lit (.bool false)], args := [d1, d2, d3] }
  | _ => none }
def EvalLegalWrongFalsely : Prop := evalLegalRow.holds Tryz.pinned (OpenSpec.ofChange evalLegalWrong)

/-- 'helixlaw13.EvalWider': WHATEVER THE INPUT: true; the input reads as it did. -/
def evalWiderSpec : ChangeSpec := { name := "evalWider", fn := fun _ => fun
  | [d1, d2, d3, d4, d5] => { results := [.lit (.bool true)], args := [d1, d2, d3, d4, d5] }
  | _ => none }
def evalWiderRow : OpenClaim := { program := "ytbbbnopganhebaagreat", sum := "c365a7397bba3573f44039cda049dd5fb8d617caf573e91bb42bed2b2ee485d3", func := "helix/helixlaw13.EvalWider", spec := "evalWider", inPlace := ["internal/bytealg.IndexByteString", "internal/bytealg.IndexString"], unfollowed := true, recurses := true, named := ["internal/bytealg.MaxLen"], apart := false }
def EvalWiderSaid : Prop := evalWiderRow.holds Tryz.pinned (OpenSpec.ofChange evalWiderSpec)

/-- ITS FALSE NEIGHBOUR: 'it returns false'. Refute it at one input. -/
def evalWiderWrong : ChangeSpec := { name := "evalWider", fn := fun _ => fun
  | [d1, d2, d3, d4, d5] => { results := [.lit (.bool false)], args := [d1, d2, d3, d4, d5] }
  | _ => none }
def EvalWiderWrongFalsely : Prop := evalWiderRow.holds Tryz.pinned (OpenSpec.ofChange evalWiderWrong)

/-- 'helixlaw13.EvalTurned': WHATEVER THE INPUT: true; the input reads as it did. -/
def evalTurnedSpec : ChangeSpec := { name := "evalTurned", fn := fun _ => fun
  | [d1, d2, d3] => { results := [.lit (.bool true)], args := [d1, d2, d3] }
  | _ => none }
def evalTurnedRow : OpenClaim := { program := "ytbbbnopganhebaagreat", sum := "c365a7397bba3573f44039cda049dd5fb8d617caf573e91bb42bed2b2ee485d3", func := "helix/helixlaw13.EvalTurned", spec := "evalTurned", inPlace := ["internal/bytealg.IndexByteString", "internal/bytealg.IndexString"], unfollowed := true, recurses := true, named := ["internal/bytealg.MaxLen"], apart := false }
def EvalTurnedSaid : Prop := evalTurnedRow.holds Tryz.pinned (OpenSpec.ofChange evalTurnedSpec)

/-- ITS FALSE NEIGHBOUR: 'it returns false'. Refute it at one input. -/
def evalTurnedWrong : ChangeSpec := { name := "evalTurned", fn := fun _ => fun
  | [d1, d2, d3] => { results := [.lit (.bool false)], args := [d1, d2, d3] }
  | _ => none }
def EvalTurnedWrongFalsely : Prop := evalTurnedRow.holds Tryz.pinned (OpenSpec.ofChange evalTurnedWrong)

/- THE SECOND FORM. 'bulk': how many values and letters a reading holds, each counted each time it is reached (what is shared counts as often as it is met; a slice's spare places count too). A statement '..UptoSaid' is the law's where the arguments, and the package variables that the reading takes, are together of bulk at most 1048576: NARROWER than '..Said'. Prove '..Said' where nothing that the law and all that it calls make is longer than what came in: it says more and counts as full. Else prove '..UptoSaid'. A law counts once. -/
mutual
def uptoBulk {H : Type} : DataW H → Nat
  | .lit (.string bytes) => bytes.length + 1
  | .lit _ => 1
  | .nil => 1
  | .ptr d => uptoBulk d + 1
  | .slice elems spare => uptoBulkAll elems + uptoBulkAll spare + 1
  | .agg parts => uptoBulkAll parts + 1
  | .iface _ d => uptoBulk d + 1
  | .map entries => uptoBulkEntries entries + 1
  | .held _ => 1
def uptoBulkAll {H : Type} : List (DataW H) → Nat
  | [] => 0
  | d :: r => uptoBulk d + uptoBulkAll r
def uptoBulkEntries {H : Type} : List (Lit × DataW H) → Nat
  | [] => 0
  | x :: r => uptoBulkEntry x + uptoBulkEntries r
def uptoBulkEntry {H : Type} : Lit × DataW H → Nat
  | (.string bytes, d) => bytes.length + uptoBulk d + 1
  | (_, d) => uptoBulk d + 1
 end
def uptoSmall : (H : Type) → List (DataW H) → Bool := fun _ ds => decide (uptoBulkAll ds ≤ 1048576)
def OpenSpec.upto (s : _root_.Go.ChangeSpec) : _root_.Go.OpenSpec := { _root_.Go.OpenSpec.ofChange s with cond := some uptoSmall }

/-- 'helixlaw13.EvalEvals', WHERE WHAT IT READS IS OF BULK AT MOST 1048576: true; the input reads as it did. -/
def evalEvalsUptoRow : OpenClaim := { program := "ytbbbnopganhebaagreat", sum := "c365a7397bba3573f44039cda049dd5fb8d617caf573e91bb42bed2b2ee485d3", func := "helix/helixlaw13.EvalEvals", spec := "evalEvals", inPlace := ["internal/bytealg.IndexByteString", "internal/bytealg.IndexString"], unfollowed := true, recurses := true, named := ["internal/bytealg.MaxLen"], apart := false, narrowed := true }
def EvalEvalsUptoSaid : Prop := evalEvalsUptoRow.holds Tryz.pinned (OpenSpec.upto evalEvalsSpec)

/-- 'helixlaw13.EvalValues', WHERE WHAT IT READS IS OF BULK AT MOST 1048576: true; the input reads as it did. -/
def evalValuesUptoRow : OpenClaim := { program := "ytbbbnopganhebaagreat", sum := "c365a7397bba3573f44039cda049dd5fb8d617caf573e91bb42bed2b2ee485d3", func := "helix/helixlaw13.EvalValues", spec := "evalValues", inPlace := ["internal/bytealg.IndexByteString", "internal/bytealg.IndexString"], unfollowed := true, recurses := true, named := ["internal/bytealg.MaxLen"], apart := false, narrowed := true }
def EvalValuesUptoSaid : Prop := evalValuesUptoRow.holds Tryz.pinned (OpenSpec.upto evalValuesSpec)

/-- 'helixlaw13.EvalBest', WHERE WHAT IT READS IS OF BULK AT MOST 1048576: true; the input reads as it did. -/
def evalBestUptoRow : OpenClaim := { program := "ytbbbnopganhebaagreat", sum := "c365a7397bba3573f44039cda049dd5fb8d617caf573e91bb42bed2b2ee485d3", func := "helix/helixlaw13.EvalBest", spec := "evalBest", inPlace := ["internal/bytealg.IndexByteString", "internal/bytealg.IndexString"], unfollowed := true, recurses := true, named := ["internal/bytealg.MaxLen"], apart := false, narrowed := true }
def EvalBestUptoSaid : Prop := evalBestUptoRow.holds Tryz.pinned (OpenSpec.upto evalBestSpec)

/-- 'helixlaw13.EvalLegal', WHERE WHAT IT READS IS OF BULK AT MOST 1048576: true; the input reads as it did. -/
def evalLegalUptoRow : OpenClaim := { program := "ytbbbnopganhebaagreat", sum := "c365a7397bba3573f44039cda049dd5fb8d617caf573e91bb42bed2b2ee485d3", func := "helix/helixlaw13.EvalLegal", spec := "evalLegal", inPlace := ["internal/bytealg.IndexByteString", "internal/bytealg.IndexString"], unfollowed := true, recurses := true, named := ["internal/bytealg.MaxLen"], apart := false, narrowed := true }
def EvalLegalUptoSaid : Prop := evalLegalUptoRow.holds Tryz.pinned (OpenSpec.upto evalLegalSpec)

/-- 'helixlaw13.EvalWider', WHERE WHAT IT READS IS OF BULK AT MOST 1048576: true; the input reads as it did. -/
def evalWiderUptoRow : OpenClaim := { program := "ytbbbnopganhebaagreat", sum := "c365a7397bba3573f44039cda049dd5fb8d617caf573e91bb42bed2b2ee485d3", func := "helix/helixlaw13.EvalWider", spec := "evalWider", inPlace := ["internal/bytealg.IndexByteString", "internal/bytealg.IndexString"], unfollowed := true, recurses := true, named := ["internal/bytealg.MaxLen"], apart := false, narrowed := true }
def EvalWiderUptoSaid : Prop := evalWiderUptoRow.holds Tryz.pinned (OpenSpec.upto evalWiderSpec)

/-- 'helixlaw13.EvalTurned', WHERE WHAT IT READS IS OF BULK AT MOST 1048576: true; the input reads as it did. -/
def evalTurnedUptoRow : OpenClaim := { program := "ytbbbnopganhebaagreat", sum := "c365a7397bba3573f44039cda049dd5fb8d617caf573e91bb42bed2b2ee485d3", func := "helix/helixlaw13.EvalTurned", spec := "evalTurned", inPlace := ["internal/bytealg.IndexByteString", "internal/bytealg.IndexString"], unfollowed := true, recurses := true, named := ["internal/bytealg.MaxLen"], apart := false, narrowed := true }
def EvalTurnedUptoSaid : Prop := evalTurnedUptoRow.holds Tryz.pinned (OpenSpec.upto evalTurnedSpec)

end Rows
end Go.Proofs.YtbbbnopganhebaaGreat
