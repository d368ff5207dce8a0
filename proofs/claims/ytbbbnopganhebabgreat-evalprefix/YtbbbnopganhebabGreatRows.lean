/-
  No cell of these rows narrows 'for every input' (looked for: loops, veiled, ifaces, maps, wideKeys, modest, calm, conditions, laid).
  DERIVED. THE GIVEN ROWS OF THIS SEAT. 4 by the template 'for every input the law returns true; each argument reads behind the call as it read before'; 0 by the template 'total and deterministic' (their statements: YtbbbnopganhebabGreatTotals.lean).
  GIVEN WITH THE SEED: the statements are not yours to turn. If you find one false, say at which input.
  Laid BY PROGRAM, IN A SANDBOX (cutbox-rows.mjs): the forced cells as the released guide's own fill.sh prints them over the translation 89a2051194e3d9b1… (all of the seat's roots in one cut). By AI agents, Wed Nov 11 2026. No macro, syntax, notation, axiom, sorry.
-/
import Derived.Test.YtbbbnopganhebabGreatChecked
import GoSem.Claim
import GoSem.ClaimJoined
import GoSem.ClaimMapViews
import Derived.JoinedTies
import Derived.KernelRfl
namespace Go.Proofs.YtbbbnopganhebabGreat
/- THE CELL 'sum', in the pinned program and in every row, IS THE sha256 OF THE DUMP (.gsa) THAT YtbbbnopganhebabGreatProg.lean LOADS. Nothing in Lean hashes anything: it is a label: what it is worth is what the hold of that sum in a sandbox is worth. -/
noncomputable def Tryz.pinned : Pinned := { name := "ytbbbnopganhebabgreat", sum := "89a2051194e3d9b1f7598d358253787b3c79b52c65f148c4c553236a44c27965", checked := Tryz.checked }
namespace Rows
def none {H : Type} : Left H := { results := [], args := [] }

/-- 'helixlaw13.EvalPrefix': WHATEVER THE INPUT: true; the input reads as it did. -/
def evalPrefixSpec : ChangeSpec := { name := "evalPrefix", fn := fun _ => fun
  | [d1, d2, d3, d4, d5, d6] => { results := [.lit (.bool true)], args := [d1, d2, d3, d4, d5, d6] }
  | _ => none }
def evalPrefixRow : OpenClaim := { program := "ytbbbnopganhebabgreat", sum := "89a2051194e3d9b1f7598d358253787b3c79b52c65f148c4c553236a44c27965", func := "helix/helixlaw13.EvalPrefix", spec := "evalPrefix", inPlace := ["internal/bytealg.IndexByteString", "internal/bytealg.IndexString"], unfollowed := true, recurses := true, named := ["internal/bytealg.MaxLen"], apart := false }
def EvalPrefixSaid : Prop := evalPrefixRow.holds Tryz.pinned (OpenSpec.ofChange evalPrefixSpec)

/-- ITS FALSE NEIGHBOUR: 'it returns false'. Refute it at one input. -/
def evalPrefixWrong : ChangeSpec := { name := "evalPrefix", fn := fun _ => fun
  | [d1, d2, d3, d4, d5, d6] => { results := [.lit (.bool false)], args := [d1, d2, d3, d4, d5, d6] }
  | _ => none }
def EvalPrefixWrongFalsely : Prop := evalPrefixRow.holds Tryz.pinned (OpenSpec.ofChange evalPrefixWrong)

/-- 'helixlaw13.EvalSteps': WHATEVER THE INPUT: true; the input reads as it did. -/
def evalStepsSpec : ChangeSpec := { name := "evalSteps", fn := fun _ => fun
  | [d1, d2, d3] => { results := [.lit (.bool true)], args := [d1, d2, d3] }
  | _ => none }
def evalStepsRow : OpenClaim := { program := "ytbbbnopganhebabgreat", sum := "89a2051194e3d9b1f7598d358253787b3c79b52c65f148c4c553236a44c27965", func := "helix/helixlaw13.EvalSteps", spec := "evalSteps", inPlace := ["internal/bytealg.IndexByteString", "internal/bytealg.IndexString"], unfollowed := true, recurses := true, named := ["internal/bytealg.MaxLen"], apart := false }
def EvalStepsSaid : Prop := evalStepsRow.holds Tryz.pinned (OpenSpec.ofChange evalStepsSpec)

/-- ITS FALSE NEIGHBOUR: 'it returns false'. Refute it at one input. -/
def evalStepsWrong : ChangeSpec := { name := "evalSteps", fn := fun _ => fun
  | [d1, d2, d3] => { results := [.lit (.bool false)], args := [d1, d2, d3] }
  | _ => none }
def EvalStepsWrongFalsely : Prop := evalStepsRow.holds Tryz.pinned (OpenSpec.ofChange evalStepsWrong)

/-- 'helixlaw13.EvalEnds': WHATEVER THE INPUT: true; the input reads as it did. -/
def evalEndsSpec : ChangeSpec := { name := "evalEnds", fn := fun _ => fun
  | [d1, d2, d3] => { results := [.lit (.bool true)], args := [d1, d2, d3] }
  | _ => none }
def evalEndsRow : OpenClaim := { program := "ytbbbnopganhebabgreat", sum := "89a2051194e3d9b1f7598d358253787b3c79b52c65f148c4c553236a44c27965", func := "helix/helixlaw13.EvalEnds", spec := "evalEnds", inPlace := ["internal/bytealg.IndexByteString", "internal/bytealg.IndexString"], unfollowed := true, recurses := true, named := ["internal/bytealg.MaxLen"], apart := false }
def EvalEndsSaid : Prop := evalEndsRow.holds Tryz.pinned (OpenSpec.ofChange evalEndsSpec)

/-- ITS FALSE NEIGHBOUR: 'it returns false'. Refute it at one input. -/
def evalEndsWrong : ChangeSpec := { name := "evalEnds", fn := fun _ => fun
  | [d1, d2, d3] => { results := [.lit (.bool false)], args := [d1, d2, d3] }
  | _ => none }
def EvalEndsWrongFalsely : Prop := evalEndsRow.holds Tryz.pinned (OpenSpec.ofChange evalEndsWrong)

/-- 'helixlaw13.EvalShift': WHATEVER THE INPUT: true; the input reads as it did. -/
def evalShiftSpec : ChangeSpec := { name := "evalShift", fn := fun _ => fun
  | [d1, d2, d3, d4] => { results := [.lit (.bool true)], args := [d1, d2, d3, d4] }
  | _ => none }
def evalShiftRow : OpenClaim := { program := "ytbbbnopganhebabgreat", sum := "89a2051194e3d9b1f7598d358253787b3c79b52c65f148c4c553236a44c27965", func := "helix/helixlaw13.EvalShift", spec := "evalShift", inPlace := ["internal/bytealg.IndexByteString", "internal/bytealg.IndexString"], unfollowed := true, recurses := true, named := ["internal/bytealg.MaxLen"], apart := false }
def EvalShiftSaid : Prop := evalShiftRow.holds Tryz.pinned (OpenSpec.ofChange evalShiftSpec)

/-- ITS FALSE NEIGHBOUR: 'it returns false'. Refute it at one input. -/
def evalShiftWrong : ChangeSpec := { name := "evalShift", fn := fun _ => fun
  | [d1, d2, d3, d4] => { results := [.lit (.bool false)], args := [d1, d2, d3, d4] }
  | _ => none }
def EvalShiftWrongFalsely : Prop := evalShiftRow.holds Tryz.pinned (OpenSpec.ofChange evalShiftWrong)

/- THE SECOND FORM. 'bulk': how many values and letters a reading holds, each counted each time it is reached (what is shared counts as often as it is met; a slice's spare places count too). A statement '..UptoSaid' is the law's where the arguments, and the package variables that the reading takes, are together of bulk at most 1048576: NARROWER than '..Said'. Prove '..Said' where nothing that the law and all that it calls make is longer than what came in: it says more and counts as full. Else prove '..UptoSaid'. A law counts once. -/
mutual
def uptoBulk {H : Type} : DataW H → Nat
  | .lit (.string bytes) => bytes.length + 1
  | .lit _ => 1
  | .nil => 1
  | .ptr d => uptoBulk d + 1
  | .slice elems spare => uptoBulkAll elems + uptoBulkAll spare + 1
  | .agg parts => uptoBulkAll parts + 1
  | .iface _ d => uptoBulk d + 1
  | .map entries => uptoBulkEntries entries + 1
  | .held _ => 1
def uptoBulkAll {H : Type} : List (DataW H) → Nat
  | [] => 0
  | d :: r => uptoBulk d + uptoBulkAll r
def uptoBulkEntries {H : Type} : List (Lit × DataW H) → Nat
  | [] => 0
  | x :: r => uptoBulkEntry x + uptoBulkEntries r
def uptoBulkEntry {H : Type} : Lit × DataW H → Nat
  | (.string bytes, d) => bytes.length + uptoBulk d + 1
  | (_, d) => uptoBulk d + 1
 end
def uptoSmall : (H : Type) → List (DataW H) → Bool := fun _ ds => decide (uptoBulkAll ds ≤ 1048576)
def OpenSpec.upto (s : _root_.Go.ChangeSpec) : _root_.Go.OpenSpec := { _root_.Go.OpenSpec.ofChange s with cond := some uptoSmall }

/-- 'helixlaw13.EvalPrefix', WHERE WHAT IT READS IS OF BULK AT MOST 1048576: true; the input reads as it did. -/
def evalPrefixUptoRow : OpenClaim := { program := "ytbbbnopganhebabgreat", sum := "89a2051194e3d9b1f7598d358253787b3c79b52c65f148c4c553236a44c27965", func := "helix/helixlaw13.EvalPrefix", spec := "evalPrefix", inPlace := ["internal/bytealg.IndexByteString", "internal/bytealg.IndexString"], unfollowed := true, recurses := true, named := ["internal/bytealg.MaxLen"], apart := false, narrowed := true }
def EvalPrefixUptoSaid : Prop := evalPrefixUptoRow.holds Tryz.pinned (OpenSpec.upto evalPrefixSpec)

/-- 'helixlaw13.EvalSteps', WHERE WHAT IT READS IS OF BULK AT MOST 1048576: true; the input reads as it did. -/
def evalStepsUptoRow : OpenClaim := { program := "ytbbbnopganhebabgreat", sum := "89a2051194e3d9b1f7598d358253787b3c79b52c65f148c4c553236a44c27965", func := "helix/helixlaw13.EvalSteps", spec := "evalSteps", inPlace := ["internal/bytealg.IndexByteString", "internal/bytealg.IndexString"], unfollowed := true, recurses := true, named := ["internal/bytealg.MaxLen"], apart := false, narrowed := true }
def EvalStepsUptoSaid : Prop := evalStepsUptoRow.holds Tryz.pinned (OpenSpec.upto evalStepsSpec)

/-- 'helixlaw13.EvalEnds', WHERE WHAT IT READS IS OF BULK AT MOST 1048576: true; the input reads as it did. -/
def evalEndsUptoRow : OpenClaim := { program := "ytbbbnopganhebabgreat", sum := "89a2051194e3d9b1f7598d358253787b3c79b52c65f148c4c553236a44c27965", func := "helix/helixlaw13.EvalEnds", spec := "evalEnds", inPlace := ["internal/bytealg.IndexByteString", "internal/bytealg.IndexString"], unfollowed := true, recurses := true, named := ["internal/bytealg.MaxLen"], apart := false, narrowed := true }
def EvalEndsUptoSaid : Prop := evalEndsUptoRow.holds Tryz.pinned (OpenSpec.upto evalEndsSpec)

/-- 'helixlaw13.EvalShift', WHERE WHAT IT READS IS OF BULK AT MOST 1048576: true; the input reads as it did. -/
def evalShiftUptoRow : OpenClaim := { program := "ytbbbnopganhebabgreat", sum := "89a2051194e3d9b1f7598d358253787b3c79b52c65f148c4c553236a44c27965", func := "helix/helixlaw13.EvalShift", spec := "evalShift", inPlace := ["internal/bytealg.IndexByteString", "internal/bytealg.IndexString"], unfollowed := true, recurses := true, named := ["internal/bytealg.MaxLen"], apart := false, narrowed := true }
def EvalShiftUptoSaid : Prop := evalShiftUptoRow.holds Tryz.pinned (OpenSpec.upto evalShiftSpec)

end Rows
end Go.Proofs.YtbbbnopganhebabGreat
