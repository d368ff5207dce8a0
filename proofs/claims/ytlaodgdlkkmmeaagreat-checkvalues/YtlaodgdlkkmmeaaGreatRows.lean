/-
  NARROWER THAN 'FOR EVERY INPUT', by the rows' own cells (each row's printed sentence says how): CheckChecks: loops.
  DERIVED. THE GIVEN ROWS OF THIS SEAT. 6 by the template 'for every input the law returns true; each argument reads behind the call as it read before'; 0 by the template 'total and deterministic' (their statements: YtlaodgdlkkmmeaaGreatTotals.lean).
  GIVEN WITH THE SEED: the statements are not yours to turn. If you find one false, say at which input.
  Laid BY PROGRAM, IN A SANDBOX (cutbox-rows.mjs): the forced cells as the released guide's own fill.sh prints them over the translation 560a9106dd2a23ca… (all of the seat's roots in one cut). By AI agents, Wed Nov 11 2026. No macro, syntax, notation, axiom, sorry.
-/
import Derived.Test.YtlaodgdlkkmmeaaGreatChecked
import GoSem.Claim
import GoSem.ClaimJoined
import GoSem.ClaimMapViews
import Derived.JoinedTies
import Derived.KernelRfl
namespace Go.Proofs.YtlaodgdlkkmmeaaGreat
/- THE CELL 'sum', in the pinned program and in every row, IS THE sha256 OF THE DUMP (.gsa) THAT YtlaodgdlkkmmeaaGreatProg.lean LOADS. Nothing in Lean hashes anything: it is a label: what it is worth is what the hold of that sum in a sandbox is worth. -/
noncomputable def Tryz.pinned : Pinned := { name := "ytlaodgdlkkmmeaagreat", sum := "560a9106dd2a23ca8476ee9a7417cefc7cc4f6b717ca8e649a5e3d121b1055af", checked := Tryz.checked }
namespace Rows
def none {H : Type} : Left H := { results := [], args := [] }

/-- 'helixlaw09.CheckChecks': WHATEVER THE INPUT: true; the input reads as it did. -/
def checkChecksSpec : ChangeSpec := { name := "checkChecks", fn := fun _ => fun
  | [d1, d2] => { results := [.lit (.bool true)], args := [d1, d2] }
  | _ => none }
def checkChecksRow : OpenClaim := { program := "ytlaodgdlkkmmeaagreat", sum := "560a9106dd2a23ca8476ee9a7417cefc7cc4f6b717ca8e649a5e3d121b1055af", func := "helix/helixlaw09.CheckChecks", spec := "checkChecks", inPlace := ["internal/bytealg.IndexByteString", "internal/bytealg.IndexString"], unfollowed := true, recurses := true, named := ["internal/bytealg.MaxLen"], loops := true, apart := false }
def CheckChecksSaid : Prop := checkChecksRow.holds Tryz.pinned (OpenSpec.ofChange checkChecksSpec)

/-- ITS FALSE NEIGHBOUR: 'it returns false'. Refute it at one input. -/
def checkChecksWrong : ChangeSpec := { name := "checkChecks", fn := fun _ => fun
  | [d1, d2] => { results := [.lit (.bool false)], args := [d1, d2] }
  | _ => none }
def CheckChecksWrongFalsely : Prop := checkChecksRow.holds Tryz.pinned (OpenSpec.ofChange checkChecksWrong)

/-- 'helixlaw09.CheckSources': WHATEVER THE INPUT: true; the input reads as it did. -/
def checkSourcesSpec : ChangeSpec := { name := "checkSources", fn := fun _ => fun
  | [d] => { results := [.lit (.bool true)], args := [d] }
  | _ => none }
def checkSourcesRow : OpenClaim := { program := "ytlaodgdlkkmmeaagreat", sum := "560a9106dd2a23ca8476ee9a7417cefc7cc4f6b717ca8e649a5e3d121b1055af", func := "helix/helixlaw09.CheckSources", spec := "checkSources", inPlace := ["internal/bytealg.IndexByteString", "internal/bytealg.IndexString"], unfollowed := true, recurses := true, named := ["internal/bytealg.MaxLen"], apart := false }
def CheckSourcesSaid : Prop := checkSourcesRow.holds Tryz.pinned (OpenSpec.ofChange checkSourcesSpec)

/-- ITS FALSE NEIGHBOUR: 'it returns false'. Refute it at one input. -/
def checkSourcesWrong : ChangeSpec := { name := "checkSources", fn := fun _ => fun
  | [d] => { results := [.lit (.bool false)], args := [d] }
  | _ => none }
def CheckSourcesWrongFalsely : Prop := checkSourcesRow.holds Tryz.pinned (OpenSpec.ofChange checkSourcesWrong)

/-- 'helixlaw09.CheckValues': WHATEVER THE INPUT: true; the input reads as it did. -/
def checkValuesSpec : ChangeSpec := { name := "checkValues", fn := fun _ => fun
  | [d1, d2] => { results := [.lit (.bool true)], args := [d1, d2] }
  | _ => none }
def checkValuesRow : OpenClaim := { program := "ytlaodgdlkkmmeaagreat", sum := "560a9106dd2a23ca8476ee9a7417cefc7cc4f6b717ca8e649a5e3d121b1055af", func := "helix/helixlaw09.CheckValues", spec := "checkValues", inPlace := ["internal/bytealg.IndexByteString", "internal/bytealg.IndexString"], unfollowed := true, recurses := true, named := ["internal/bytealg.MaxLen"], apart := false }
def CheckValuesSaid : Prop := checkValuesRow.holds Tryz.pinned (OpenSpec.ofChange checkValuesSpec)

/-- ITS FALSE NEIGHBOUR: 'it returns false'. Refute it at one input. -/
def checkValuesWrong : ChangeSpec := { name := "checkValues", fn := fun _ => fun
  | [d1, d2] => { results := [.lit (.bool false)], args := [d1, d2] }
  | _ => none }
def CheckValuesWrongFalsely : Prop := checkValuesRow.holds Tryz.pinned (OpenSpec.ofChange checkValuesWrong)

/-- 'helixlaw09.CheckSchemes': WHATEVER THE INPUT: true; the input reads as it did. -/
def checkSchemesSpec : ChangeSpec := { name := "checkSchemes", fn := fun _ => fun
  | [d1, d2] => { results := [.lit (.bool true)], args := [d1, d2] }
  | _ => none }
def checkSchemesRow : OpenClaim := { program := "ytlaodgdlkkmmeaagreat", sum := "560a9106dd2a23ca8476ee9a7417cefc7cc4f6b717ca8e649a5e3d121b1055af", func := "helix/helixlaw09.CheckSchemes", spec := "checkSchemes", inPlace := ["internal/bytealg.IndexByteString", "internal/bytealg.IndexString"], unfollowed := true, recurses := true, named := ["internal/bytealg.MaxLen"], apart := false }
def CheckSchemesSaid : Prop := checkSchemesRow.holds Tryz.pinned (OpenSpec.ofChange checkSchemesSpec)

/-- ITS FALSE NEIGHBOUR: 'it returns false'. Refute it at one input. -/
def checkSchemesWrong : ChangeSpec := { name := "checkSchemes", fn := fun _ => fun
  | [d1, d2] => { results := [.lit (.bool false)], args := [d1, d2] }
  | _ => none }
def CheckSchemesWrongFalsely : Prop := checkSchemesRow.holds Tryz.pinned (OpenSpec.ofChange checkSchemesWrong)

/-- 'helixlaw09.CheckRight': WHATEVER THE INPUT: true; the input reads as it did. -/
def checkRightSpec : ChangeSpec := { name := "checkRight", fn := fun _ => fun
  | [d] => { results := [.lit (.bool true)], args := [d] }
  | _ => none }
def checkRightRow : OpenClaim := { program := "ytlaodgdlkkmmeaagreat", sum := "560a9106dd2a23ca8476ee9a7417cefc7cc4f6b717ca8e649a5e3d121b1055af", func := "helix/helixlaw09.CheckRight", spec := "checkRight", inPlace := ["internal/bytealg.IndexByteString", "internal/bytealg.IndexString"], unfollowed := true, recurses := true, named := ["internal/bytealg.MaxLen"], apart := false }
def CheckRightSaid : Prop := checkRightRow.holds Tryz.pinned (OpenSpec.ofChange checkRightSpec)

/-- ITS FALSE NEIGHBOUR: 'it returns false'. Refute it at one input. -/
def checkRightWrong : ChangeSpec := { name := "checkRight", fn := fun _ => fun
  | [d] => { results := [.lit (.bool false)], args := [d] }
  | _ => none }
def CheckRightWrongFalsely : Prop := checkRightRow.holds Tryz.pinned (OpenSpec.ofChange checkRightWrong)

/-- 'helixlaw09.CheckMeans': WHATEVER THE INPUT: true; the input reads as it did. -/
def checkMeansSpec : ChangeSpec := { name := "checkMeans", fn := fun _ => fun
  | [d] => { results := [.lit (.bool true)], args := [d] }
  | _ => none }
def checkMeansRow : OpenClaim := { program := "ytlaodgdlkkmmeaagreat", sum := "560a9106dd2a23ca8476ee9a7417cefc7cc4f6b717ca8e649a5e3d121b1055af", func := "helix/helixlaw09.CheckMeans", spec := "checkMeans", inPlace := ["internal/bytealg.IndexByteString", "internal/bytealg.IndexString"], unfollowed := true, recurses := true, named := ["internal/bytealg.MaxLen"], apart := false }
def CheckMeansSaid : Prop := checkMeansRow.holds Tryz.pinned (OpenSpec.ofChange checkMeansSpec)

/-- ITS FALSE NEIGHBOUR: 'it returns false'. Refute it at one input. -/
def checkMeansWrong : ChangeSpec := { name := "checkMeans", fn := fun _ => fun
  | [d] => { results := [.lit (.bool false)], args := [d] }
  | _ => none }
def CheckMeansWrongFalsely : Prop := checkMeansRow.holds Tryz.pinned (OpenSpec.ofChange checkMeansWrong)

/- THE SECOND FORM. 'bulk': how many values and letters a reading holds, each counted each time it is reached (what is shared counts as often as it is met; a slice's spare places count too). A statement '..UptoSaid' is the law's where the arguments, and the package variables that the reading takes, are together of bulk at most 1048576: NARROWER than '..Said'. Prove '..Said' where nothing that the law and all that it calls make is longer than what came in: it says more and counts as full. Else prove '..UptoSaid'. A law counts once. -/
mutual
def uptoBulk {H : Type} : DataW H → Nat
  | .lit (.string bytes) => bytes.length + 1
  | .lit _ => 1
  | .nil => 1
  | .ptr d => uptoBulk d + 1
  | .slice elems spare => uptoBulkAll elems + uptoBulkAll spare + 1
  | .agg parts => uptoBulkAll parts + 1
  | .iface _ d => uptoBulk d + 1
  | .map entries => uptoBulkEntries entries + 1
  | .held _ => 1
def uptoBulkAll {H : Type} : List (DataW H) → Nat
  | [] => 0
  | d :: r => uptoBulk d + uptoBulkAll r
def uptoBulkEntries {H : Type} : List (Lit × DataW H) → Nat
  | [] => 0
  | x :: r => uptoBulkEntry x + uptoBulkEntries r
def uptoBulkEntry {H : Type} : Lit × DataW H → Nat
  | (.string bytes, d) => bytes.length + uptoBulk d + 1
  | (_, d) => uptoBulk d + 1
 end
def uptoSmall : (H : Type) → List (DataW H) → Bool := fun _ ds => decide (uptoBulkAll ds ≤ 1048576)
def OpenSpec.upto (s : _root_.Go.ChangeSpec) : _root_.Go.OpenSpec := { _root_.Go.OpenSpec.ofChange s with cond := some uptoSmall }

/-- 'helixlaw09.CheckChecks', WHERE WHAT IT READS IS OF BULK AT MOST 1048576: true; the input reads as it did. -/
def checkChecksUptoRow : OpenClaim := { program := "ytlaodgdlkkmmeaagreat", sum := "560a9106dd2a23ca8476ee9a7417cefc7cc4f6b717ca8e649a5e3d121b1055af", func := "helix/helixlaw09.CheckChecks", spec := "checkChecks", inPlace := ["internal/bytealg.IndexByteString", "internal/bytealg.IndexString"], unfollowed := true, recurses := true, named := ["internal/bytealg.MaxLen"], loops := true, apart := false, narrowed := true }
def CheckChecksUptoSaid : Prop := checkChecksUptoRow.holds Tryz.pinned (OpenSpec.upto checkChecksSpec)

/-- 'helixlaw09.CheckSources', WHERE WHAT IT READS IS OF BULK AT MOST 1048576: true; the input reads as it did. -/
def checkSourcesUptoRow : OpenClaim := { program := "ytlaodgdlkkmmeaagreat", sum := "560a9106dd2a23ca8476ee9a7417cefc7cc4f6b717ca8e649a5e3d121b1055af", func := "helix/helixlaw09.CheckSources", spec := "checkSources", inPlace := ["internal/bytealg.IndexByteString", "internal/bytealg.IndexString"], unfollowed := true, recurses := true, named := ["internal/bytealg.MaxLen"], apart := false, narrowed := true }
def CheckSourcesUptoSaid : Prop := checkSourcesUptoRow.holds Tryz.pinned (OpenSpec.upto checkSourcesSpec)

/-- 'helixlaw09.CheckValues', WHERE WHAT IT READS IS OF BULK AT MOST 1048576: true; the input reads as it did. -/
def checkValuesUptoRow : OpenClaim := { program := "ytlaodgdlkkmmeaagreat", sum := "560a9106dd2a23ca8476ee9a7417cefc7cc4f6b717ca8e649a5e3d121b1055af", func := "helix/helixlaw09.CheckValues", spec := "checkValues", inPlace := ["internal/bytealg.IndexByteString", "internal/bytealg.IndexString"], unfollowed := true, recurses := true, named := ["internal/bytealg.MaxLen"], apart := false, narrowed := true }
def CheckValuesUptoSaid : Prop := checkValuesUptoRow.holds Tryz.pinned (OpenSpec.upto checkValuesSpec)

/-- 'helixlaw09.CheckSchemes', WHERE WHAT IT READS IS OF BULK AT MOST 1048576: true; the input reads as it did. -/
def checkSchemesUptoRow : OpenClaim := { program := "ytlaodgdlkkmmeaagreat", sum := "560a9106dd2a23ca8476ee9a7417cefc7cc4f6b717ca8e649a5e3d121b1055af", func := "helix/helixlaw09.CheckSchemes", spec := "checkSchemes", inPlace := ["internal/bytealg.IndexByteString", "internal/bytealg.IndexString"], unfollowed := true, recurses := true, named := ["internal/bytealg.MaxLen"], apart := false, narrowed := true }
def CheckSchemesUptoSaid : Prop := checkSchemesUptoRow.holds Tryz.pinned (OpenSpec.upto checkSchemesSpec)

/-- 'helixlaw09.CheckRight', WHERE WHAT IT READS IS OF BULK AT MOST 1048576: true; the input reads as it did. -/
def checkRightUptoRow : OpenClaim := { program := "ytlaodgdlkkmmeaagreat", sum := "560a9106dd2a23ca8476ee9a7417cefc7cc4f6b717ca8e649a5e3d121b1055af", func := "helix/helixlaw09.CheckRight", spec := "checkRight", inPlace := ["internal/bytealg.IndexByteString", "internal/bytealg.IndexString"], unfollowed := true, recurses := true, named := ["internal/bytealg.MaxLen"], apart := false, narrowed := true }
def CheckRightUptoSaid : Prop := checkRightUptoRow.holds Tryz.pinned (OpenSpec.upto checkRightSpec)

/-- 'helixlaw09.CheckMeans', WHERE WHAT IT READS IS OF BULK AT MOST 1048576: true; the input reads as it did. -/
def checkMeansUptoRow : OpenClaim := { program := "ytlaodgdlkkmmeaagreat", sum := "560a9106dd2a23ca8476ee9a7417cefc7cc4f6b717ca8e649a5e3d121b1055af", func := "helix/helixlaw09.CheckMeans", spec := "checkMeans", inPlace := ["internal/bytealg.IndexByteString", "internal/bytealg.IndexString"], unfollowed := true, recurses := true, named := ["internal/bytealg.MaxLen"], apart := false, narrowed := true }
def CheckMeansUptoSaid : Prop := checkMeansUptoRow.holds Tryz.pinned (OpenSpec.upto checkMeansSpec)

end Rows
end Go.Proofs.YtlaodgdlkkmmeaaGreat
