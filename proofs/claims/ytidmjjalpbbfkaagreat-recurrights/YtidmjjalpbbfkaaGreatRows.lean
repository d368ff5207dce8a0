/-
  No cell of these rows narrows 'for every input' (looked for: loops, veiled, ifaces, maps, wideKeys, modest, calm, conditions, laid).
  DERIVED. THE GIVEN ROWS OF THIS SEAT. 3 by the template 'for every input the law returns true; each argument reads behind the call as it read before'; 0 by the template 'total and deterministic' (their statements: YtidmjjalpbbfkaaGreatTotals.lean).
  GIVEN WITH THE SEED: the statements are not yours to turn. If you find one false, say at which input.
  Laid BY PROGRAM, IN A SANDBOX (cutbox-rows.mjs): the forced cells as the released guide's own fill.sh prints them over the translation 9dc9704c1672385b… (all of the seat's roots in one cut). By AI agents, Wed Nov 11 2026. No macro, syntax, notation, axiom, sorry.
-/
import Derived.Test.YtidmjjalpbbfkaaGreatChecked
import GoSem.Claim
import GoSem.ClaimJoined
import GoSem.ClaimMapViews
import Derived.JoinedTies
import Derived.KernelRfl
namespace Go.Proofs.YtidmjjalpbbfkaaGreat
/- THE CELL 'sum', in the pinned program and in every row, IS THE sha256 OF THE DUMP (.gsa) THAT YtidmjjalpbbfkaaGreatProg.lean LOADS. Nothing in Lean hashes anything: it is a label: what it is worth is what the hold of that sum in a sandbox is worth. -/
noncomputable def Tryz.pinned : Pinned := { name := "ytidmjjalpbbfkaagreat", sum := "9dc9704c1672385be4d4917cdc2f2afaa702f8be4fff88607d873a94fcab0121", checked := Tryz.checked }
namespace Rows
def none {H : Type} : Left H := { results := [], args := [] }

/-- 'helixlaw12.RecurLowers': WHATEVER THE INPUT: true; the input reads as it did. -/
def recurLowersSpec : ChangeSpec := { name := "recurLowers", fn := fun _ => fun
  | [d1, d2] => { results := [.lit (.bool true)], args := [d1, d2] }
  | _ => none }
def recurLowersRow : OpenClaim := { program := "ytidmjjalpbbfkaagreat", sum := "9dc9704c1672385be4d4917cdc2f2afaa702f8be4fff88607d873a94fcab0121", func := "helix/helixlaw12.RecurLowers", spec := "recurLowers", inPlace := ["internal/bytealg.IndexByteString", "internal/bytealg.IndexString"], unfollowed := true, recurses := true, named := ["internal/bytealg.MaxLen"], apart := false }
def RecurLowersSaid : Prop := recurLowersRow.holds Tryz.pinned (OpenSpec.ofChange recurLowersSpec)

/-- ITS FALSE NEIGHBOUR: 'it returns false'. Refute it at one input. -/
def recurLowersWrong : ChangeSpec := { name := "recurLowers", fn := fun _ => fun
  | [d1, d2] => { results := [.lit (.bool false)], args := [d1, d2] }
  | _ => none }
def RecurLowersWrongFalsely : Prop := recurLowersRow.holds Tryz.pinned (OpenSpec.ofChange recurLowersWrong)

/-- 'helixlaw12.RecurRights': WHATEVER THE INPUT: true; the input reads as it did. -/
def recurRightsSpec : ChangeSpec := { name := "recurRights", fn := fun _ => fun
  | [d1, d2] => { results := [.lit (.bool true)], args := [d1, d2] }
  | _ => none }
def recurRightsRow : OpenClaim := { program := "ytidmjjalpbbfkaagreat", sum := "9dc9704c1672385be4d4917cdc2f2afaa702f8be4fff88607d873a94fcab0121", func := "helix/helixlaw12.RecurRights", spec := "recurRights", inPlace := ["internal/bytealg.IndexByteString", "internal/bytealg.IndexString"], unfollowed := true, recurses := true, named := ["internal/bytealg.MaxLen"], apart := false }
def RecurRightsSaid : Prop := recurRightsRow.holds Tryz.pinned (OpenSpec.ofChange recurRightsSpec)

/-- ITS FALSE NEIGHBOUR: 'it returns false'. Refute it at one input. -/
def recurRightsWrong : ChangeSpec := { name := "recurRights", fn := fun _ => fun
  | [d1, d2] => { results := [.lit (.bool false)], args := [d1, d2] }
  | _ => none }
def RecurRightsWrongFalsely : Prop := recurRightsRow.holds Tryz.pinned (OpenSpec.ofChange recurRightsWrong)

/-- 'helixlaw12.RecurSources': WHATEVER THE INPUT: true; the input reads as it did. -/
def recurSourcesSpec : ChangeSpec := { name := "recurSources", fn := fun _ => fun
  | [d] => { results := [.lit (.bool true)], args := [d] }
  | _ => none }
def recurSourcesRow : OpenClaim := { program := "ytidmjjalpbbfkaagreat", sum := "9dc9704c1672385be4d4917cdc2f2afaa702f8be4fff88607d873a94fcab0121", func := "helix/helixlaw12.RecurSources", spec := "recurSources", inPlace := ["internal/bytealg.IndexByteString", "internal/bytealg.IndexString"], unfollowed := true, recurses := true, named := ["internal/bytealg.MaxLen"], apart := false }
def RecurSourcesSaid : Prop := recurSourcesRow.holds Tryz.pinned (OpenSpec.ofChange recurSourcesSpec)

/-- ITS FALSE NEIGHBOUR: 'it returns false'. Refute it at one input. -/
def recurSourcesWrong : ChangeSpec := { name := "recurSources", fn := fun _ => fun
  | [d] => { results := [.lit (.bool false)], args := [d] }
  | _ => none }
def RecurSourcesWrongFalsely : Prop := recurSourcesRow.holds Tryz.pinned (OpenSpec.ofChange recurSourcesWrong)

/- THE SECOND FORM. 'bulk': how many values and letters a reading holds, each counted each time it is reached (what is shared counts as often as it is met; a slice's spare places count too). A statement '..UptoSaid' is the law's where the arguments, and the package variables that the reading takes, are together of bulk at most 1048576: NARROWER than '..Said'. Prove '..Said' where nothing that the law and all that it calls make is longer than what came in: it says more and counts as full. Else prove '..UptoSaid'. A law counts once. -/
mutual
def uptoBulk {H : Type} : DataW H → Nat
  | .lit (.string bytes) => bytes.length + 1
  | .lit _ => 1
  | .nil => 1
  | .ptr d => uptoBulk d + 1
  | .slice elems spare => uptoBulkAll elems + uptoBulkAll spare + 1
  | .agg parts => uptoBulkAll parts + 1
  | .iface _ d => uptoBulk d + 1
  | .map entries => uptoBulkEntries entries + 1
  | .held _ => 1
def uptoBulkAll {H : Type} : List (DataW H) → Nat
  | [] => 0
  | d :: r => uptoBulk d + uptoBulkAll r
def uptoBulkEntries {H : Type} : List (Lit × DataW H) → Nat
  | [] => 0
  | x :: r => uptoBulkEntry x + uptoBulkEntries r
def uptoBulkEntry {H : Type} : Lit × DataW H → Nat
  | (.string bytes, d) => bytes.length + uptoBulk d + 1
  | (_, d) => uptoBulk d + 1
 end
def uptoSmall : (H : Type) → List (DataW H) → Bool := fun _ ds => decide (uptoBulkAll ds ≤ 1048576)
def OpenSpec.upto (s : _root_.Go.ChangeSpec) : _root_.Go.OpenSpec := { _root_.Go.OpenSpec.ofChange s with cond := some uptoSmall }

/-- 'helixlaw12.RecurLowers', WHERE WHAT IT READS IS OF BULK AT MOST 1048576: true; the input reads as it did. -/
def recurLowersUptoRow : OpenClaim := { program := "ytidmjjalpbbfkaagreat", sum := "9dc9704c1672385be4d4917cdc2f2afaa702f8be4fff88607d873a94fcab0121", func := "helix/helixlaw12.RecurLowers", spec := "recurLowers", inPlace := ["internal/bytealg.IndexByteString", "internal/bytealg.IndexString"], unfollowed := true, recurses := true, named := ["internal/bytealg.MaxLen"], apart := false, narrowed := true }
def RecurLowersUptoSaid : Prop := recurLowersUptoRow.holds Tryz.pinned (OpenSpec.upto recurLowersSpec)

/-- 'helixlaw12.RecurRights', WHERE WHAT IT READS IS OF BULK AT MOST 1048576: true; the input reads as it did. -/
def recurRightsUptoRow : OpenClaim := { program := "ytidmjjalpbbfkaagreat", sum := "9dc9704c1672385be4d4917cdc2f2afaa702f8be4fff88607d873a94fcab0121", func := "helix/helixlaw12.RecurRights", spec := "recurRights", inPlace := ["internal/bytealg.IndexByteString", "internal/bytealg.IndexString"], unfollowed := true, recurses := true, named := ["internal/bytealg.MaxLen"], apart := false, narrowed := true }
def RecurRightsUptoSaid : Prop := recurRightsUptoRow.holds Tryz.pinned (OpenSpec.upto recurRightsSpec)

/-- 'helixlaw12.RecurSources', WHERE WHAT IT READS IS OF BULK AT MOST 1048576: true; the input reads as it did. -/
def recurSourcesUptoRow : OpenClaim := { program := "ytidmjjalpbbfkaagreat", sum := "9dc9704c1672385be4d4917cdc2f2afaa702f8be4fff88607d873a94fcab0121", func := "helix/helixlaw12.RecurSources", spec := "recurSources", inPlace := ["internal/bytealg.IndexByteString", "internal/bytealg.IndexString"], unfollowed := true, recurses := true, named := ["internal/bytealg.MaxLen"], apart := false, narrowed := true }
def RecurSourcesUptoSaid : Prop := recurSourcesUptoRow.holds Tryz.pinned (OpenSpec.upto recurSourcesSpec)

end Rows
end Go.Proofs.YtidmjjalpbbfkaaGreat
