/-
  No cell of these rows narrows 'for every input' (looked for: loops, veiled, ifaces, maps, wideKeys, modest, calm, conditions, laid).
  DERIVED. THE GIVEN ROWS OF THIS SEAT. 5 by the template 'for every input the law returns true; each argument reads behind the call as it read before'; 0 by the template 'total and deterministic' (their statements: YtolehoibpnenlaaTotals.lean).
  GIVEN WITH THE SEED: the statements are not yours to turn. If you find one false, say at which input.
  Laid BY PROGRAM, IN A SANDBOX (cutbox-rows.mjs): the forced cells as the released guide's own fill.sh prints them over the translation fa76f560bed6b3c5… (all of the seat's roots in one cut). By AI agents, Wed Nov 11 2026. No macro, syntax, notation, axiom, sorry.
-/
import Derived.Test.YtolehoibpnenlaaChecked
import GoSem.Claim
import GoSem.ClaimJoined
import GoSem.ClaimMapViews
import Derived.JoinedTies
import Derived.KernelRfl
namespace Go.Proofs.Ytolehoibpnenlaa
/- THE CELL 'sum', in the pinned program and in every row, IS THE sha256 OF THE DUMP (.gsa) THAT YtolehoibpnenlaaProg.lean LOADS. Nothing in Lean hashes anything: it is a label: what it is worth is what the hold of that sum in a sandbox is worth. -/
noncomputable def Try.pinned : Pinned := { name := "ytolehoibpnenlaa", sum := "fa76f560bed6b3c55f169ac85d44fb4d3e570a6cd1ba677042ce3bdfe7982811", checked := Try.checked }
namespace Rows
def none {H : Type} : Left H := { results := [], args := [] }

/-- 'helixlaw14.PassesFold': WHATEVER THE INPUT: true; the input reads as it did. -/
def passesFoldSpec : ChangeSpec := { name := "passesFold", fn := fun _ => fun
  | [d] => { results := [.lit (.bool true)], args := [d] }
  | _ => none }
def passesFoldRow : OpenClaim := { program := "ytolehoibpnenlaa", sum := "fa76f560bed6b3c55f169ac85d44fb4d3e570a6cd1ba677042ce3bdfe7982811", func := "helix/helixlaw14.PassesFold", spec := "passesFold", unfollowed := true, recurses := true, apart := false }
def PassesFoldSaid : Prop := passesFoldRow.holds Try.pinned (OpenSpec.ofChange passesFoldSpec)

/-- ITS FALSE NEIGHBOUR: 'it returns false'. Refute it at one input. -/
def passesFoldWrong : ChangeSpec := { name := "passesFold", fn := fun _ => fun
  | [d] => { results := [.lit (.bool false)], args := [d] }
  | _ => none }
def PassesFoldWrongFalsely : Prop := passesFoldRow.holds Try.pinned (OpenSpec.ofChange passesFoldWrong)

/-- 'helixlaw14.PassesPrune': WHATEVER THE INPUT: true; the input reads as it did. -/
def passesPruneSpec : ChangeSpec := { name := "passesPrune", fn := fun _ => fun
  | [d] => { results := [.lit (.bool true)], args := [d] }
  | _ => none }
def passesPruneRow : OpenClaim := { program := "ytolehoibpnenlaa", sum := "fa76f560bed6b3c55f169ac85d44fb4d3e570a6cd1ba677042ce3bdfe7982811", func := "helix/helixlaw14.PassesPrune", spec := "passesPrune", unfollowed := true, recurses := true, apart := false }
def PassesPruneSaid : Prop := passesPruneRow.holds Try.pinned (OpenSpec.ofChange passesPruneSpec)

/-- ITS FALSE NEIGHBOUR: 'it returns false'. Refute it at one input. -/
def passesPruneWrong : ChangeSpec := { name := "passesPrune", fn := fun _ => fun
  | [d] => { results := [.lit (.bool false)], args := [d] }
  | _ => none }
def PassesPruneWrongFalsely : Prop := passesPruneRow.holds Try.pinned (OpenSpec.ofChange passesPruneWrong)

/-- 'helixlaw14.PassesDrop': WHATEVER THE INPUT: true; the input reads as it did. -/
def passesDropSpec : ChangeSpec := { name := "passesDrop", fn := fun _ => fun
  | [d] => { results := [.lit (.bool true)], args := [d] }
  | _ => none }
def passesDropRow : OpenClaim := { program := "ytolehoibpnenlaa", sum := "fa76f560bed6b3c55f169ac85d44fb4d3e570a6cd1ba677042ce3bdfe7982811", func := "helix/helixlaw14.PassesDrop", spec := "passesDrop", unfollowed := true, recurses := true, apart := false }
def PassesDropSaid : Prop := passesDropRow.holds Try.pinned (OpenSpec.ofChange passesDropSpec)

/-- ITS FALSE NEIGHBOUR: 'it returns false'. Refute it at one input. -/
def passesDropWrong : ChangeSpec := { name := "passesDrop", fn := fun _ => fun
  | [d] => { results := [.lit (.bool false)], args := [d] }
  | _ => none }
def PassesDropWrongFalsely : Prop := passesDropRow.holds Try.pinned (OpenSpec.ofChange passesDropWrong)

/-- 'helixlaw14.PassesClamp': WHATEVER THE INPUT: true; the input reads as it did. -/
def passesClampSpec : ChangeSpec := { name := "passesClamp", fn := fun _ => fun
  | [d] => { results := [.lit (.bool true)], args := [d] }
  | _ => none }
def passesClampRow : OpenClaim := { program := "ytolehoibpnenlaa", sum := "fa76f560bed6b3c55f169ac85d44fb4d3e570a6cd1ba677042ce3bdfe7982811", func := "helix/helixlaw14.PassesClamp", spec := "passesClamp", unfollowed := true, recurses := true, apart := false }
def PassesClampSaid : Prop := passesClampRow.holds Try.pinned (OpenSpec.ofChange passesClampSpec)

/-- ITS FALSE NEIGHBOUR: 'it returns false'. Refute it at one input. -/
def passesClampWrong : ChangeSpec := { name := "passesClamp", fn := fun _ => fun
  | [d] => { results := [.lit (.bool false)], args := [d] }
  | _ => none }
def PassesClampWrongFalsely : Prop := passesClampRow.holds Try.pinned (OpenSpec.ofChange passesClampWrong)

/-- 'helixlaw14.PassesAll': WHATEVER THE INPUT: true; the input reads as it did. -/
def passesAllSpec : ChangeSpec := { name := "passesAll", fn := fun _ => fun
  | [d] => { results := [.lit (.bool true)], args := [d] }
  | _ => none }
def passesAllRow : OpenClaim := { program := "ytolehoibpnenlaa", sum := "fa76f560bed6b3c55f169ac85d44fb4d3e570a6cd1ba677042ce3bdfe7982811", func := "helix/helixlaw14.PassesAll", spec := "passesAll", unfollowed := true, recurses := true, apart := false }
def PassesAllSaid : Prop := passesAllRow.holds Try.pinned (OpenSpec.ofChange passesAllSpec)

/-- ITS FALSE NEIGHBOUR: 'it returns false'. Refute it at one input. -/
def passesAllWrong : ChangeSpec := { name := "passesAll", fn := fun _ => fun
  | [d] => { results := [.lit (.bool false)], args := [d] }
  | _ => none }
def PassesAllWrongFalsely : Prop := passesAllRow.holds Try.pinned (OpenSpec.ofChange passesAllWrong)

/- THE SECOND FORM. 'bulk': how many values and letters a reading holds, each counted each time it is reached (what is shared counts as often as it is met; a slice's spare places count too). A statement '..UptoSaid' is the law's where the arguments, and the package variables that the reading takes, are together of bulk at most 1048576: NARROWER than '..Said'. Prove '..Said' where nothing that the law and all that it calls make is longer than what came in: it says more and counts as full. Else prove '..UptoSaid'. A law counts once. -/
mutual
def uptoBulk {H : Type} : DataW H → Nat
  | .lit (.string bytes) => bytes.length + 1
  | .lit _ => 1
  | .nil => 1
  | .ptr d => uptoBulk d + 1
  | .slice elems spare => uptoBulkAll elems + uptoBulkAll spare + 1
  | .agg parts => uptoBulkAll parts + 1
  | .iface _ d => uptoBulk d + 1
  | .map entries => uptoBulkEntries entries + 1
  | .held _ => 1
def uptoBulkAll {H : Type} : List (DataW H) → Nat
  | [] => 0
  | d :: r => uptoBulk d + uptoBulkAll r
def uptoBulkEntries {H : Type} : List (Lit × DataW H) → Nat
  | [] => 0
  | x :: r => uptoBulkEntry x + uptoBulkEntries r
def uptoBulkEntry {H : Type} : Lit × DataW H → Nat
  | (.string bytes, d) => bytes.length + uptoBulk d + 1
  | (_, d) => uptoBulk d + 1
 end
def uptoSmall : (H : Type) → List (DataW H) → Bool := fun _ ds => decide (uptoBulkAll ds ≤ 1048576)
def OpenSpec.upto (s : _root_.Go.ChangeSpec) : _root_.Go.OpenSpec := { _root_.Go.OpenSpec.ofChange s with cond := some uptoSmall }

/-- 'helixlaw14.PassesFold', WHERE WHAT IT READS IS OF BULK AT MOST 1048576: true; the input reads as it did. -/
def passesFoldUptoRow : OpenClaim := { program := "ytolehoibpnenlaa", sum := "fa76f560bed6b3c55f169ac85d44fb4d3e570a6cd1ba677042ce3bdfe7982811", func := "helix/helixlaw14.PassesFold", spec := "passesFold", unfollowed := true, recurses := true, apart := false, narrowed := true }
def PassesFoldUptoSaid : Prop := passesFoldUptoRow.holds Try.pinned (OpenSpec.upto passesFoldSpec)

/-- 'helixlaw14.PassesPrune', WHERE WHAT IT READS IS OF BULK AT MOST 1048576: true; the input reads as it did. -/
def passesPruneUptoRow : OpenClaim := { program := "ytolehoibpnenlaa", sum := "fa76f560bed6b3c55f169ac85d44fb4d3e570a6cd1ba677042ce3bdfe7982811", func := "helix/helixlaw14.PassesPrune", spec := "passesPrune", unfollowed := true, recurses := true, apart := false, narrowed := true }
def PassesPruneUptoSaid : Prop := passesPruneUptoRow.holds Try.pinned (OpenSpec.upto passesPruneSpec)

/-- 'helixlaw14.PassesDrop', WHERE WHAT IT READS IS OF BULK AT MOST 1048576: true; the input reads as it did. -/
def passesDropUptoRow : OpenClaim := { program := "ytolehoibpnenlaa", sum := "fa76f560bed6b3c55f169ac85d44fb4d3e570a6cd1ba677042ce3bdfe7982811", func := "helix/helixlaw14.PassesDrop", spec := "passesDrop", unfollowed := true, recurses := true, apart := false, narrowed := true }
def PassesDropUptoSaid : Prop := passesDropUptoRow.holds Try.pinned (OpenSpec.upto passesDropSpec)

/-- 'helixlaw14.PassesClamp', WHERE WHAT IT READS IS OF BULK AT MOST 1048576: true; the input reads as it did. -/
def passesClampUptoRow : OpenClaim := { program := "ytolehoibpnenlaa", sum := "fa76f560bed6b3c55f169ac85d44fb4d3e570a6cd1ba677042ce3bdfe7982811", func := "helix/helixlaw14.PassesClamp", spec := "passesClamp", unfollowed := true, recurses := true, apart := false, narrowed := true }
def PassesClampUptoSaid : Prop := passesClampUptoRow.holds Try.pinned (OpenSpec.upto passesClampSpec)

/-- 'helixlaw14.PassesAll', WHERE WHAT IT READS IS OF BULK AT MOST 1048576: true; the input reads as it did. -/
def passesAllUptoRow : OpenClaim := { program := "ytolehoibpnenlaa", sum := "fa76f560bed6b3c55f169ac85d44fb4d3e570a6cd1ba677042ce3bdfe7982811", func := "helix/helixlaw14.PassesAll", spec := "passesAll", unfollowed := true, recurses := true, apart := false, narrowed := true }
def PassesAllUptoSaid : Prop := passesAllUptoRow.holds Try.pinned (OpenSpec.upto passesAllSpec)

end Rows
end Go.Proofs.Ytolehoibpnenlaa
