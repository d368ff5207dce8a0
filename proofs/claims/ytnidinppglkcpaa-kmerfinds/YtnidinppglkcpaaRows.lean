/-
  No cell of these rows narrows 'for every input' (looked for: loops, veiled, ifaces, maps, wideKeys, modest, calm, conditions, laid).
  DERIVED. THE GIVEN ROWS OF THIS SEAT. 4 by the template 'for every input the law returns true; each argument reads behind the call as it read before'; 0 by the template 'total and deterministic' (their statements: YtnidinppglkcpaaTotals.lean).
  GIVEN WITH THE SEED: the statements are not yours to turn. If you find one false, say at which input.
  Laid BY PROGRAM, IN A SANDBOX (cutbox-rows.mjs): the forced cells as the released guide's own fill.sh prints them over the translation 721a1cf386fb69c7… (all of the seat's roots in one cut). By AI agents, Wed Nov 11 2026. No macro, syntax, notation, axiom, sorry.
-/
import Derived.Test.YtnidinppglkcpaaChecked
import GoSem.Claim
import GoSem.ClaimJoined
import GoSem.ClaimMapViews
import Derived.JoinedTies
import Derived.KernelRfl
namespace Go.Proofs.Ytnidinppglkcpaa
/- THE CELL 'sum', in the pinned program and in every row, IS THE sha256 OF THE DUMP (.gsa) THAT YtnidinppglkcpaaProg.lean LOADS. Nothing in Lean hashes anything: it is a label: what it is worth is what the hold of that sum in a sandbox is worth. -/
noncomputable def Try.pinned : Pinned := { name := "ytnidinppglkcpaa", sum := "721a1cf386fb69c7e0481585bc94e09790c36734aecf6c95fb5f66f8c632506a", checked := Try.checked }
namespace Rows
def none {H : Type} : Left H := { results := [], args := [] }

/-- 'helixlaw21.KmerFinds': WHATEVER THE INPUT: true; the input reads as it did. -/
def kmerFindsSpec : ChangeSpec := { name := "kmerFinds", fn := fun _ => fun
  | [d1, d2, d3] => { results := [.lit (.bool true)], args := [d1, d2, d3] }
  | _ => none }
def kmerFindsRow : OpenClaim := { program := "ytnidinppglkcpaa", sum := "721a1cf386fb69c7e0481585bc94e09790c36734aecf6c95fb5f66f8c632506a", func := "helix/helixlaw21.KmerFinds", spec := "kmerFinds", recurses := true, apart := false }
def KmerFindsSaid : Prop := kmerFindsRow.holds Try.pinned (OpenSpec.ofChange kmerFindsSpec)

/-- ITS FALSE NEIGHBOUR: 'it returns false'. Refute it at one input. -/
def kmerFindsWrong : ChangeSpec := { name := "kmerFinds", fn := fun _ => fun
  | [d1, d2, d3] => { results := [.lit (.bool false)], args := [d1, d2, d3] }
  | _ => none }
def KmerFindsWrongFalsely : Prop := kmerFindsRow.holds Try.pinned (OpenSpec.ofChange kmerFindsWrong)

/-- 'helixlaw21.KmerAll': WHATEVER THE INPUT: true; the input reads as it did. -/
def kmerAllSpec : ChangeSpec := { name := "kmerAll", fn := fun _ => fun
  | [d1, d2] => { results := [.lit (.bool true)], args := [d1, d2] }
  | _ => none }
def kmerAllRow : OpenClaim := { program := "ytnidinppglkcpaa", sum := "721a1cf386fb69c7e0481585bc94e09790c36734aecf6c95fb5f66f8c632506a", func := "helix/helixlaw21.KmerAll", spec := "kmerAll", recurses := true, apart := false }
def KmerAllSaid : Prop := kmerAllRow.holds Try.pinned (OpenSpec.ofChange kmerAllSpec)

/-- ITS FALSE NEIGHBOUR: 'it returns false'. Refute it at one input. -/
def kmerAllWrong : ChangeSpec := { name := "kmerAll", fn := fun _ => fun
  | [d1, d2] => { results := [.lit (.bool false)], args := [d1, d2] }
  | _ => none }
def KmerAllWrongFalsely : Prop := kmerAllRow.holds Try.pinned (OpenSpec.ofChange kmerAllWrong)

/-- 'helixlaw21.KmerMore': WHATEVER THE INPUT: true; the input reads as it did. -/
def kmerMoreSpec : ChangeSpec := { name := "kmerMore", fn := fun _ => fun
  | [d1, d2, d3] => { results := [.lit (.bool true)], args := [d1, d2, d3] }
  | _ => none }
def kmerMoreRow : OpenClaim := { program := "ytnidinppglkcpaa", sum := "721a1cf386fb69c7e0481585bc94e09790c36734aecf6c95fb5f66f8c632506a", func := "helix/helixlaw21.KmerMore", spec := "kmerMore", recurses := true, apart := false }
def KmerMoreSaid : Prop := kmerMoreRow.holds Try.pinned (OpenSpec.ofChange kmerMoreSpec)

/-- ITS FALSE NEIGHBOUR: 'it returns false'. Refute it at one input. -/
def kmerMoreWrong : ChangeSpec := { name := "kmerMore", fn := fun _ => fun
  | [d1, d2, d3] => { results := [.lit (.bool false)], args := [d1, d2, d3] }
  | _ => none }
def KmerMoreWrongFalsely : Prop := kmerMoreRow.holds Try.pinned (OpenSpec.ofChange kmerMoreWrong)

/-- 'helixlaw21.KmerShift': WHATEVER THE INPUT: true; the input reads as it did. -/
def kmerShiftSpec : ChangeSpec := { name := "kmerShift", fn := fun _ => fun
  | [d1, d2, d3] => { results := [.lit (.bool true)], args := [d1, d2, d3] }
  | _ => none }
def kmerShiftRow : OpenClaim := { program := "ytnidinppglkcpaa", sum := "721a1cf386fb69c7e0481585bc94e09790c36734aecf6c95fb5f66f8c632506a", func := "helix/helixlaw21.KmerShift", spec := "kmerShift", recurses := true, apart := false }
def KmerShiftSaid : Prop := kmerShiftRow.holds Try.pinned (OpenSpec.ofChange kmerShiftSpec)

/-- ITS FALSE NEIGHBOUR: 'it returns false'. Refute it at one input. -/
def kmerShiftWrong : ChangeSpec := { name := "kmerShift", fn := fun _ => fun
  | [d1, d2, d3] => { results := [.lit (.bool false)], args := [d1, d2, d3] }
  | _ => none }
def KmerShiftWrongFalsely : Prop := kmerShiftRow.holds Try.pinned (OpenSpec.ofChange kmerShiftWrong)

/- THE SECOND FORM. 'bulk': how many values and letters a reading holds, each counted each time it is reached (what is shared counts as often as it is met; a slice's spare places count too). A statement '..UptoSaid' is the law's where the arguments, and the package variables that the reading takes, are together of bulk at most 1048576: NARROWER than '..Said'. Prove '..Said' where nothing that the law and all that it calls make is longer than what came in: it says more and counts as full. Else prove '..UptoSaid'. A law counts once. -/
mutual
def uptoBulk {H : Type} : DataW H → Nat
  | .lit (.string bytes) => bytes.length + 1
  | .lit _ => 1
  | .nil => 1
  | .ptr d => uptoBulk d + 1
  | .slice elems spare => uptoBulkAll elems + uptoBulkAll spare + 1
  | .agg parts => uptoBulkAll parts + 1
  | .iface _ d => uptoBulk d + 1
  | .map entries => uptoBulkEntries entries + 1
  | .held _ => 1
def uptoBulkAll {H : Type} : List (DataW H) → Nat
  | [] => 0
  | d :: r => uptoBulk d + uptoBulkAll r
def uptoBulkEntries {H : Type} : List (Lit × DataW H) → Nat
  | [] => 0
  | x :: r => uptoBulkEntry x + uptoBulkEntries r
def uptoBulkEntry {H : Type} : Lit × DataW H → Nat
  | (.string bytes, d) => bytes.length + uptoBulk d + 1
  | (_, d) => uptoBulk d + 1
 end
def uptoSmall : (H : Type) → List (DataW H) → Bool := fun _ ds => decide (uptoBulkAll ds ≤ 1048576)
def OpenSpec.upto (s : _root_.Go.ChangeSpec) : _root_.Go.OpenSpec := { _root_.Go.OpenSpec.ofChange s with cond := some uptoSmall }

/-- 'helixlaw21.KmerFinds', WHERE WHAT IT READS IS OF BULK AT MOST 1048576: true; the input reads as it did. -/
def kmerFindsUptoRow : OpenClaim := { program := "ytnidinppglkcpaa", sum := "721a1cf386fb69c7e0481585bc94e09790c36734aecf6c95fb5f66f8c632506a", func := "helix/helixlaw21.KmerFinds", spec := "kmerFinds", recurses := true, apart := false, narrowed := true }
def KmerFindsUptoSaid : Prop := kmerFindsUptoRow.holds Try.pinned (OpenSpec.upto kmerFindsSpec)

/-- 'helixlaw21.KmerAll', WHERE WHAT IT READS IS OF BULK AT MOST 1048576: true; the input reads as it did. -/
def kmerAllUptoRow : OpenClaim := { program := "ytnidinppglkcpaa", sum := "721a1cf386fb69c7e0481585bc94e09790c36734aecf6c95fb5f66f8c632506a", func := "helix/helixlaw21.KmerAll", spec := "kmerAll", recurses := true, apart := false, narrowed := true }
def KmerAllUptoSaid : Prop := kmerAllUptoRow.holds Try.pinned (OpenSpec.upto kmerAllSpec)

/-- 'helixlaw21.KmerMore', WHERE WHAT IT READS IS OF BULK AT MOST 1048576: true; the input reads as it did. -/
def kmerMoreUptoRow : OpenClaim := { program := "ytnidinppglkcpaa", sum := "721a1cf386fb69c7e0481585bc94e09790c36734aecf6c95fb5f66f8c632506a", func := "helix/helixlaw21.KmerMore", spec := "kmerMore", recurses := true, apart := false, narrowed := true }
def KmerMoreUptoSaid : Prop := kmerMoreUptoRow.holds Try.pinned (OpenSpec.upto kmerMoreSpec)

/-- 'helixlaw21.KmerShift', WHERE WHAT IT READS IS OF BULK AT MOST 1048576: true; the input reads as it did. -/
def kmerShiftUptoRow : OpenClaim := { program := "ytnidinppglkcpaa", sum := "721a1cf386fb69c7e0481585bc94e09790c36734aecf6c95fb5f66f8c632506a", func := "helix/helixlaw21.KmerShift", spec := "kmerShift", recurses := true, apart := false, narrowed := true }
def KmerShiftUptoSaid : Prop := kmerShiftUptoRow.holds Try.pinned (OpenSpec.upto kmerShiftSpec)

end Rows
end Go.Proofs.Ytnidinppglkcpaa
