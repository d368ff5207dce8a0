/-
  No cell of these rows narrows 'for every input' (looked for: loops, veiled, ifaces, maps, wideKeys, modest, calm, conditions, laid).
  DERIVED. THE GIVEN ROWS OF THIS SEAT. 6 by the template 'for every input the law returns true; each argument reads behind the call as it read before'; 0 by the template 'total and deterministic' (their statements: YtjpeoejielamiaaTotals.lean).
  GIVEN WITH THE SEED: the statements are not yours to turn. If you find one false, say at which input.
  Laid BY PROGRAM, IN A SANDBOX (cutbox-rows.mjs): the forced cells as the released guide's own fill.sh prints them over the translation ca26b34e70eb0d2d… (all of the seat's roots in one cut). By AI agents, Wed Nov 11 2026. No macro, syntax, notation, axiom, sorry.
-/
import Derived.Test.YtjpeoejielamiaaChecked
import GoSem.Claim
import GoSem.ClaimJoined
import GoSem.ClaimMapViews
import Derived.JoinedTies
import Derived.KernelRfl
namespace Go.Proofs.Ytjpeoejielamiaa
/- THE CELL 'sum', in the pinned program and in every row, IS THE sha256 OF THE DUMP (.gsa) THAT YtjpeoejielamiaaProg.lean LOADS. Nothing in Lean hashes anything: it is a label: what it is worth is what the hold of that sum in a sandbox is worth. -/
noncomputable def Try.pinned : Pinned := { name := "ytjpeoejielamiaa", sum := "ca26b34e70eb0d2d97272bf7983caf5edfc1e80f5ad7502f23277009cab9b0fb", checked := Try.checked }
namespace Rows
def none {H : Type} : Left H := { results := [], args := [] }

/-- 'helixlaw17.MachineRuns': WHATEVER THE INPUT: true; the input reads as it did. -/
def machineRunsSpec : ChangeSpec := { name := "machineRuns", fn := fun _ => fun
  | [d1, d2, d3] => { results := [.lit (.bool true)], args := [d1, d2, d3] }
  | _ => none }
def machineRunsRow : OpenClaim := { program := "ytjpeoejielamiaa", sum := "ca26b34e70eb0d2d97272bf7983caf5edfc1e80f5ad7502f23277009cab9b0fb", func := "helix/helixlaw17.MachineRuns", spec := "machineRuns", unfollowed := true, recurses := true, apart := false }
def MachineRunsSaid : Prop := machineRunsRow.holds Try.pinned (OpenSpec.ofChange machineRunsSpec)

/-- ITS FALSE NEIGHBOUR: 'it returns false'. Refute it at one input. -/
def machineRunsWrong : ChangeSpec := { name := "machineRuns", fn := fun _ => fun
  | [d1, d2, d3] => { results := [.lit (.bool false)], args := [d1, d2, d3] }
  | _ => none }
def MachineRunsWrongFalsely : Prop := machineRunsRow.holds Try.pinned (OpenSpec.ofChange machineRunsWrong)

/-- 'helixlaw17.MachineBegins': WHATEVER THE INPUT: true; the input reads as it did. -/
def machineBeginsSpec : ChangeSpec := { name := "machineBegins", fn := fun _ => fun
  | [d] => { results := [.lit (.bool true)], args := [d] }
  | _ => none }
def machineBeginsRow : OpenClaim := { program := "ytjpeoejielamiaa", sum := "ca26b34e70eb0d2d97272bf7983caf5edfc1e80f5ad7502f23277009cab9b0fb", func := "helix/helixlaw17.MachineBegins", spec := "machineBegins", unfollowed := true, recurses := true, apart := false }
def MachineBeginsSaid : Prop := machineBeginsRow.holds Try.pinned (OpenSpec.ofChange machineBeginsSpec)

/-- ITS FALSE NEIGHBOUR: 'it returns false'. Refute it at one input. -/
def machineBeginsWrong : ChangeSpec := { name := "machineBegins", fn := fun _ => fun
  | [d] => { results := [.lit (.bool false)], args := [d] }
  | _ => none }
def MachineBeginsWrongFalsely : Prop := machineBeginsRow.holds Try.pinned (OpenSpec.ofChange machineBeginsWrong)

/-- 'helixlaw17.MachineShifts': WHATEVER THE INPUT: true; the input reads as it did. -/
def machineShiftsSpec : ChangeSpec := { name := "machineShifts", fn := fun _ => fun
  | [d] => { results := [.lit (.bool true)], args := [d] }
  | _ => none }
def machineShiftsRow : OpenClaim := { program := "ytjpeoejielamiaa", sum := "ca26b34e70eb0d2d97272bf7983caf5edfc1e80f5ad7502f23277009cab9b0fb", func := "helix/helixlaw17.MachineShifts", spec := "machineShifts", unfollowed := true, recurses := true, apart := false }
def MachineShiftsSaid : Prop := machineShiftsRow.holds Try.pinned (OpenSpec.ofChange machineShiftsSpec)

/-- ITS FALSE NEIGHBOUR: 'it returns false'. Refute it at one input. -/
def machineShiftsWrong : ChangeSpec := { name := "machineShifts", fn := fun _ => fun
  | [d] => { results := [.lit (.bool false)], args := [d] }
  | _ => none }
def MachineShiftsWrongFalsely : Prop := machineShiftsRow.holds Try.pinned (OpenSpec.ofChange machineShiftsWrong)

/-- 'helixlaw17.MachineArrows': WHATEVER THE INPUT: true; the input reads as it did. -/
def machineArrowsSpec : ChangeSpec := { name := "machineArrows", fn := fun _ => fun
  | [d1, d2, d3] => { results := [.lit (.bool true)], args := [d1, d2, d3] }
  | _ => none }
def machineArrowsRow : OpenClaim := { program := "ytjpeoejielamiaa", sum := "ca26b34e70eb0d2d97272bf7983caf5edfc1e80f5ad7502f23277009cab9b0fb", func := "helix/helixlaw17.MachineArrows", spec := "machineArrows", unfollowed := true, recurses := true, apart := false }
def MachineArrowsSaid : Prop := machineArrowsRow.holds Try.pinned (OpenSpec.ofChange machineArrowsSpec)

/-- ITS FALSE NEIGHBOUR: 'it returns false'. Refute it at one input. -/
def machineArrowsWrong : ChangeSpec := { name := "machineArrows", fn := fun _ => fun
  | [d1, d2, d3] => { results := [.lit (.bool false)], args := [d1, d2, d3] }
  | _ => none }
def MachineArrowsWrongFalsely : Prop := machineArrowsRow.holds Try.pinned (OpenSpec.ofChange machineArrowsWrong)

/-- 'helixlaw17.MachineBounds': WHATEVER THE INPUT: true; the input reads as it did. -/
def machineBoundsSpec : ChangeSpec := { name := "machineBounds", fn := fun _ => fun
  | [d1, d2, d3] => { results := [.lit (.bool true)], args := [d1, d2, d3] }
  | _ => none }
def machineBoundsRow : OpenClaim := { program := "ytjpeoejielamiaa", sum := "ca26b34e70eb0d2d97272bf7983caf5edfc1e80f5ad7502f23277009cab9b0fb", func := "helix/helixlaw17.MachineBounds", spec := "machineBounds", unfollowed := true, recurses := true, apart := false }
def MachineBoundsSaid : Prop := machineBoundsRow.holds Try.pinned (OpenSpec.ofChange machineBoundsSpec)

/-- ITS FALSE NEIGHBOUR: 'it returns false'. Refute it at one input. -/
def machineBoundsWrong : ChangeSpec := { name := "machineBounds", fn := fun _ => fun
  | [d1, d2, d3] => { results := [.lit (.bool false)], args := [d1, d2, d3] }
  | _ => none }
def MachineBoundsWrongFalsely : Prop := machineBoundsRow.holds Try.pinned (OpenSpec.ofChange machineBoundsWrong)

/-- 'helixlaw17.MachineNarrow': WHATEVER THE INPUT: true; the input reads as it did. -/
def machineNarrowSpec : ChangeSpec := { name := "machineNarrow", fn := fun _ => fun
  | [d1, d2, d3] => { results := [.lit (.bool true)], args := [d1, d2, d3] }
  | _ => none }
def machineNarrowRow : OpenClaim := { program := "ytjpeoejielamiaa", sum := "ca26b34e70eb0d2d97272bf7983caf5edfc1e80f5ad7502f23277009cab9b0fb", func := "helix/helixlaw17.MachineNarrow", spec := "machineNarrow", unfollowed := true, recurses := true, apart := false }
def MachineNarrowSaid : Prop := machineNarrowRow.holds Try.pinned (OpenSpec.ofChange machineNarrowSpec)

/-- ITS FALSE NEIGHBOUR: 'it returns false'. Refute it at one input. -/
def machineNarrowWrong : ChangeSpec := { name := "machineNarrow", fn := fun _ => fun
  | [d1, d2, d3] => { results := [.lit (.bool false)], args := [d1, d2, d3] }
  | _ => none }
def MachineNarrowWrongFalsely : Prop := machineNarrowRow.holds Try.pinned (OpenSpec.ofChange machineNarrowWrong)

/- THE SECOND FORM. 'bulk': how many values and letters a reading holds, each counted each time it is reached (what is shared counts as often as it is met; a slice's spare places count too). A statement '..UptoSaid' is the law's where the arguments, and the package variables that the reading takes, are together of bulk at most 1048576: NARROWER than '..Said'. Prove '..Said' where nothing that the law and all that it calls make is longer than what came in: it says more and counts as full. Else prove '..UptoSaid'. A law counts once. -/
mutual
def uptoBulk {H : Type} : DataW H → Nat
  | .lit (.string bytes) => bytes.length + 1
  | .lit _ => 1
  | .nil => 1
  | .ptr d => uptoBulk d + 1
  | .slice elems spare => uptoBulkAll elems + uptoBulkAll spare + 1
  | .agg parts => uptoBulkAll parts + 1
  | .iface _ d => uptoBulk d + 1
  | .map entries => uptoBulkEntries entries + 1
  | .held _ => 1
def uptoBulkAll {H : Type} : List (DataW H) → Nat
  | [] => 0
  | d :: r => uptoBulk d + uptoBulkAll r
def uptoBulkEntries {H : Type} : List (Lit × DataW H) → Nat
  | [] => 0
  | x :: r => uptoBulkEntry x + uptoBulkEntries r
def uptoBulkEntry {H : Type} : Lit × DataW H → Nat
  | (.string bytes, d) => bytes.length + uptoBulk d + 1
  | (_, d) => uptoBulk d + 1
 end
def uptoSmall : (H : Type) → List (DataW H) → Bool := fun _ ds => decide (uptoBulkAll ds ≤ 1048576)
def OpenSpec.upto (s : _root_.Go.ChangeSpec) : _root_.Go.OpenSpec := { _root_.Go.OpenSpec.ofChange s with cond := some uptoSmall }

/-- 'helixlaw17.MachineRuns', WHERE WHAT IT READS IS OF BULK AT MOST 1048576: true; the input reads as it did. -/
def machineRunsUptoRow : OpenClaim := { program := "ytjpeoejielamiaa", sum := "ca26b34e70eb0d2d97272bf7983caf5edfc1e80f5ad7502f23277009cab9b0fb", func := "helix/helixlaw17.MachineRuns", spec := "machineRuns", unfollowed := true, recurses := true, apart := false, narrowed := true }
def MachineRunsUptoSaid : Prop := machineRunsUptoRow.holds Try.pinned (OpenSpec.upto machineRunsSpec)

/-- 'helixlaw17.MachineBegins', WHERE WHAT IT READS IS OF BULK AT MOST 1048576: true; the input reads as it did. -/
def machineBeginsUptoRow : OpenClaim := { program := "ytjpeoejielamiaa", sum := "ca26b34e70eb0d2d97272bf7983caf5edfc1e80f5ad7502f23277009cab9b0fb", func := "helix/helixlaw17.MachineBegins", spec := "machineBegins", unfollowed := true, recurses := true, apart := false, narrowed := true }
def MachineBeginsUptoSaid : Prop := machineBeginsUptoRow.holds Try.pinned (OpenSpec.upto machineBeginsSpec)

/-- 'helixlaw17.MachineShifts', WHERE WHAT IT READS IS OF BULK AT MOST 1048576: true; the input reads as it did. -/
def machineShiftsUptoRow : OpenClaim := { program := "ytjpeoejielamiaa", sum := "ca26b34e70eb0d2d97272bf7983caf5edfc1e80f5ad7502f23277009cab9b0fb", func := "helix/helixlaw17.MachineShifts", spec := "machineShifts", unfollowed := true, recurses := true, apart := false, narrowed := true }
def MachineShiftsUptoSaid : Prop := machineShiftsUptoRow.holds Try.pinned (OpenSpec.upto machineShiftsSpec)

/-- 'helixlaw17.MachineArrows', WHERE WHAT IT READS IS OF BULK AT MOST 1048576: true; the input reads as it did. -/
def machineArrowsUptoRow : OpenClaim := { program := "ytjpeoejielamiaa", sum := "ca26b34e70eb0d2d97272bf7983caf5edfc1e80f5ad7502f23277009cab9b0fb", func := "helix/helixlaw17.MachineArrows", spec := "machineArrows", unfollowed := true, recurses := true, apart := false, narrowed := true }
def MachineArrowsUptoSaid : Prop := machineArrowsUptoRow.holds Try.pinned (OpenSpec.upto machineArrowsSpec)

/-- 'helixlaw17.MachineBounds', WHERE WHAT IT READS IS OF BULK AT MOST 1048576: true; the input reads as it did. -/
def machineBoundsUptoRow : OpenClaim := { program := "ytjpeoejielamiaa", sum := "ca26b34e70eb0d2d97272bf7983caf5edfc1e80f5ad7502f23277009cab9b0fb", func := "helix/helixlaw17.MachineBounds", spec := "machineBounds", unfollowed := true, recurses := true, apart := false, narrowed := true }
def MachineBoundsUptoSaid : Prop := machineBoundsUptoRow.holds Try.pinned (OpenSpec.upto machineBoundsSpec)

/-- 'helixlaw17.MachineNarrow', WHERE WHAT IT READS IS OF BULK AT MOST 1048576: true; the input reads as it did. -/
def machineNarrowUptoRow : OpenClaim := { program := "ytjpeoejielamiaa", sum := "ca26b34e70eb0d2d97272bf7983caf5edfc1e80f5ad7502f23277009cab9b0fb", func := "helix/helixlaw17.MachineNarrow", spec := "machineNarrow", unfollowed := true, recurses := true, apart := false, narrowed := true }
def MachineNarrowUptoSaid : Prop := machineNarrowUptoRow.holds Try.pinned (OpenSpec.upto machineNarrowSpec)

end Rows
end Go.Proofs.Ytjpeoejielamiaa
