/-
  The table that the standard library reads, out of the statements' own condition; trees and expressions that are handed in.
-/
import Derived.Test.YtpeldiibjhffiaaDoorRows
import Derived.WalkKit
import Derived.ProofKit
import Derived.OpenShut
import Derived.ShutString
import Derived.ChangeOld
import Derived.Below
import Derived.LaidMore
import Derived.Stop.Joined
import Derived.Stop.LaidErr
import Derived.MakeChecks
import Derived.Test.YtpeldiibjhffiaaDoorG32
import Derived.Test.YtpeldiibjhffiaaDoorOpenT
namespace Go.Proofs.YtpeldiibjhffiaaDoor
open Go.RowKit Go.Deep

/-- What the statements' conditions list. -/
abbrev theLaid : List (String × DataW Unit) := Rows.prettyPrintsRow.laid
theorem own : ownKnob Tryd.prog.godebug = none := by kernel_rfl
theorem laidOut : laidOutB Tryd.prog = true := by kernel_rfl
theorem tab_of_laid {W : World} (h : laidMetH Tryd.prog theLaid W) : TabOk W := by
  rw [MakeChecks.laidMetH_plain _ _ _ (by kernel_rfl)] at h
  have h2 := laidMet.tail (laidMet.tail h)
  exact Lib.tabIs_of_head (g := 0) (t := 121) (e := 114) (n := 20) (by kernel_rfl) (by kernel_rfl) (by kernel_rfl) (by kernel_rfl) (by kernel_rfl) (by kernel_rfl) h2
theorem door_met (os : Os) (args : Array Value) : laidMetH Tryd.prog theLaid ((World.doorLaid Tryd.prog 400 os).forCall (fun _ _ => 0) ⟨#[], args, []⟩).memory :=
  laidMetH_of_parts3 (fuel := 8) (laidMet_of_run' 8 (by kernel_rfl) (by kernel_rfl)) (by kernel_rfl) (by kernel_rfl)
theorem tree_in {H : Type} {enc : TypeId × Value → H} {W : World} {cs : Array Value} {d : DataW H} {p : List MemPlace} (hcs : cs.size = Tryd.prog.cellsOf 24) (h : DataW.Trod enc Tryd.prog W 0 (fun _ => true) true 24 (.agg cs) d p) (hw : ∀ n ∈ d.weights Tryd.prog 24, n ≤ reachBytes) :
    ∃ ao len cap L, cs = #[.slice ao len cap] ∧ TreeIn W L ao len := by
  obtain ⟨fuel, hf⟩ := h
  obtain ⟨ao, len, cap, L, hl, hin⟩ := open_tree (by rw [show (Value.agg cs).cells.toList = cs.toList from rfl, Array.length_toList, hcs]; kernel_rfl) hf hw
  exact ⟨ao, len, cap, L, Array.toList_inj.1 hl, hin⟩
theorem expr_in {H : Type} {enc : TypeId × Value → H} {W : World} {cs : Array Value} {d : DataW H} {p : List MemPlace} (hcs : cs.size = Tryd.prog.cellsOf 40) (h : DataW.Trod enc Tryd.prog W 0 (fun _ => true) true 40 (.agg cs) d p) (hw : ∀ n ∈ d.weights Tryd.prog 40, n ≤ reachBytes) :
    ∃ (e : Ex) (ka : Option Addr) (kn kc : Nat), cs = #[.int .i64 e.1.kind, .int .i64 e.1.num, .string (bs e.1.text), .slice ka kn kc, .int .i64 e.1.pl] ∧ ExAt false (fun _ => True) W e ka kn := by
  obtain ⟨fuel, hf⟩ := h
  obtain ⟨e, ka, kn, kc, hl, hok, hkn, _, hF⟩ := open_expr (by rw [show (Value.agg cs).cells.toList = cs.toList from rfl, Array.length_toList, hcs]; kernel_rfl) hf hw
  exact ⟨e, ka, kn, kc, Array.toList_inj.1 hl, hok, by unfold mxE at hkn; unfold maxLen; omega, hF⟩

end Go.Proofs.YtpeldiibjhffiaaDoor
