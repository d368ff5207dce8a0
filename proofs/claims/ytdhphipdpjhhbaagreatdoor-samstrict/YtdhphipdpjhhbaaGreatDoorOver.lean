/-
  What the standard library's variables hold, out of the statement's own condition; a world that meets it.
-/
import Derived.Test.YtdhphipdpjhhbaaGreatDoorRows
import Derived.Test.YtdhphipdpjhhbaaGreatDoorStd
import Derived.ProofKit
import Derived.OpenShut
import Derived.ShutString
import Derived.ChangeOld
import Derived.Below
import Derived.LaidMore
import Derived.Lay
import Derived.Shelf.Vars
import Derived.Stop.Joined
import Derived.Stop.LaidErr
import Derived.MakeChecks
import Derived.Deep.DeepHandedRow
namespace Go.Proofs.YtdhphipdpjhhbaaGreatDoor
open Go.RowKit

/-- A row whose block lies below a bound, beside one whose block lies at it or above. -/
theorem owned_setBelow {w : World} {B : Nat} {e : TypeId} {size : Nat} {v : Value} {n : Nat} {xs : List Value} (h : w.ownsRow B e size v n xs) {g i : Nat} (hg : g < B) (u : Value) : (w.setCell ⟨g, i, none⟩ u).ownsRow B e size v n xs :=
  owned_of_block h fun k cur hk _ => Below.heap_setCell w _ u k (fun e' => by
    have e'' : k = g := e'
    have := (h.lt k hk).1
    omega)
theorem owned_grownBelow {w w' : World} {B : Nat} {e : TypeId} {size : Nat} {v : Value} {n : Nat} {xs : List Value} (h : w.ownsRow B e size v n xs) {row : Option Nat} (hr : ∀ k, row = some k → k < B) (hg : w.grownBy w' row) : w'.ownsRow B e size v n xs :=
  owned_of_block h fun k cur hk hc => hg.block k (lt_block hc) (fun e' => by
    have h1 := (h.lt k hk).1
    have h2 := hr k e'.symm
    omega)

/-- What the statements' conditions list. -/
abbrev theLaid : List (String × DataW Unit) := Rows.samLinesRow.laid
theorem own : ownKnob Tryz.prog.godebug = none := by kernel_rfl
theorem star_name : "*" ++ "errors.errorString" = "*errors.errorString" := by decide
theorem row161 (u : TypeId) (h : Tryz.prog.typeName? 3 u = some "*errors.errorString") : u = 161 :=
  typeName_ptr_named (nm := "errors.errorString") (by rw [star_name]; kernel_rfl) (by kernel_rfl) (by decide) u (by rw [star_name]; exact h)
theorem cells163 : Tryz.prog.cellsOf 163 = 1 := by kernel_rfl
theorem cells9 : Tryz.prog.cellsOf 9 = 1 := by kernel_rfl
theorem gSyn : Tryz.prog.globalNamed "strconv.ErrSyntax" = some 1 := by kernel_rfl
theorem gRng : Tryz.prog.globalNamed "strconv.ErrRange" = some 2 := by kernel_rfl
theorem std_of_laid {W : World} (h : laidMetH Tryz.prog theLaid W) (hsh : W.ShapedOpen Tryz.prog) : Std W := by
  rw [MakeChecks.laidMetH_plain _ _ _ (by kernel_rfl)] at h
  have h2 := laidMet.tail (laidMet.tail h)
  have h4 := laidMet.tail (laidMet.tail h2)
  have h5 := laidMet.tail h4
  refine ⟨?_, ?_, ?_, ?_⟩
  · exact Lib.tabIs_of_head (g := 3) (t := 156) (e := 139) (n := 20) (by kernel_rfl) (by kernel_rfl) (by kernel_rfl) (by kernel_rfl) (by kernel_rfl) (by kernel_rfl) h2
  · exact cell_of_shapedOpen_int hsh (g := 0) (t := 3) (zero := #[.int .i64 0]) (by decide) (by kernel_rfl) rfl (by kernel_rfl) (by kernel_rfl) Tryz.underlying3
  · obtain ⟨a0, s0, hv0, -, -, -⟩ := laid_sentinel h5 gSyn (by kernel_rfl) Tryz.underlying97 row161 Tryz.underlying161 Tryz.underlying163 rfl rfl Tryz.underlying9 cells163 cells9
    exact ⟨_, by have h0 := World.var?_cell gSyn hv0 0; simpa using h0, .inr ⟨_, _, rfl⟩⟩
  · obtain ⟨a0, s0, hv0, -, -, -⟩ := laid_sentinel h4 gRng (by kernel_rfl) Tryz.underlying97 row161 Tryz.underlying161 Tryz.underlying163 rfl rfl Tryz.underlying9 cells163 cells9
    exact ⟨_, by have h0 := World.var?_cell gRng hv0 0; simpa using h0, .inr ⟨_, _, rfl⟩⟩
/-- A world that holds what is listed. -/
theorem laid_met (os : Os) (args : Array Value) : laidMetH Tryz.prog theLaid ((World.laidAll Tryz.prog os theLaid).forCall (fun _ _ => 0) ⟨#[], args, []⟩).memory := by
  rw [MakeChecks.laidMetH_plain _ _ _ (by kernel_rfl)]
  exact laidMet_laidAll _ (by kernel_rfl) (by kernel_rfl)
end Go.Proofs.YtdhphipdpjhhbaaGreatDoor
