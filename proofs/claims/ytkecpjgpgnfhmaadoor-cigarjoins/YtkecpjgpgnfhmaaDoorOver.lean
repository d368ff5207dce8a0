/-
  Rows beside one another; the table that the standard library reads, out of the statement's own condition.
-/
import Derived.Test.YtkecpjgpgnfhmaaDoorRows
import Derived.Test.YtkecpjgpgnfhmaaDoorPrint
import Derived.ProofKit
import Derived.OpenShut
import Derived.ShutString
import Derived.ChangeOld
import Derived.Below
import Derived.LaidMore
import Derived.Stop.Joined
import Derived.Stop.LaidErr
import Derived.MakeChecks
namespace Go.Proofs.YtkecpjgpgnfhmaaDoor
open Go.RowKit

/-- A row whose block lies below a bound, beside one whose block lies at it or above. -/
theorem owned_setBelow {w : World} {B : Nat} {e : TypeId} {size : Nat} {v : Value} {n : Nat} {xs : List Value} (h : w.ownsRow B e size v n xs) {g i : Nat} (hg : g < B) (u : Value) : (w.setCell ⟨g, i, none⟩ u).ownsRow B e size v n xs :=
  owned_of_block h fun k cur hk _ => Below.heap_setCell w _ u k (fun e' => by
    have e'' : k = g := e'
    have := (h.lt k hk).1
    omega)
theorem owned_grownBelow {w w' : World} {B : Nat} {e : TypeId} {size : Nat} {v : Value} {n : Nat} {xs : List Value} (h : w.ownsRow B e size v n xs) {row : Option Nat} (hr : ∀ k, row = some k → k < B) (hg : w.grownBy w' row) : w'.ownsRow B e size v n xs :=
  owned_of_block h fun k cur hk hc => hg.block k (lt_block hc) (fun e' => by
    have h1 := (h.lt k hk).1
    have h2 := hr k e'.symm
    omega)

/-- What the statements' conditions list. -/
abbrev theLaid : List (String × DataW Unit) := Rows.cigarMakesRow.laid
theorem own : ownKnob Tryd.prog.godebug = none := by kernel_rfl
theorem tab_of_laid {W : World} (h : laidMetH Tryd.prog theLaid W) : TabOk W := by
  rw [MakeChecks.laidMetH_plain _ _ _ (by kernel_rfl)] at h
  have h2 := laidMet.tail (laidMet.tail h)
  exact Lib.tabIs_of_head (g := 1) (t := 81) (e := 69) (n := 20) (by kernel_rfl) (by kernel_rfl) (by kernel_rfl) (by kernel_rfl) (by kernel_rfl) (by kernel_rfl) h2
theorem door_met (os : Os) (args : Array Value) : laidMetH Tryd.prog theLaid ((World.doorLaid Tryd.prog 400 os).forCall (fun _ _ => 0) ⟨#[], args, []⟩).memory :=
  laidMetH_of_parts3 (fuel := 8) (laidMet_of_run' 8 (by kernel_rfl) (by kernel_rfl)) (by kernel_rfl) (by kernel_rfl)
end Go.Proofs.YtkecpjgpgnfhmaaDoor
