/-
  DERIVED. GIVEN WITH THE SEED: THE CARDS: each row of YtpeldiibjhffiaaGreatDoorRows.lean that lists a variable, with what it lists TIED to the program's text (the seventh form; the later family's looks); each row that meets fmt, with fmt's text TOLD by the authors' own Lean function (tested against real Go, not proved from fmt's source: count such statements apart). THE CARD IS WHAT COUNTS. Prove the row's statement (the work); the ties are given (YtpeldiibjhffiaaGreatDoorTie.lean); close each card by the builder's one call (the guide's Derived/Test/ToyasCard.lean, 'card_holds'). Laid BY PROGRAM, IN A SANDBOX (cutbox-door.mjs). By AI agents, Wed Nov 11 2026. No macro, syntax, notation, axiom, sorry.
-/
import Derived.Test.YtpeldiibjhffiaaGreatDoorRows
import GoSem.ClaimSeven
namespace Go.Proofs.YtpeldiibjhffiaaGreatDoor
namespace Rows

/-- THE TIED CARD OF 'helixlaw08.PrettyExprs'. -/
def prettyExprsCard : Claim7 := { stood := { row := prettyExprsRow, standIns := [], harness := (true, "cc618d951ef84616879144f5fd7a3488711b73e2ee9b27e38e47cdf4c138107f"), looks := false }, kinds := [], alts := [], laidByText := true, laidKinds := [.data, .data, .data], laidTests := true, laidLooks := .later }
def PrettyExprsCardSaid : Prop := Claim7.holds Tryz.pinned (.plain (OpenSpec.ofChange prettyExprsSpec)) prettyExprsCard

/-- THE SECOND FORM's CARD OF 'helixlaw08.PrettyExprs'. -/
def prettyExprsUptoCard : Claim7 := { stood := { row := prettyExprsUptoRow, standIns := [], harness := (true, "cc618d951ef84616879144f5fd7a3488711b73e2ee9b27e38e47cdf4c138107f"), looks := false }, kinds := [], alts := [], laidByText := true, laidKinds := [.data, .data, .data], laidTests := true, laidLooks := .later }
def PrettyExprsUptoCardSaid : Prop := Claim7.holds Tryz.pinned (.plain (OpenSpec.upto prettyExprsSpec)) prettyExprsUptoCard
end Rows
end Go.Proofs.YtpeldiibjhffiaaGreatDoor
