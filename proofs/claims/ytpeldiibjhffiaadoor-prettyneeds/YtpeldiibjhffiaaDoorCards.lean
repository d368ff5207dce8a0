/-
  DERIVED. GIVEN WITH THE SEED: THE CARDS: each row of YtpeldiibjhffiaaDoorRows.lean that lists a variable, with what it lists TIED to the program's text (the seventh form; the later family's looks); each row that meets fmt, with fmt's text TOLD by the authors' own Lean function (tested against real Go, not proved from fmt's source: count such statements apart). THE CARD IS WHAT COUNTS. Prove the row's statement (the work); the ties are given (YtpeldiibjhffiaaDoorTie.lean); close each card by the builder's one call (the guide's Derived/Test/ToyasCard.lean, 'card_holds'). Laid BY PROGRAM, IN A SANDBOX (cutbox-door.mjs). By AI agents, Wed Nov 11 2026. No macro, syntax, notation, axiom, sorry.
-/
import Derived.Test.YtpeldiibjhffiaaDoorRows
import GoSem.ClaimSeven
namespace Go.Proofs.YtpeldiibjhffiaaDoor
namespace Rows

/-- THE TIED CARD OF 'helixlaw08.PrettyPrints'. -/
def prettyPrintsCard : Claim7 := { stood := { row := prettyPrintsRow, standIns := [], harness := (true, "2cc4468302e316018ec97142d67c77dc637a12be2100efdb9e5087b4b51305a0"), looks := false }, kinds := [], alts := [], laidByText := true, laidKinds := [.data, .data, .data], laidTests := true, laidLooks := .later }
def PrettyPrintsCardSaid : Prop := Claim7.holds Tryd.pinned (.plain (OpenSpec.ofChange prettyPrintsSpec)) prettyPrintsCard

/-- THE TIED CARD OF 'helixlaw08.PrettyBack'. -/
def prettyBackCard : Claim7 := { stood := { row := prettyBackRow, standIns := [], harness := (true, "2cc4468302e316018ec97142d67c77dc637a12be2100efdb9e5087b4b51305a0"), looks := false }, kinds := [], alts := [], laidByText := true, laidKinds := [.data, .data, .data], laidTests := true, laidLooks := .later }
def PrettyBackCardSaid : Prop := Claim7.holds Tryd.pinned (.plain (OpenSpec.ofChange prettyBackSpec)) prettyBackCard

/-- THE TIED CARD OF 'helixlaw08.PrettySource'. -/
def prettySourceCard : Claim7 := { stood := { row := prettySourceRow, standIns := [], harness := (true, "2cc4468302e316018ec97142d67c77dc637a12be2100efdb9e5087b4b51305a0"), looks := false }, kinds := [], alts := [], laidByText := true, laidKinds := [.data, .data, .data], laidTests := true, laidLooks := .later }
def PrettySourceCardSaid : Prop := Claim7.holds Tryd.pinned (.plain (OpenSpec.ofChange prettySourceSpec)) prettySourceCard

/-- THE TIED CARD OF 'helixlaw08.PrettyKids'. -/
def prettyKidsCard : Claim7 := { stood := { row := prettyKidsRow, standIns := [], harness := (true, "2cc4468302e316018ec97142d67c77dc637a12be2100efdb9e5087b4b51305a0"), looks := false }, kinds := [], alts := [], laidByText := true, laidKinds := [.data, .data, .data], laidTests := true, laidLooks := .later }
def PrettyKidsCardSaid : Prop := Claim7.holds Tryd.pinned (.plain (OpenSpec.ofChange prettyKidsSpec)) prettyKidsCard

/-- THE TIED CARD OF 'helixlaw08.PrettyNeeds'. -/
def prettyNeedsCard : Claim7 := { stood := { row := prettyNeedsRow, standIns := [], harness := (true, "2cc4468302e316018ec97142d67c77dc637a12be2100efdb9e5087b4b51305a0"), looks := false }, kinds := [], alts := [], laidByText := true, laidKinds := [.data, .data, .data], laidTests := true, laidLooks := .later }
def PrettyNeedsCardSaid : Prop := Claim7.holds Tryd.pinned (.plain (OpenSpec.ofChange prettyNeedsSpec)) prettyNeedsCard

/-- THE SECOND FORM's CARD OF 'helixlaw08.PrettyPrints'. -/
def prettyPrintsUptoCard : Claim7 := { stood := { row := prettyPrintsUptoRow, standIns := [], harness := (true, "2cc4468302e316018ec97142d67c77dc637a12be2100efdb9e5087b4b51305a0"), looks := false }, kinds := [], alts := [], laidByText := true, laidKinds := [.data, .data, .data], laidTests := true, laidLooks := .later }
def PrettyPrintsUptoCardSaid : Prop := Claim7.holds Tryd.pinned (.plain (OpenSpec.upto prettyPrintsSpec)) prettyPrintsUptoCard

/-- THE SECOND FORM's CARD OF 'helixlaw08.PrettyBack'. -/
def prettyBackUptoCard : Claim7 := { stood := { row := prettyBackUptoRow, standIns := [], harness := (true, "2cc4468302e316018ec97142d67c77dc637a12be2100efdb9e5087b4b51305a0"), looks := false }, kinds := [], alts := [], laidByText := true, laidKinds := [.data, .data, .data], laidTests := true, laidLooks := .later }
def PrettyBackUptoCardSaid : Prop := Claim7.holds Tryd.pinned (.plain (OpenSpec.upto prettyBackSpec)) prettyBackUptoCard

/-- THE SECOND FORM's CARD OF 'helixlaw08.PrettySource'. -/
def prettySourceUptoCard : Claim7 := { stood := { row := prettySourceUptoRow, standIns := [], harness := (true, "2cc4468302e316018ec97142d67c77dc637a12be2100efdb9e5087b4b51305a0"), looks := false }, kinds := [], alts := [], laidByText := true, laidKinds := [.data, .data, .data], laidTests := true, laidLooks := .later }
def PrettySourceUptoCardSaid : Prop := Claim7.holds Tryd.pinned (.plain (OpenSpec.upto prettySourceSpec)) prettySourceUptoCard

/-- THE SECOND FORM's CARD OF 'helixlaw08.PrettyKids'. -/
def prettyKidsUptoCard : Claim7 := { stood := { row := prettyKidsUptoRow, standIns := [], harness := (true, "2cc4468302e316018ec97142d67c77dc637a12be2100efdb9e5087b4b51305a0"), looks := false }, kinds := [], alts := [], laidByText := true, laidKinds := [.data, .data, .data], laidTests := true, laidLooks := .later }
def PrettyKidsUptoCardSaid : Prop := Claim7.holds Tryd.pinned (.plain (OpenSpec.upto prettyKidsSpec)) prettyKidsUptoCard

/-- THE SECOND FORM's CARD OF 'helixlaw08.PrettyNeeds'. -/
def prettyNeedsUptoCard : Claim7 := { stood := { row := prettyNeedsUptoRow, standIns := [], harness := (true, "2cc4468302e316018ec97142d67c77dc637a12be2100efdb9e5087b4b51305a0"), looks := false }, kinds := [], alts := [], laidByText := true, laidKinds := [.data, .data, .data], laidTests := true, laidLooks := .later }
def PrettyNeedsUptoCardSaid : Prop := Claim7.holds Tryd.pinned (.plain (OpenSpec.upto prettyNeedsSpec)) prettyNeedsUptoCard
end Rows
end Go.Proofs.YtpeldiibjhffiaaDoor
