/-
  DERIVED. GIVEN WITH THE SEED: THE CARDS: each row of YtkecpjgpgnfhmaaDoorRows.lean that lists a variable, with what it lists TIED to the program's text (the seventh form; the later family's looks); each row that meets fmt, with fmt's text TOLD by the authors' own Lean function (tested against real Go, not proved from fmt's source: count such statements apart). THE CARD IS WHAT COUNTS. Prove the row's statement (the work); the ties are given (YtkecpjgpgnfhmaaDoorTie.lean); close each card by the builder's one call (the guide's Derived/Test/ToyasCard.lean, 'card_holds'). Laid BY PROGRAM, IN A SANDBOX (cutbox-door.mjs). By AI agents, Wed Nov 11 2026. No macro, syntax, notation, axiom, sorry.
-/
import Derived.Test.YtkecpjgpgnfhmaaDoorRows
import GoSem.ClaimSeven
namespace Go.Proofs.YtkecpjgpgnfhmaaDoor
namespace Rows

/-- THE TIED CARD OF 'helixlaw04.CigarMakes'. -/
def cigarMakesCard : Claim7 := { stood := { row := cigarMakesRow, standIns := [], harness := (true, "27ffa17bcc795c925a63e409735585b54e98368bad0007acabe989891e486ae0"), looks := false }, kinds := [], alts := [], laidByText := true, laidKinds := [.data, .data, .data], laidTests := true, laidLooks := .later }
def CigarMakesCardSaid : Prop := Claim7.holds Tryd.pinned (.plain (OpenSpec.ofChange cigarMakesSpec)) cigarMakesCard

/-- THE TIED CARD OF 'helixlaw04.CigarTells'. -/
def cigarTellsCard : Claim7 := { stood := { row := cigarTellsRow, standIns := [], harness := (true, "27ffa17bcc795c925a63e409735585b54e98368bad0007acabe989891e486ae0"), looks := false }, kinds := [], alts := [], laidByText := true, laidKinds := [.data, .data, .data], laidTests := true, laidLooks := .later }
def CigarTellsCardSaid : Prop := Claim7.holds Tryd.pinned (.plain (OpenSpec.ofChange cigarTellsSpec)) cigarTellsCard

/-- THE TIED CARD OF 'helixlaw04.CigarReads'. -/
def cigarReadsCard : Claim7 := { stood := { row := cigarReadsRow, standIns := [], harness := (true, "27ffa17bcc795c925a63e409735585b54e98368bad0007acabe989891e486ae0"), looks := false }, kinds := [], alts := [], laidByText := true, laidKinds := [.data, .data, .data], laidTests := true, laidLooks := .later }
def CigarReadsCardSaid : Prop := Claim7.holds Tryd.pinned (.plain (OpenSpec.ofChange cigarReadsSpec)) cigarReadsCard

/-- THE TIED CARD OF 'helixlaw04.CigarBack'. -/
def cigarBackCard : Claim7 := { stood := { row := cigarBackRow, standIns := [], harness := (true, "27ffa17bcc795c925a63e409735585b54e98368bad0007acabe989891e486ae0"), looks := false }, kinds := [], alts := [], laidByText := true, laidKinds := [.data, .data, .data], laidTests := true, laidLooks := .later }
def CigarBackCardSaid : Prop := Claim7.holds Tryd.pinned (.plain (OpenSpec.ofChange cigarBackSpec)) cigarBackCard

/-- THE TIED CARD OF 'helixlaw04.CigarJoins'. -/
def cigarJoinsCard : Claim7 := { stood := { row := cigarJoinsRow, standIns := [], harness := (true, "27ffa17bcc795c925a63e409735585b54e98368bad0007acabe989891e486ae0"), looks := false }, kinds := [], alts := [], laidByText := true, laidKinds := [.data, .data, .data], laidTests := true, laidLooks := .later }
def CigarJoinsCardSaid : Prop := Claim7.holds Tryd.pinned (.plain (OpenSpec.ofChange cigarJoinsSpec)) cigarJoinsCard

/-- THE SECOND FORM's CARD OF 'helixlaw04.CigarMakes'. -/
def cigarMakesUptoCard : Claim7 := { stood := { row := cigarMakesUptoRow, standIns := [], harness := (true, "27ffa17bcc795c925a63e409735585b54e98368bad0007acabe989891e486ae0"), looks := false }, kinds := [], alts := [], laidByText := true, laidKinds := [.data, .data, .data], laidTests := true, laidLooks := .later }
def CigarMakesUptoCardSaid : Prop := Claim7.holds Tryd.pinned (.plain (OpenSpec.upto cigarMakesSpec)) cigarMakesUptoCard

/-- THE SECOND FORM's CARD OF 'helixlaw04.CigarTells'. -/
def cigarTellsUptoCard : Claim7 := { stood := { row := cigarTellsUptoRow, standIns := [], harness := (true, "27ffa17bcc795c925a63e409735585b54e98368bad0007acabe989891e486ae0"), looks := false }, kinds := [], alts := [], laidByText := true, laidKinds := [.data, .data, .data], laidTests := true, laidLooks := .later }
def CigarTellsUptoCardSaid : Prop := Claim7.holds Tryd.pinned (.plain (OpenSpec.upto cigarTellsSpec)) cigarTellsUptoCard

/-- THE SECOND FORM's CARD OF 'helixlaw04.CigarReads'. -/
def cigarReadsUptoCard : Claim7 := { stood := { row := cigarReadsUptoRow, standIns := [], harness := (true, "27ffa17bcc795c925a63e409735585b54e98368bad0007acabe989891e486ae0"), looks := false }, kinds := [], alts := [], laidByText := true, laidKinds := [.data, .data, .data], laidTests := true, laidLooks := .later }
def CigarReadsUptoCardSaid : Prop := Claim7.holds Tryd.pinned (.plain (OpenSpec.upto cigarReadsSpec)) cigarReadsUptoCard

/-- THE SECOND FORM's CARD OF 'helixlaw04.CigarBack'. -/
def cigarBackUptoCard : Claim7 := { stood := { row := cigarBackUptoRow, standIns := [], harness := (true, "27ffa17bcc795c925a63e409735585b54e98368bad0007acabe989891e486ae0"), looks := false }, kinds := [], alts := [], laidByText := true, laidKinds := [.data, .data, .data], laidTests := true, laidLooks := .later }
def CigarBackUptoCardSaid : Prop := Claim7.holds Tryd.pinned (.plain (OpenSpec.upto cigarBackSpec)) cigarBackUptoCard

/-- THE SECOND FORM's CARD OF 'helixlaw04.CigarJoins'. -/
def cigarJoinsUptoCard : Claim7 := { stood := { row := cigarJoinsUptoRow, standIns := [], harness := (true, "27ffa17bcc795c925a63e409735585b54e98368bad0007acabe989891e486ae0"), looks := false }, kinds := [], alts := [], laidByText := true, laidKinds := [.data, .data, .data], laidTests := true, laidLooks := .later }
def CigarJoinsUptoCardSaid : Prop := Claim7.holds Tryd.pinned (.plain (OpenSpec.upto cigarJoinsSpec)) cigarJoinsUptoCard
end Rows
end Go.Proofs.YtkecpjgpgnfhmaaDoor
