/-
  DERIVED. GIVEN WITH THE SEED: THE CARDS: each row of YtdhphipdpjhhbaaGreatDoorRows.lean that lists a variable, with what it lists TIED to the program's text (the seventh form; the later family's looks); each row that meets fmt, with fmt's text TOLD by the authors' own Lean function (tested against real Go, not proved from fmt's source: count such statements apart). THE CARD IS WHAT COUNTS. Prove the row's statement (the work); the ties are given (YtdhphipdpjhhbaaGreatDoorTie.lean); close each card by the builder's one call (the guide's Derived/Test/ToyasCard.lean, 'card_holds'). Laid BY PROGRAM, IN A SANDBOX (cutbox-door.mjs). By AI agents, Wed Nov 11 2026. No macro, syntax, notation, axiom, sorry.
-/
import Derived.Test.YtdhphipdpjhhbaaGreatDoorRows
import GoSem.ClaimSeven
namespace Go.Proofs.YtdhphipdpjhhbaaGreatDoor
namespace Rows

/-- THE TIED CARD OF 'helixlaw05.SamLines'. -/
def samLinesCard : Claim7 := { stood := { row := samLinesRow, standIns := [], harness := (true, "44014a3a3406a95d0517d64fe716a01d8289d71329db006f390f59bc1391b253"), looks := true }, kinds := [], alts := [], laidByText := true, laidKinds := [.data, .data, .data, .data, .sentinel, .sentinel, .pinned], laidTests := true, laidLooks := .later }
def SamLinesCardSaid : Prop := Claim7.holds Tryz.pinned (.plain (OpenSpec.ofChange samLinesSpec)) samLinesCard

/-- THE TIED CARD OF 'helixlaw05.SamRecords'. -/
def samRecordsCard : Claim7 := { stood := { row := samRecordsRow, standIns := [], harness := (true, "44014a3a3406a95d0517d64fe716a01d8289d71329db006f390f59bc1391b253"), looks := true }, kinds := [], alts := [], laidByText := true, laidKinds := [.data, .data, .data, .data, .sentinel, .sentinel, .pinned], laidTests := true, laidLooks := .later }
def SamRecordsCardSaid : Prop := Claim7.holds Tryz.pinned (.plain (OpenSpec.ofChange samRecordsSpec)) samRecordsCard

/-- THE TIED CARD OF 'helixlaw05.SamPrints'. -/
def samPrintsCard : Claim7 := { stood := { row := samPrintsRow, standIns := [], harness := (true, "44014a3a3406a95d0517d64fe716a01d8289d71329db006f390f59bc1391b253"), looks := true }, kinds := [], alts := [], laidByText := true, laidKinds := [.data, .data, .data, .data, .sentinel, .sentinel, .pinned], laidTests := true, laidLooks := .later }
def SamPrintsCardSaid : Prop := Claim7.holds Tryz.pinned (.plain (OpenSpec.ofChange samPrintsSpec)) samPrintsCard

/-- THE TIED CARD OF 'helixlaw05.SamParses'. -/
def samParsesCard : Claim7 := { stood := { row := samParsesRow, standIns := [], harness := (true, "44014a3a3406a95d0517d64fe716a01d8289d71329db006f390f59bc1391b253"), looks := true }, kinds := [], alts := [], laidByText := true, laidKinds := [.data, .data, .data, .data, .sentinel, .sentinel, .pinned], laidTests := true, laidLooks := .later }
def SamParsesCardSaid : Prop := Claim7.holds Tryz.pinned (.plain (OpenSpec.ofChange samParsesSpec)) samParsesCard

/-- THE TIED CARD OF 'helixlaw05.SamBack'. -/
def samBackCard : Claim7 := { stood := { row := samBackRow, standIns := [], harness := (true, "44014a3a3406a95d0517d64fe716a01d8289d71329db006f390f59bc1391b253"), looks := true }, kinds := [], alts := [], laidByText := true, laidKinds := [.data, .data, .data, .data, .sentinel, .sentinel, .pinned], laidTests := true, laidLooks := .later }
def SamBackCardSaid : Prop := Claim7.holds Tryz.pinned (.plain (OpenSpec.ofChange samBackSpec)) samBackCard

/-- THE TIED CARD OF 'helixlaw05.SamStrict'. -/
def samStrictCard : Claim7 := { stood := { row := samStrictRow, standIns := [], harness := (true, "44014a3a3406a95d0517d64fe716a01d8289d71329db006f390f59bc1391b253"), looks := true }, kinds := [], alts := [], laidByText := true, laidKinds := [.data, .data, .data, .data, .sentinel, .sentinel, .pinned], laidTests := true, laidLooks := .later }
def SamStrictCardSaid : Prop := Claim7.holds Tryz.pinned (.plain (OpenSpec.ofChange samStrictSpec)) samStrictCard

/-- THE SECOND FORM's CARD OF 'helixlaw05.SamLines'. -/
def samLinesUptoCard : Claim7 := { stood := { row := samLinesUptoRow, standIns := [], harness := (true, "44014a3a3406a95d0517d64fe716a01d8289d71329db006f390f59bc1391b253"), looks := true }, kinds := [], alts := [], laidByText := true, laidKinds := [.data, .data, .data, .data, .sentinel, .sentinel, .pinned], laidTests := true, laidLooks := .later }
def SamLinesUptoCardSaid : Prop := Claim7.holds Tryz.pinned (.plain (OpenSpec.upto samLinesSpec)) samLinesUptoCard

/-- THE SECOND FORM's CARD OF 'helixlaw05.SamRecords'. -/
def samRecordsUptoCard : Claim7 := { stood := { row := samRecordsUptoRow, standIns := [], harness := (true, "44014a3a3406a95d0517d64fe716a01d8289d71329db006f390f59bc1391b253"), looks := true }, kinds := [], alts := [], laidByText := true, laidKinds := [.data, .data, .data, .data, .sentinel, .sentinel, .pinned], laidTests := true, laidLooks := .later }
def SamRecordsUptoCardSaid : Prop := Claim7.holds Tryz.pinned (.plain (OpenSpec.upto samRecordsSpec)) samRecordsUptoCard

/-- THE SECOND FORM's CARD OF 'helixlaw05.SamPrints'. -/
def samPrintsUptoCard : Claim7 := { stood := { row := samPrintsUptoRow, standIns := [], harness := (true, "44014a3a3406a95d0517d64fe716a01d8289d71329db006f390f59bc1391b253"), looks := true }, kinds := [], alts := [], laidByText := true, laidKinds := [.data, .data, .data, .data, .sentinel, .sentinel, .pinned], laidTests := true, laidLooks := .later }
def SamPrintsUptoCardSaid : Prop := Claim7.holds Tryz.pinned (.plain (OpenSpec.upto samPrintsSpec)) samPrintsUptoCard

/-- THE SECOND FORM's CARD OF 'helixlaw05.SamParses'. -/
def samParsesUptoCard : Claim7 := { stood := { row := samParsesUptoRow, standIns := [], harness := (true, "44014a3a3406a95d0517d64fe716a01d8289d71329db006f390f59bc1391b253"), looks := true }, kinds := [], alts := [], laidByText := true, laidKinds := [.data, .data, .data, .data, .sentinel, .sentinel, .pinned], laidTests := true, laidLooks := .later }
def SamParsesUptoCardSaid : Prop := Claim7.holds Tryz.pinned (.plain (OpenSpec.upto samParsesSpec)) samParsesUptoCard

/-- THE SECOND FORM's CARD OF 'helixlaw05.SamBack'. -/
def samBackUptoCard : Claim7 := { stood := { row := samBackUptoRow, standIns := [], harness := (true, "44014a3a3406a95d0517d64fe716a01d8289d71329db006f390f59bc1391b253"), looks := true }, kinds := [], alts := [], laidByText := true, laidKinds := [.data, .data, .data, .data, .sentinel, .sentinel, .pinned], laidTests := true, laidLooks := .later }
def SamBackUptoCardSaid : Prop := Claim7.holds Tryz.pinned (.plain (OpenSpec.upto samBackSpec)) samBackUptoCard

/-- THE SECOND FORM's CARD OF 'helixlaw05.SamStrict'. -/
def samStrictUptoCard : Claim7 := { stood := { row := samStrictUptoRow, standIns := [], harness := (true, "44014a3a3406a95d0517d64fe716a01d8289d71329db006f390f59bc1391b253"), looks := true }, kinds := [], alts := [], laidByText := true, laidKinds := [.data, .data, .data, .data, .sentinel, .sentinel, .pinned], laidTests := true, laidLooks := .later }
def SamStrictUptoCardSaid : Prop := Claim7.holds Tryz.pinned (.plain (OpenSpec.upto samStrictSpec)) samStrictUptoCard
end Rows
end Go.Proofs.YtdhphipdpjhhbaaGreatDoor
