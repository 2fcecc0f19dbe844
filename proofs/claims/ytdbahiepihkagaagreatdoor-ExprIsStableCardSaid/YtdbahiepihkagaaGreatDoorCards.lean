/-
  DERIVED. GIVEN WITH THE SEED: THE CARDS: each row of YtdbahiepihkagaaGreatDoorRows.lean that lists a variable, with what it lists TIED to the program's text (the seventh form; the later family's looks); each row that meets fmt, with fmt's text TOLD by the authors' own Lean function (tested against real Go, not proved from fmt's source: count such statements apart). THE CARD IS WHAT COUNTS. Prove the row's statement (the work); the ties are given (YtdbahiepihkagaaGreatDoorTie.lean); close each card by the builder's one call (the guide's Derived/Test/ToyasCard.lean, 'card_holds'). Laid BY PROGRAM, IN A SANDBOX (cutbox-door.mjs). By AI agents, Wed Nov 11 2026. No macro, syntax, notation, axiom, sorry.
-/
import Derived.Test.YtdbahiepihkagaaGreatDoorRows
import GoSem.ClaimSeven
namespace Go.Proofs.YtdbahiepihkagaaGreatDoor
namespace Rows

/-- THE TIED CARD OF 'selfstablaw06.ExprParses'. -/
def exprParsesCard : Claim7 := { stood := { row := exprParsesRow, standIns := [], harness := (true, "c2e0068cf788f372658cfa058eb0c605161e8775f55b02634a9c507bb4eee71a"), looks := true }, kinds := [], alts := [], laidByText := true, laidKinds := [.data, .data, .data, .data], laidTests := true, laidLooks := .later }
def ExprParsesCardSaid : Prop := Claim7.holds Tryz.pinned (.plain (OpenSpec.ofChange exprParsesSpec)) exprParsesCard

/-- THE TIED CARD OF 'selfstablaw06.ExprFormats'. -/
def exprFormatsCard : Claim7 := { stood := { row := exprFormatsRow, standIns := [], harness := (true, "c2e0068cf788f372658cfa058eb0c605161e8775f55b02634a9c507bb4eee71a"), looks := true }, kinds := [], alts := [], laidByText := true, laidKinds := [.data, .data, .data, .data], laidTests := true, laidLooks := .later }
def ExprFormatsCardSaid : Prop := Claim7.holds Tryz.pinned (.plain (OpenSpec.ofChange exprFormatsSpec)) exprFormatsCard

/-- THE TIED CARD OF 'selfstablaw06.ExprReadsBack'. -/
def exprReadsBackCard : Claim7 := { stood := { row := exprReadsBackRow, standIns := [], harness := (true, "c2e0068cf788f372658cfa058eb0c605161e8775f55b02634a9c507bb4eee71a"), looks := true }, kinds := [], alts := [], laidByText := true, laidKinds := [.data, .data, .data, .data], laidTests := true, laidLooks := .later }
def ExprReadsBackCardSaid : Prop := Claim7.holds Tryz.pinned (.plain (OpenSpec.ofChange exprReadsBackSpec)) exprReadsBackCard

/-- THE TIED CARD OF 'selfstablaw06.ExprIgnoresBrackets'. -/
def exprIgnoresBracketsCard : Claim7 := { stood := { row := exprIgnoresBracketsRow, standIns := [], harness := (true, "c2e0068cf788f372658cfa058eb0c605161e8775f55b02634a9c507bb4eee71a"), looks := true }, kinds := [], alts := [], laidByText := true, laidKinds := [.data, .data, .data, .data], laidTests := true, laidLooks := .later }
def ExprIgnoresBracketsCardSaid : Prop := Claim7.holds Tryz.pinned (.plain (OpenSpec.ofChange exprIgnoresBracketsSpec)) exprIgnoresBracketsCard

/-- THE TIED CARD OF 'selfstablaw06.ExprBracketsEverything'. -/
def exprBracketsEverythingCard : Claim7 := { stood := { row := exprBracketsEverythingRow, standIns := [], harness := (true, "c2e0068cf788f372658cfa058eb0c605161e8775f55b02634a9c507bb4eee71a"), looks := true }, kinds := [], alts := [], laidByText := true, laidKinds := [.data, .data, .data, .data], laidTests := true, laidLooks := .later }
def ExprBracketsEverythingCardSaid : Prop := Claim7.holds Tryz.pinned (.plain (OpenSpec.ofChange exprBracketsEverythingSpec)) exprBracketsEverythingCard

/-- THE TIED CARD OF 'selfstablaw06.ExprIsStable'. -/
def exprIsStableCard : Claim7 := { stood := { row := exprIsStableRow, standIns := [], harness := (true, "c2e0068cf788f372658cfa058eb0c605161e8775f55b02634a9c507bb4eee71a"), looks := true }, kinds := [], alts := [], laidByText := true, laidKinds := [.data, .data, .data, .data], laidTests := true, laidLooks := .later }
def ExprIsStableCardSaid : Prop := Claim7.holds Tryz.pinned (.plain (OpenSpec.ofChange exprIsStableSpec)) exprIsStableCard

/-- THE TIED CARD OF 'selfstablaw08.ProgramFormats'. -/
def programFormatsCard : Claim7 := { stood := { row := programFormatsRow, standIns := [], harness := (true, "c2e0068cf788f372658cfa058eb0c605161e8775f55b02634a9c507bb4eee71a"), looks := true }, kinds := [], alts := [], laidByText := true, laidKinds := [.data, .data, .data, .data], laidTests := true, laidLooks := .later }
def ProgramFormatsCardSaid : Prop := Claim7.holds Tryz.pinned (.plain (OpenSpec.ofChange programFormatsSpec)) programFormatsCard

/-- THE TIED CARD OF 'selfstablaw08.ProgramReadsBack'. -/
def programReadsBackCard : Claim7 := { stood := { row := programReadsBackRow, standIns := [], harness := (true, "c2e0068cf788f372658cfa058eb0c605161e8775f55b02634a9c507bb4eee71a"), looks := true }, kinds := [], alts := [], laidByText := true, laidKinds := [.data, .data, .data, .data], laidTests := true, laidLooks := .later }
def ProgramReadsBackCardSaid : Prop := Claim7.holds Tryz.pinned (.plain (OpenSpec.ofChange programReadsBackSpec)) programReadsBackCard

/-- THE TIED CARD OF 'selfstablaw08.ProgramIgnoresBlanks'. -/
def programIgnoresBlanksCard : Claim7 := { stood := { row := programIgnoresBlanksRow, standIns := [], harness := (true, "c2e0068cf788f372658cfa058eb0c605161e8775f55b02634a9c507bb4eee71a"), looks := true }, kinds := [], alts := [], laidByText := true, laidKinds := [.data, .data, .data, .data], laidTests := true, laidLooks := .later }
def ProgramIgnoresBlanksCardSaid : Prop := Claim7.holds Tryz.pinned (.plain (OpenSpec.ofChange programIgnoresBlanksSpec)) programIgnoresBlanksCard

/-- THE TIED CARD OF 'selfstablaw08.ProgramGrowsByLines'. -/
def programGrowsByLinesCard : Claim7 := { stood := { row := programGrowsByLinesRow, standIns := [], harness := (true, "c2e0068cf788f372658cfa058eb0c605161e8775f55b02634a9c507bb4eee71a"), looks := true }, kinds := [], alts := [], laidByText := true, laidKinds := [.data, .data, .data, .data], laidTests := true, laidLooks := .later }
def ProgramGrowsByLinesCardSaid : Prop := Claim7.holds Tryz.pinned (.plain (OpenSpec.ofChange programGrowsByLinesSpec)) programGrowsByLinesCard

/-- THE TIED CARD OF 'selfstablaw08.ProgramTellsProgramsApart'. -/
def programTellsProgramsApartCard : Claim7 := { stood := { row := programTellsProgramsApartRow, standIns := [], harness := (true, "c2e0068cf788f372658cfa058eb0c605161e8775f55b02634a9c507bb4eee71a"), looks := true }, kinds := [], alts := [], laidByText := true, laidKinds := [.data, .data, .data, .data], laidTests := true, laidLooks := .later }
def ProgramTellsProgramsApartCardSaid : Prop := Claim7.holds Tryz.pinned (.plain (OpenSpec.ofChange programTellsProgramsApartSpec)) programTellsProgramsApartCard

/-- THE SECOND FORM's CARD OF 'selfstablaw06.ExprParses'. -/
def exprParsesUptoCard : Claim7 := { stood := { row := exprParsesUptoRow, standIns := [], harness := (true, "c2e0068cf788f372658cfa058eb0c605161e8775f55b02634a9c507bb4eee71a"), looks := true }, kinds := [], alts := [], laidByText := true, laidKinds := [.data, .data, .data, .data], laidTests := true, laidLooks := .later }
def ExprParsesUptoCardSaid : Prop := Claim7.holds Tryz.pinned (.plain (OpenSpec.upto exprParsesSpec)) exprParsesUptoCard

/-- THE SECOND FORM's CARD OF 'selfstablaw06.ExprFormats'. -/
def exprFormatsUptoCard : Claim7 := { stood := { row := exprFormatsUptoRow, standIns := [], harness := (true, "c2e0068cf788f372658cfa058eb0c605161e8775f55b02634a9c507bb4eee71a"), looks := true }, kinds := [], alts := [], laidByText := true, laidKinds := [.data, .data, .data, .data], laidTests := true, laidLooks := .later }
def ExprFormatsUptoCardSaid : Prop := Claim7.holds Tryz.pinned (.plain (OpenSpec.upto exprFormatsSpec)) exprFormatsUptoCard

/-- THE SECOND FORM's CARD OF 'selfstablaw06.ExprReadsBack'. -/
def exprReadsBackUptoCard : Claim7 := { stood := { row := exprReadsBackUptoRow, standIns := [], harness := (true, "c2e0068cf788f372658cfa058eb0c605161e8775f55b02634a9c507bb4eee71a"), looks := true }, kinds := [], alts := [], laidByText := true, laidKinds := [.data, .data, .data, .data], laidTests := true, laidLooks := .later }
def ExprReadsBackUptoCardSaid : Prop := Claim7.holds Tryz.pinned (.plain (OpenSpec.upto exprReadsBackSpec)) exprReadsBackUptoCard

/-- THE SECOND FORM's CARD OF 'selfstablaw06.ExprIgnoresBrackets'. -/
def exprIgnoresBracketsUptoCard : Claim7 := { stood := { row := exprIgnoresBracketsUptoRow, standIns := [], harness := (true, "c2e0068cf788f372658cfa058eb0c605161e8775f55b02634a9c507bb4eee71a"), looks := true }, kinds := [], alts := [], laidByText := true, laidKinds := [.data, .data, .data, .data], laidTests := true, laidLooks := .later }
def ExprIgnoresBracketsUptoCardSaid : Prop := Claim7.holds Tryz.pinned (.plain (OpenSpec.upto exprIgnoresBracketsSpec)) exprIgnoresBracketsUptoCard

/-- THE SECOND FORM's CARD OF 'selfstablaw06.ExprBracketsEverything'. -/
def exprBracketsEverythingUptoCard : Claim7 := { stood := { row := exprBracketsEverythingUptoRow, standIns := [], harness := (true, "c2e0068cf788f372658cfa058eb0c605161e8775f55b02634a9c507bb4eee71a"), looks := true }, kinds := [], alts := [], laidByText := true, laidKinds := [.data, .data, .data, .data], laidTests := true, laidLooks := .later }
def ExprBracketsEverythingUptoCardSaid : Prop := Claim7.holds Tryz.pinned (.plain (OpenSpec.upto exprBracketsEverythingSpec)) exprBracketsEverythingUptoCard

/-- THE SECOND FORM's CARD OF 'selfstablaw06.ExprIsStable'. -/
def exprIsStableUptoCard : Claim7 := { stood := { row := exprIsStableUptoRow, standIns := [], harness := (true, "c2e0068cf788f372658cfa058eb0c605161e8775f55b02634a9c507bb4eee71a"), looks := true }, kinds := [], alts := [], laidByText := true, laidKinds := [.data, .data, .data, .data], laidTests := true, laidLooks := .later }
def ExprIsStableUptoCardSaid : Prop := Claim7.holds Tryz.pinned (.plain (OpenSpec.upto exprIsStableSpec)) exprIsStableUptoCard

/-- THE SECOND FORM's CARD OF 'selfstablaw08.ProgramFormats'. -/
def programFormatsUptoCard : Claim7 := { stood := { row := programFormatsUptoRow, standIns := [], harness := (true, "c2e0068cf788f372658cfa058eb0c605161e8775f55b02634a9c507bb4eee71a"), looks := true }, kinds := [], alts := [], laidByText := true, laidKinds := [.data, .data, .data, .data], laidTests := true, laidLooks := .later }
def ProgramFormatsUptoCardSaid : Prop := Claim7.holds Tryz.pinned (.plain (OpenSpec.upto programFormatsSpec)) programFormatsUptoCard

/-- THE SECOND FORM's CARD OF 'selfstablaw08.ProgramReadsBack'. -/
def programReadsBackUptoCard : Claim7 := { stood := { row := programReadsBackUptoRow, standIns := [], harness := (true, "c2e0068cf788f372658cfa058eb0c605161e8775f55b02634a9c507bb4eee71a"), looks := true }, kinds := [], alts := [], laidByText := true, laidKinds := [.data, .data, .data, .data], laidTests := true, laidLooks := .later }
def ProgramReadsBackUptoCardSaid : Prop := Claim7.holds Tryz.pinned (.plain (OpenSpec.upto programReadsBackSpec)) programReadsBackUptoCard

/-- THE SECOND FORM's CARD OF 'selfstablaw08.ProgramIgnoresBlanks'. -/
def programIgnoresBlanksUptoCard : Claim7 := { stood := { row := programIgnoresBlanksUptoRow, standIns := [], harness := (true, "c2e0068cf788f372658cfa058eb0c605161e8775f55b02634a9c507bb4eee71a"), looks := true }, kinds := [], alts := [], laidByText := true, laidKinds := [.data, .data, .data, .data], laidTests := true, laidLooks := .later }
def ProgramIgnoresBlanksUptoCardSaid : Prop := Claim7.holds Tryz.pinned (.plain (OpenSpec.upto programIgnoresBlanksSpec)) programIgnoresBlanksUptoCard

/-- THE SECOND FORM's CARD OF 'selfstablaw08.ProgramGrowsByLines'. -/
def programGrowsByLinesUptoCard : Claim7 := { stood := { row := programGrowsByLinesUptoRow, standIns := [], harness := (true, "c2e0068cf788f372658cfa058eb0c605161e8775f55b02634a9c507bb4eee71a"), looks := true }, kinds := [], alts := [], laidByText := true, laidKinds := [.data, .data, .data, .data], laidTests := true, laidLooks := .later }
def ProgramGrowsByLinesUptoCardSaid : Prop := Claim7.holds Tryz.pinned (.plain (OpenSpec.upto programGrowsByLinesSpec)) programGrowsByLinesUptoCard

/-- THE SECOND FORM's CARD OF 'selfstablaw08.ProgramTellsProgramsApart'. -/
def programTellsProgramsApartUptoCard : Claim7 := { stood := { row := programTellsProgramsApartUptoRow, standIns := [], harness := (true, "c2e0068cf788f372658cfa058eb0c605161e8775f55b02634a9c507bb4eee71a"), looks := true }, kinds := [], alts := [], laidByText := true, laidKinds := [.data, .data, .data, .data], laidTests := true, laidLooks := .later }
def ProgramTellsProgramsApartUptoCardSaid : Prop := Claim7.holds Tryz.pinned (.plain (OpenSpec.upto programTellsProgramsApartSpec)) programTellsProgramsApartUptoCard
end Rows
end Go.Proofs.YtdbahiepihkagaaGreatDoor
