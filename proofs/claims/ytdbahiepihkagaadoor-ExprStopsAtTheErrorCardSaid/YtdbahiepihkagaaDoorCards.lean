/-
  DERIVED. GIVEN WITH THE SEED: THE CARDS: each row of YtdbahiepihkagaaDoorRows.lean that lists a variable, with what it lists TIED to the program's text (the seventh form; the later family's looks); each row that meets fmt, with fmt's text TOLD by the authors' own Lean function (tested against real Go, not proved from fmt's source: count such statements apart). THE CARD IS WHAT COUNTS. Prove the row's statement (the work); the ties are given (YtdbahiepihkagaaDoorTie.lean); close each card by the builder's one call (the guide's Derived/Test/ToyasCard.lean, 'card_holds'). Laid BY PROGRAM, IN A SANDBOX (cutbox-door.mjs). By AI agents, Wed Nov 11 2026. No macro, syntax, notation, axiom, sorry.
-/
import Derived.Test.YtdbahiepihkagaaDoorRows
import GoSem.ClaimSeven
namespace Go.Proofs.YtdbahiepihkagaaDoor
namespace Rows

/-- THE TIED CARD OF 'selfstablaw06.ExprStopsAtTheError'. -/
def exprStopsAtTheErrorCard : Claim7 := { stood := { row := exprStopsAtTheErrorRow, standIns := [], harness := (true, "a989ebc7542038cd830a5373ac98dd2f808684ef917ff124570975e4ae5b1c54"), looks := true }, kinds := [], alts := [], laidByText := true, laidKinds := [.data, .data, .data, .data], laidTests := true, laidLooks := .later }
def ExprStopsAtTheErrorCardSaid : Prop := Claim7.holds Tryd.pinned (.plain (OpenSpec.ofChange exprStopsAtTheErrorSpec)) exprStopsAtTheErrorCard

/-- THE SECOND FORM's CARD OF 'selfstablaw06.ExprStopsAtTheError'. -/
def exprStopsAtTheErrorUptoCard : Claim7 := { stood := { row := exprStopsAtTheErrorUptoRow, standIns := [], harness := (true, "a989ebc7542038cd830a5373ac98dd2f808684ef917ff124570975e4ae5b1c54"), looks := true }, kinds := [], alts := [], laidByText := true, laidKinds := [.data, .data, .data, .data], laidTests := true, laidLooks := .later }
def ExprStopsAtTheErrorUptoCardSaid : Prop := Claim7.holds Tryd.pinned (.plain (OpenSpec.upto exprStopsAtTheErrorSpec)) exprStopsAtTheErrorUptoCard
end Rows
end Go.Proofs.YtdbahiepihkagaaDoor
