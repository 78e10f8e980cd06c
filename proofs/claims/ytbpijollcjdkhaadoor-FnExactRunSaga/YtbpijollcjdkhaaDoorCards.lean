/-
  DERIVED. GIVEN WITH THE SEED: THE CARDS: each row of YtbpijollcjdkhaaDoorRows.lean that lists a variable, with what it lists TIED to the program's text (the seventh form; the later family's looks); each row that meets fmt, with fmt's text TOLD by the authors' own Lean function (tested against real Go, not proved from fmt's source: count such statements apart). THE CARD IS WHAT COUNTS. Prove the row's statement (the work); the ties are given (YtbpijollcjdkhaaDoorTie.lean); close each card by the builder's one call (the guide's Derived/Test/ToyasCard.lean, 'card_holds'). Laid BY PROGRAM, IN A SANDBOX (cutbox-door.mjs). By AI agents, Wed Nov 11 2026. No macro, syntax, notation, axiom, sorry.
-/
import Derived.Test.YtbpijollcjdkhaaDoorRows
import GoSem.ClaimSeven
namespace Go.Proofs.YtbpijollcjdkhaaDoor
namespace Rows

/-- THE TIED CARD OF 'laws.FnExactRunSaga'. -/
def fnExactRunSagaCard : Claim7 := { stood := { row := fnExactRunSagaRow, standIns := [], harness := (true, "6a307f35ee7274690c0e1fb3397c987af660837046c3fbf86585e3009ff8c17b"), looks := false }, kinds := [], alts := [], laidByText := true, laidKinds := [.data, .pinned], laidTests := true, laidLooks := .later }
def FnExactRunSagaCardSaid : Prop := Claim7.holds Tryd.pinned (.plain (OpenSpec.ofChange fnExactRunSagaSpec)) fnExactRunSagaCard

/-- THE SECOND FORM's CARD OF 'laws.FnExactRunSaga'. -/
def fnExactRunSagaUptoCard : Claim7 := { stood := { row := fnExactRunSagaUptoRow, standIns := [], harness := (true, "6a307f35ee7274690c0e1fb3397c987af660837046c3fbf86585e3009ff8c17b"), looks := false }, kinds := [], alts := [], laidByText := true, laidKinds := [.data, .pinned], laidTests := true, laidLooks := .later }
def FnExactRunSagaUptoCardSaid : Prop := Claim7.holds Tryd.pinned (.plain (OpenSpec.upto fnExactRunSagaSpec)) fnExactRunSagaUptoCard
end Rows
end Go.Proofs.YtbpijollcjdkhaaDoor
