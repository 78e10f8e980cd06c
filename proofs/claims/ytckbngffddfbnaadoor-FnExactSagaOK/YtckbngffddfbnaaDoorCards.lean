/-
  DERIVED. GIVEN WITH THE SEED: THE CARDS: each row of YtckbngffddfbnaaDoorRows.lean that lists a variable, with what it lists TIED to the program's text (the seventh form; the later family's looks); each row that meets fmt, with fmt's text TOLD by the authors' own Lean function (tested against real Go, not proved from fmt's source: count such statements apart). THE CARD IS WHAT COUNTS. Prove the row's statement (the work); the ties are given (YtckbngffddfbnaaDoorTie.lean); close each card by the builder's one call (the guide's Derived/Test/ToyasCard.lean, 'card_holds'). Laid BY PROGRAM, IN A SANDBOX (cutbox-door.mjs). By AI agents, Wed Nov 11 2026. No macro, syntax, notation, axiom, sorry.
-/
import Derived.Test.YtckbngffddfbnaaDoorRows
import GoSem.ClaimSeven
namespace Go.Proofs.YtckbngffddfbnaaDoor
namespace Rows

/-- THE TIED CARD OF 'laws.FnExactSagaOK'. -/
def fnExactSagaOKCard : Claim7 := { stood := { row := fnExactSagaOKRow, standIns := [], harness := (true, "ae9aec92841ad6132269bc4d4c4fdf9882a0102b36b8e654e114f826f8640161"), looks := false }, kinds := [], alts := [], laidByText := true, laidKinds := [.data, .pinned], laidTests := true, laidLooks := .later }
def FnExactSagaOKCardSaid : Prop := Claim7.holds Tryd.pinned (.plain (OpenSpec.ofChange fnExactSagaOKSpec)) fnExactSagaOKCard

/-- THE SECOND FORM's CARD OF 'laws.FnExactSagaOK'. -/
def fnExactSagaOKUptoCard : Claim7 := { stood := { row := fnExactSagaOKUptoRow, standIns := [], harness := (true, "ae9aec92841ad6132269bc4d4c4fdf9882a0102b36b8e654e114f826f8640161"), looks := false }, kinds := [], alts := [], laidByText := true, laidKinds := [.data, .pinned], laidTests := true, laidLooks := .later }
def FnExactSagaOKUptoCardSaid : Prop := Claim7.holds Tryd.pinned (.plain (OpenSpec.upto fnExactSagaOKSpec)) fnExactSagaOKUptoCard
end Rows
end Go.Proofs.YtckbngffddfbnaaDoor
