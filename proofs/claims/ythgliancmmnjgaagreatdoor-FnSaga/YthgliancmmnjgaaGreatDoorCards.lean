/-
  DERIVED. GIVEN WITH THE SEED: THE CARDS: each row of YthgliancmmnjgaaGreatDoorRows.lean that lists a variable, with what it lists TIED to the program's text (the seventh form; the later family's looks); each row that meets fmt, with fmt's text TOLD by the authors' own Lean function (tested against real Go, not proved from fmt's source: count such statements apart). THE CARD IS WHAT COUNTS. Prove the row's statement (the work); the ties are given (YthgliancmmnjgaaGreatDoorTie.lean); close each card by the builder's one call (the guide's Derived/Test/ToyasCard.lean, 'card_holds'). Laid BY PROGRAM, IN A SANDBOX (cutbox-door.mjs). By AI agents, Wed Nov 11 2026. No macro, syntax, notation, axiom, sorry.
-/
import Derived.Test.YthgliancmmnjgaaGreatDoorRows
import GoSem.ClaimSeven
namespace Go.Proofs.YthgliancmmnjgaaGreatDoor
namespace Rows

/-- THE TIED CARD OF 'laws.FnSaga'. -/
def fnSagaCard : Claim7 := { stood := { row := fnSagaRow, standIns := [], harness := (true, "8db87258b629d444d155e25dd9ed3ccd2d91afe98af78d81879265ffe54e245d"), looks := false }, kinds := [], alts := [], laidByText := true, laidKinds := [.data, .pinned], laidTests := true, laidLooks := .later }
def FnSagaCardSaid : Prop := Claim7.holds Tryz.pinned (.plain (OpenSpec.ofChange fnSagaSpec)) fnSagaCard

/-- THE SECOND FORM's CARD OF 'laws.FnSaga'. -/
def fnSagaUptoCard : Claim7 := { stood := { row := fnSagaUptoRow, standIns := [], harness := (true, "8db87258b629d444d155e25dd9ed3ccd2d91afe98af78d81879265ffe54e245d"), looks := false }, kinds := [], alts := [], laidByText := true, laidKinds := [.data, .pinned], laidTests := true, laidLooks := .later }
def FnSagaUptoCardSaid : Prop := Claim7.holds Tryz.pinned (.plain (OpenSpec.upto fnSagaSpec)) fnSagaUptoCard
end Rows
end Go.Proofs.YthgliancmmnjgaaGreatDoor
