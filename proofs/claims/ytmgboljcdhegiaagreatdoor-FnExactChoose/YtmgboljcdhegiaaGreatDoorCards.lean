/-
  DERIVED. GIVEN WITH THE SEED: THE CARDS: each row of YtmgboljcdhegiaaGreatDoorRows.lean that lists a variable, with what it lists TIED to the program's text (the seventh form; the later family's looks); each row that meets fmt, with fmt's text TOLD by the authors' own Lean function (tested against real Go, not proved from fmt's source: count such statements apart). THE CARD IS WHAT COUNTS. Prove the row's statement (the work); the ties are given (YtmgboljcdhegiaaGreatDoorTie.lean); close each card by the builder's one call (the guide's Derived/Test/ToyasCard.lean, 'card_holds'). Laid BY PROGRAM, IN A SANDBOX (cutbox-door.mjs). By AI agents, Wed Nov 11 2026. No macro, syntax, notation, axiom, sorry.
-/
import Derived.Test.YtmgboljcdhegiaaGreatDoorRows
import GoSem.ClaimSeven
namespace Go.Proofs.YtmgboljcdhegiaaGreatDoor
namespace Rows

/-- THE TIED CARD OF 'laws.FnExactChoose'. -/
def fnExactChooseCard : Claim7 := { stood := { row := fnExactChooseRow, standIns := [], harness := (true, "0e893d154f4147c4a646a4717568bbb0d1e1feb965d9b2426dc296d8e3116a40"), looks := false }, kinds := [], alts := [], laidByText := true, laidKinds := [.data, .pinned], laidTests := true, laidLooks := .later }
def FnExactChooseCardSaid : Prop := Claim7.holds Tryz.pinned (.plain (OpenSpec.ofChange fnExactChooseSpec)) fnExactChooseCard

/-- THE SECOND FORM's CARD OF 'laws.FnExactChoose'. -/
def fnExactChooseUptoCard : Claim7 := { stood := { row := fnExactChooseUptoRow, standIns := [], harness := (true, "0e893d154f4147c4a646a4717568bbb0d1e1feb965d9b2426dc296d8e3116a40"), looks := false }, kinds := [], alts := [], laidByText := true, laidKinds := [.data, .pinned], laidTests := true, laidLooks := .later }
def FnExactChooseUptoCardSaid : Prop := Claim7.holds Tryz.pinned (.plain (OpenSpec.upto fnExactChooseSpec)) fnExactChooseUptoCard
end Rows
end Go.Proofs.YtmgboljcdhegiaaGreatDoor
