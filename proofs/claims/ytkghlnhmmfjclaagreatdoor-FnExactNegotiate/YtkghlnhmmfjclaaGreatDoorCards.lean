/-
  DERIVED. GIVEN WITH THE SEED: THE CARDS: each row of YtkghlnhmmfjclaaGreatDoorRows.lean that lists a variable, with what it lists TIED to the program's text (the seventh form; the later family's looks); each row that meets fmt, with fmt's text TOLD by the authors' own Lean function (tested against real Go, not proved from fmt's source: count such statements apart). THE CARD IS WHAT COUNTS. Prove the row's statement (the work); the ties are given (YtkghlnhmmfjclaaGreatDoorTie.lean); close each card by the builder's one call (the guide's Derived/Test/ToyasCard.lean, 'card_holds'). Laid BY PROGRAM, IN A SANDBOX (cutbox-door.mjs). By AI agents, Wed Nov 11 2026. No macro, syntax, notation, axiom, sorry.
-/
import Derived.Test.YtkghlnhmmfjclaaGreatDoorRows
import GoSem.ClaimSeven
namespace Go.Proofs.YtkghlnhmmfjclaaGreatDoor
namespace Rows

/-- THE TIED CARD OF 'laws.FnExactNegotiate'. -/
def fnExactNegotiateCard : Claim7 := { stood := { row := fnExactNegotiateRow, standIns := [], harness := (true, "4e45fdcf96237f3803c8620c70e4f213c697cd9e7aae1cd7c5df278880670ea7"), looks := false }, kinds := [], alts := [], laidByText := true, laidKinds := [.data, .pinned], laidTests := true, laidLooks := .later }
def FnExactNegotiateCardSaid : Prop := Claim7.holds Tryz.pinned (.plain (OpenSpec.ofChange fnExactNegotiateSpec)) fnExactNegotiateCard

/-- THE SECOND FORM's CARD OF 'laws.FnExactNegotiate'. -/
def fnExactNegotiateUptoCard : Claim7 := { stood := { row := fnExactNegotiateUptoRow, standIns := [], harness := (true, "4e45fdcf96237f3803c8620c70e4f213c697cd9e7aae1cd7c5df278880670ea7"), looks := false }, kinds := [], alts := [], laidByText := true, laidKinds := [.data, .pinned], laidTests := true, laidLooks := .later }
def FnExactNegotiateUptoCardSaid : Prop := Claim7.holds Tryz.pinned (.plain (OpenSpec.upto fnExactNegotiateSpec)) fnExactNegotiateUptoCard
end Rows
end Go.Proofs.YtkghlnhmmfjclaaGreatDoor
