/-
  DERIVED. GIVEN WITH THE SEED: THE CARDS: each row of YtcbabajfdihcdaaGreatDoorRows.lean that lists a variable, with what it lists TIED to the program's text (the seventh form; the later family's looks); each row that meets fmt, with fmt's text TOLD by the authors' own Lean function (tested against real Go, not proved from fmt's source: count such statements apart). THE CARD IS WHAT COUNTS. Prove the row's statement (the work); the ties are given (YtcbabajfdihcdaaGreatDoorTie.lean); close each card by the builder's one call (the guide's Derived/Test/ToyasCard.lean, 'card_holds'). Laid BY PROGRAM, IN A SANDBOX (cutbox-door.mjs). By AI agents, Wed Nov 11 2026. No macro, syntax, notation, axiom, sorry.
-/
import Derived.Test.YtcbabajfdihcdaaGreatDoorRows
import GoSem.ClaimSeven
namespace Go.Proofs.YtcbabajfdihcdaaGreatDoor
namespace Rows

/-- THE TIED CARD OF 'laws.FnExactRollout'. -/
def fnExactRolloutCard : Claim7 := { stood := { row := fnExactRolloutRow, standIns := [], harness := (true, "1c423731e0c60ed55c3b685a896d5bcf5c9715aa68b971a2a2f327123fb4d6e2"), looks := false }, kinds := [], alts := [], laidByText := true, laidKinds := [.data, .pinned], laidTests := true, laidLooks := .later }
def FnExactRolloutCardSaid : Prop := Claim7.holds Tryz.pinned (.plain (OpenSpec.ofChange fnExactRolloutSpec)) fnExactRolloutCard

/-- THE SECOND FORM's CARD OF 'laws.FnExactRollout'. -/
def fnExactRolloutUptoCard : Claim7 := { stood := { row := fnExactRolloutUptoRow, standIns := [], harness := (true, "1c423731e0c60ed55c3b685a896d5bcf5c9715aa68b971a2a2f327123fb4d6e2"), looks := false }, kinds := [], alts := [], laidByText := true, laidKinds := [.data, .pinned], laidTests := true, laidLooks := .later }
def FnExactRolloutUptoCardSaid : Prop := Claim7.holds Tryz.pinned (.plain (OpenSpec.upto fnExactRolloutSpec)) fnExactRolloutUptoCard
end Rows
end Go.Proofs.YtcbabajfdihcdaaGreatDoor
