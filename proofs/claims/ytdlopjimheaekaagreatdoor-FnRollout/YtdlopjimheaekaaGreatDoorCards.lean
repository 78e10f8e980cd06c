/-
  DERIVED. GIVEN WITH THE SEED: THE CARDS: each row of YtdlopjimheaekaaGreatDoorRows.lean that lists a variable, with what it lists TIED to the program's text (the seventh form; the later family's looks); each row that meets fmt, with fmt's text TOLD by the authors' own Lean function (tested against real Go, not proved from fmt's source: count such statements apart). THE CARD IS WHAT COUNTS. Prove the row's statement (the work); the ties are given (YtdlopjimheaekaaGreatDoorTie.lean); close each card by the builder's one call (the guide's Derived/Test/ToyasCard.lean, 'card_holds'). Laid BY PROGRAM, IN A SANDBOX (cutbox-door.mjs). By AI agents, Wed Nov 11 2026. No macro, syntax, notation, axiom, sorry.
-/
import Derived.Test.YtdlopjimheaekaaGreatDoorRows
import GoSem.ClaimSeven
namespace Go.Proofs.YtdlopjimheaekaaGreatDoor
namespace Rows

/-- THE TIED CARD OF 'laws.FnRollout'. -/
def fnRolloutCard : Claim7 := { stood := { row := fnRolloutRow, standIns := [], harness := (true, "67c58c3b4a4d0478a94d3768fbf229ac82d2a7b9be3b7144e2a1fe77162a4b6e"), looks := false }, kinds := [], alts := [], laidByText := true, laidKinds := [.data, .pinned], laidTests := true, laidLooks := .later }
def FnRolloutCardSaid : Prop := Claim7.holds Tryz.pinned (.plain (OpenSpec.ofChange fnRolloutSpec)) fnRolloutCard

/-- THE SECOND FORM's CARD OF 'laws.FnRollout'. -/
def fnRolloutUptoCard : Claim7 := { stood := { row := fnRolloutUptoRow, standIns := [], harness := (true, "67c58c3b4a4d0478a94d3768fbf229ac82d2a7b9be3b7144e2a1fe77162a4b6e"), looks := false }, kinds := [], alts := [], laidByText := true, laidKinds := [.data, .pinned], laidTests := true, laidLooks := .later }
def FnRolloutUptoCardSaid : Prop := Claim7.holds Tryz.pinned (.plain (OpenSpec.upto fnRolloutSpec)) fnRolloutUptoCard
end Rows
end Go.Proofs.YtdlopjimheaekaaGreatDoor
