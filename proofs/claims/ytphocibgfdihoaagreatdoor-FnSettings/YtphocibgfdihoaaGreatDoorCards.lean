/-
  DERIVED. GIVEN WITH THE SEED: THE CARDS: each row of YtphocibgfdihoaaGreatDoorRows.lean that lists a variable, with what it lists TIED to the program's text (the seventh form; the later family's looks); each row that meets fmt, with fmt's text TOLD by the authors' own Lean function (tested against real Go, not proved from fmt's source: count such statements apart). THE CARD IS WHAT COUNTS. Prove the row's statement (the work); the ties are given (YtphocibgfdihoaaGreatDoorTie.lean); close each card by the builder's one call (the guide's Derived/Test/ToyasCard.lean, 'card_holds'). Laid BY PROGRAM, IN A SANDBOX (cutbox-door.mjs). By AI agents, Wed Nov 11 2026. No macro, syntax, notation, axiom, sorry.
-/
import Derived.Test.YtphocibgfdihoaaGreatDoorRows
import GoSem.ClaimSeven
namespace Go.Proofs.YtphocibgfdihoaaGreatDoor
namespace Rows

/-- THE TIED CARD OF 'laws.FnSettings'. -/
def fnSettingsCard : Claim7 := { stood := { row := fnSettingsRow, standIns := [], harness := (true, "326a934d94844c0fa49215fa0b68147c0e40174e168750a9ebc91709c3554970"), looks := true }, kinds := [], alts := [], laidByText := true, laidKinds := [.data, .pinned], laidTests := true, laidLooks := .later }
def FnSettingsCardSaid : Prop := Claim7.holds Tryz.pinned (.plain (OpenSpec.ofChange fnSettingsSpec)) fnSettingsCard

/-- THE SECOND FORM's CARD OF 'laws.FnSettings'. -/
def fnSettingsUptoCard : Claim7 := { stood := { row := fnSettingsUptoRow, standIns := [], harness := (true, "326a934d94844c0fa49215fa0b68147c0e40174e168750a9ebc91709c3554970"), looks := true }, kinds := [], alts := [], laidByText := true, laidKinds := [.data, .pinned], laidTests := true, laidLooks := .later }
def FnSettingsUptoCardSaid : Prop := Claim7.holds Tryz.pinned (.plain (OpenSpec.upto fnSettingsSpec)) fnSettingsUptoCard
end Rows
end Go.Proofs.YtphocibgfdihoaaGreatDoor
