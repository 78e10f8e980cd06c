/-
  DERIVED. GIVEN WITH THE SEED: THE CARDS: each row of YteokcdobapkkhaaGreatDoorRows.lean that lists a variable, with what it lists TIED to the program's text (the seventh form; the later family's looks); each row that meets fmt, with fmt's text TOLD by the authors' own Lean function (tested against real Go, not proved from fmt's source: count such statements apart). THE CARD IS WHAT COUNTS. Prove the row's statement (the work); the ties are given (YteokcdobapkkhaaGreatDoorTie.lean); close each card by the builder's one call (the guide's Derived/Test/ToyasCard.lean, 'card_holds'). Laid BY PROGRAM, IN A SANDBOX (cutbox-door.mjs). By AI agents, Wed Nov 11 2026. No macro, syntax, notation, axiom, sorry.
-/
import Derived.Test.YteokcdobapkkhaaGreatDoorRows
import GoSem.ClaimSeven
namespace Go.Proofs.YteokcdobapkkhaaGreatDoor
namespace Rows

/-- THE TIED CARD OF 'laws.FnChosen'. -/
def fnChosenCard : Claim7 := { stood := { row := fnChosenRow, standIns := [], harness := (true, "de9e890ab40eb542f385dc1717717b72c0a2d4b68addd484d8922b6901bc9cad"), looks := false }, kinds := [], alts := [], laidByText := true, laidKinds := [.data, .pinned], laidTests := true, laidLooks := .later }
def FnChosenCardSaid : Prop := Claim7.holds Tryz.pinned (.plain (OpenSpec.ofChange fnChosenSpec)) fnChosenCard

/-- THE SECOND FORM's CARD OF 'laws.FnChosen'. -/
def fnChosenUptoCard : Claim7 := { stood := { row := fnChosenUptoRow, standIns := [], harness := (true, "de9e890ab40eb542f385dc1717717b72c0a2d4b68addd484d8922b6901bc9cad"), looks := false }, kinds := [], alts := [], laidByText := true, laidKinds := [.data, .pinned], laidTests := true, laidLooks := .later }
def FnChosenUptoCardSaid : Prop := Claim7.holds Tryz.pinned (.plain (OpenSpec.upto fnChosenSpec)) fnChosenUptoCard
end Rows
end Go.Proofs.YteokcdobapkkhaaGreatDoor
