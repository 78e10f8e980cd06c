/-
  DERIVED. GIVEN WITH THE SEED: THE CARDS: each row of YtmgboljcdhegiaaDoorRows.lean that lists a variable, with what it lists TIED to the program's text (the seventh form; the later family's looks); each row that meets fmt, with fmt's text TOLD by the authors' own Lean function (tested against real Go, not proved from fmt's source: count such statements apart). THE CARD IS WHAT COUNTS. Prove the row's statement (the work); the ties are given (YtmgboljcdhegiaaDoorTie.lean); close each card by the builder's one call (the guide's Derived/Test/ToyasCard.lean, 'card_holds'). Laid BY PROGRAM, IN A SANDBOX (cutbox-door.mjs). By AI agents, Wed Nov 11 2026. No macro, syntax, notation, axiom, sorry.
-/
import Derived.Test.YtmgboljcdhegiaaDoorRows
import GoSem.ClaimSeven
namespace Go.Proofs.YtmgboljcdhegiaaDoor
namespace Rows

/-- THE TIED CARD OF 'laws.FnExactStoreOK'. -/
def fnExactStoreOKCard : Claim7 := { stood := { row := fnExactStoreOKRow, standIns := [], harness := (true, "777efb7a97cc77f754abeb7f834bda472129a38c822f26fc8472a24b2cc3ddea"), looks := false }, kinds := [], alts := [], laidByText := true, laidKinds := [.data, .pinned], laidTests := true, laidLooks := .later }
def FnExactStoreOKCardSaid : Prop := Claim7.holds Tryd.pinned (.plain (OpenSpec.ofChange fnExactStoreOKSpec)) fnExactStoreOKCard

/-- THE SECOND FORM's CARD OF 'laws.FnExactStoreOK'. -/
def fnExactStoreOKUptoCard : Claim7 := { stood := { row := fnExactStoreOKUptoRow, standIns := [], harness := (true, "777efb7a97cc77f754abeb7f834bda472129a38c822f26fc8472a24b2cc3ddea"), looks := false }, kinds := [], alts := [], laidByText := true, laidKinds := [.data, .pinned], laidTests := true, laidLooks := .later }
def FnExactStoreOKUptoCardSaid : Prop := Claim7.holds Tryd.pinned (.plain (OpenSpec.upto fnExactStoreOKSpec)) fnExactStoreOKUptoCard
end Rows
end Go.Proofs.YtmgboljcdhegiaaDoor
