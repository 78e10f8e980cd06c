/-
  DERIVED. GIVEN WITH THE SEED: THE CARDS: each row of YtoopdcbgnccmiaaGreatDoorRows.lean that lists a variable, with what it lists TIED to the program's text (the seventh form; the later family's looks); each row that meets fmt, with fmt's text TOLD by the authors' own Lean function (tested against real Go, not proved from fmt's source: count such statements apart). THE CARD IS WHAT COUNTS. Prove the row's statement (the work); the ties are given (YtoopdcbgnccmiaaGreatDoorTie.lean); close each card by the builder's one call (the guide's Derived/Test/ToyasCard.lean, 'card_holds'). Laid BY PROGRAM, IN A SANDBOX (cutbox-door.mjs). By AI agents, Wed Nov 11 2026. No macro, syntax, notation, axiom, sorry.
-/
import Derived.Test.YtoopdcbgnccmiaaGreatDoorRows
import GoSem.ClaimSeven
namespace Go.Proofs.YtoopdcbgnccmiaaGreatDoor
namespace Rows

/-- THE TIED CARD OF 'laws.FnExactValidate'. -/
def fnExactValidateCard : Claim7 := { stood := { row := fnExactValidateRow, standIns := [], harness := (true, "d76a7184687a39fd0410461c73d70e9b7d876cc284d0b2781527f8961d9b9979"), looks := true }, kinds := [], alts := [], laidByText := true, laidKinds := [.data, .pinned], laidTests := true, laidLooks := .later }
def FnExactValidateCardSaid : Prop := Claim7.holds Tryz.pinned (.plain (OpenSpec.ofChange fnExactValidateSpec)) fnExactValidateCard

/-- THE TIED CARD OF 'laws.FnExactLookup'. -/
def fnExactLookupCard : Claim7 := { stood := { row := fnExactLookupRow, standIns := [], harness := (true, "d76a7184687a39fd0410461c73d70e9b7d876cc284d0b2781527f8961d9b9979"), looks := true }, kinds := [], alts := [], laidByText := true, laidKinds := [.data, .pinned], laidTests := true, laidLooks := .later }
def FnExactLookupCardSaid : Prop := Claim7.holds Tryz.pinned (.plain (OpenSpec.ofChange fnExactLookupSpec)) fnExactLookupCard

/-- THE TIED CARD OF 'laws.FnExactWatch'. -/
def fnExactWatchCard : Claim7 := { stood := { row := fnExactWatchRow, standIns := [], harness := (true, "d76a7184687a39fd0410461c73d70e9b7d876cc284d0b2781527f8961d9b9979"), looks := true }, kinds := [], alts := [], laidByText := true, laidKinds := [.data, .pinned], laidTests := true, laidLooks := .later }
def FnExactWatchCardSaid : Prop := Claim7.holds Tryz.pinned (.plain (OpenSpec.ofChange fnExactWatchSpec)) fnExactWatchCard

/-- THE TIED CARD OF 'laws.FnExactRollout'. -/
def fnExactRolloutCard : Claim7 := { stood := { row := fnExactRolloutRow, standIns := [], harness := (true, "d76a7184687a39fd0410461c73d70e9b7d876cc284d0b2781527f8961d9b9979"), looks := true }, kinds := [], alts := [], laidByText := true, laidKinds := [.data, .pinned], laidTests := true, laidLooks := .later }
def FnExactRolloutCardSaid : Prop := Claim7.holds Tryz.pinned (.plain (OpenSpec.ofChange fnExactRolloutSpec)) fnExactRolloutCard

/-- THE SECOND FORM's CARD OF 'laws.FnExactValidate'. -/
def fnExactValidateUptoCard : Claim7 := { stood := { row := fnExactValidateUptoRow, standIns := [], harness := (true, "d76a7184687a39fd0410461c73d70e9b7d876cc284d0b2781527f8961d9b9979"), looks := true }, kinds := [], alts := [], laidByText := true, laidKinds := [.data, .pinned], laidTests := true, laidLooks := .later }
def FnExactValidateUptoCardSaid : Prop := Claim7.holds Tryz.pinned (.plain (OpenSpec.upto fnExactValidateSpec)) fnExactValidateUptoCard

/-- THE SECOND FORM's CARD OF 'laws.FnExactLookup'. -/
def fnExactLookupUptoCard : Claim7 := { stood := { row := fnExactLookupUptoRow, standIns := [], harness := (true, "d76a7184687a39fd0410461c73d70e9b7d876cc284d0b2781527f8961d9b9979"), looks := true }, kinds := [], alts := [], laidByText := true, laidKinds := [.data, .pinned], laidTests := true, laidLooks := .later }
def FnExactLookupUptoCardSaid : Prop := Claim7.holds Tryz.pinned (.plain (OpenSpec.upto fnExactLookupSpec)) fnExactLookupUptoCard

/-- THE SECOND FORM's CARD OF 'laws.FnExactWatch'. -/
def fnExactWatchUptoCard : Claim7 := { stood := { row := fnExactWatchUptoRow, standIns := [], harness := (true, "d76a7184687a39fd0410461c73d70e9b7d876cc284d0b2781527f8961d9b9979"), looks := true }, kinds := [], alts := [], laidByText := true, laidKinds := [.data, .pinned], laidTests := true, laidLooks := .later }
def FnExactWatchUptoCardSaid : Prop := Claim7.holds Tryz.pinned (.plain (OpenSpec.upto fnExactWatchSpec)) fnExactWatchUptoCard

/-- THE SECOND FORM's CARD OF 'laws.FnExactRollout'. -/
def fnExactRolloutUptoCard : Claim7 := { stood := { row := fnExactRolloutUptoRow, standIns := [], harness := (true, "d76a7184687a39fd0410461c73d70e9b7d876cc284d0b2781527f8961d9b9979"), looks := true }, kinds := [], alts := [], laidByText := true, laidKinds := [.data, .pinned], laidTests := true, laidLooks := .later }
def FnExactRolloutUptoCardSaid : Prop := Claim7.holds Tryz.pinned (.plain (OpenSpec.upto fnExactRolloutSpec)) fnExactRolloutUptoCard
end Rows
end Go.Proofs.YtoopdcbgnccmiaaGreatDoor
