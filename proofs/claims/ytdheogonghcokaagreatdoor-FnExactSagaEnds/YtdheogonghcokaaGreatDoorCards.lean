/-
  DERIVED. GIVEN WITH THE SEED: THE CARDS: each row of YtdheogonghcokaaGreatDoorRows.lean that lists a variable, with what it lists TIED to the program's text (the seventh form; the later family's looks); each row that meets fmt, with fmt's text TOLD by the authors' own Lean function (tested against real Go, not proved from fmt's source: count such statements apart). THE CARD IS WHAT COUNTS. Prove the row's statement (the work); the ties are given (YtdheogonghcokaaGreatDoorTie.lean); close each card by the builder's one call (the guide's Derived/Test/ToyasCard.lean, 'card_holds'). Laid BY PROGRAM, IN A SANDBOX (cutbox-door.mjs). By AI agents, Wed Nov 11 2026. No macro, syntax, notation, axiom, sorry.
-/
import Derived.Test.YtdheogonghcokaaGreatDoorRows
import GoSem.ClaimSeven
namespace Go.Proofs.YtdheogonghcokaaGreatDoor
namespace Rows

/-- THE TIED CARD OF 'laws.FnExactSagaEnds'. -/
def fnExactSagaEndsCard : Claim7 := { stood := { row := fnExactSagaEndsRow, standIns := [], harness := (true, "7e7d297ddd78a2cebd711e4d4ce0ec18d675a1a91dd48fd98d25d3a9f7172b36"), looks := false }, kinds := [], alts := [], laidByText := true, laidKinds := [.data, .pinned], laidTests := true, laidLooks := .later }
def FnExactSagaEndsCardSaid : Prop := Claim7.holds Tryz.pinned (.plain (OpenSpec.ofChange fnExactSagaEndsSpec)) fnExactSagaEndsCard

/-- THE SECOND FORM's CARD OF 'laws.FnExactSagaEnds'. -/
def fnExactSagaEndsUptoCard : Claim7 := { stood := { row := fnExactSagaEndsUptoRow, standIns := [], harness := (true, "7e7d297ddd78a2cebd711e4d4ce0ec18d675a1a91dd48fd98d25d3a9f7172b36"), looks := false }, kinds := [], alts := [], laidByText := true, laidKinds := [.data, .pinned], laidTests := true, laidLooks := .later }
def FnExactSagaEndsUptoCardSaid : Prop := Claim7.holds Tryz.pinned (.plain (OpenSpec.upto fnExactSagaEndsSpec)) fnExactSagaEndsUptoCard
end Rows
end Go.Proofs.YtdheogonghcokaaGreatDoor
