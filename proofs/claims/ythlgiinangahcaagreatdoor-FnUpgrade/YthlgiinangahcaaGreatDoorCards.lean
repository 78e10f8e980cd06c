/-
  DERIVED. GIVEN WITH THE SEED: THE CARDS: each row of YthlgiinangahcaaGreatDoorRows.lean that lists a variable, with what it lists TIED to the program's text (the seventh form; the later family's looks); each row that meets fmt, with fmt's text TOLD by the authors' own Lean function (tested against real Go, not proved from fmt's source: count such statements apart). THE CARD IS WHAT COUNTS. Prove the row's statement (the work); the ties are given (YthlgiinangahcaaGreatDoorTie.lean); close each card by the builder's one call (the guide's Derived/Test/ToyasCard.lean, 'card_holds'). Laid BY PROGRAM, IN A SANDBOX (cutbox-door.mjs). By AI agents, Wed Nov 11 2026. No macro, syntax, notation, axiom, sorry.
-/
import Derived.Test.YthlgiinangahcaaGreatDoorRows
import GoSem.ClaimSeven
namespace Go.Proofs.YthlgiinangahcaaGreatDoor
namespace Rows

/-- THE TIED CARD OF 'laws.FnUpgrade'. -/
def fnUpgradeCard : Claim7 := { stood := { row := fnUpgradeRow, standIns := [], harness := (true, "8c3742c21c7c3ab8cf29b55741e512d01fe4afd4894a1cafddf91c82444ec909"), looks := false }, kinds := [], alts := [], laidByText := true, laidKinds := [.data, .pinned], laidTests := true, laidLooks := .later }
def FnUpgradeCardSaid : Prop := Claim7.holds Tryz.pinned (.plain (OpenSpec.ofChange fnUpgradeSpec)) fnUpgradeCard

/-- THE SECOND FORM's CARD OF 'laws.FnUpgrade'. -/
def fnUpgradeUptoCard : Claim7 := { stood := { row := fnUpgradeUptoRow, standIns := [], harness := (true, "8c3742c21c7c3ab8cf29b55741e512d01fe4afd4894a1cafddf91c82444ec909"), looks := false }, kinds := [], alts := [], laidByText := true, laidKinds := [.data, .pinned], laidTests := true, laidLooks := .later }
def FnUpgradeUptoCardSaid : Prop := Claim7.holds Tryz.pinned (.plain (OpenSpec.upto fnUpgradeSpec)) fnUpgradeUptoCard
end Rows
end Go.Proofs.YthlgiinangahcaaGreatDoor
