/-
  DERIVED. GIVEN WITH THE SEED: THE CARDS: each row of YthgjdcomanabiaaGreatDoorRows.lean that lists a variable, with what it lists TIED to the program's text (the seventh form; the later family's looks); each row that meets fmt, with fmt's text TOLD by the authors' own Lean function (tested against real Go, not proved from fmt's source: count such statements apart). THE CARD IS WHAT COUNTS. Prove the row's statement (the work); the ties are given (YthgjdcomanabiaaGreatDoorTie.lean); close each card by the builder's one call (the guide's Derived/Test/ToyasCard.lean, 'card_holds'). Laid BY PROGRAM, IN A SANDBOX (cutbox-door.mjs). By AI agents, Wed Nov 11 2026. No macro, syntax, notation, axiom, sorry.
-/
import Derived.Test.YthgjdcomanabiaaGreatDoorRows
import GoSem.ClaimSeven
namespace Go.Proofs.YthgjdcomanabiaaGreatDoor
namespace Rows

/-- THE TIED CARD OF 'laws.FnExactWhy'. -/
def fnExactWhyCard : Claim7 := { stood := { row := fnExactWhyRow, standIns := [], harness := (true, "151ca9c377283926ada8fa6d5f73b8ae111604199974fec848dd8c85c5d921f0"), looks := false }, kinds := [], alts := [], laidByText := true, laidKinds := [.data, .pinned], laidTests := true, laidLooks := .later }
def FnExactWhyCardSaid : Prop := Claim7.holds Tryz.pinned (.plain (OpenSpec.ofChange fnExactWhySpec)) fnExactWhyCard

/-- THE TIED CARD OF 'laws.FnExactUpgrade'. -/
def fnExactUpgradeCard : Claim7 := { stood := { row := fnExactUpgradeRow, standIns := [], harness := (true, "151ca9c377283926ada8fa6d5f73b8ae111604199974fec848dd8c85c5d921f0"), looks := false }, kinds := [], alts := [], laidByText := true, laidKinds := [.data, .pinned], laidTests := true, laidLooks := .later }
def FnExactUpgradeCardSaid : Prop := Claim7.holds Tryz.pinned (.plain (OpenSpec.ofChange fnExactUpgradeSpec)) fnExactUpgradeCard

/-- THE TIED CARD OF 'laws.FnExactNewest'. -/
def fnExactNewestCard : Claim7 := { stood := { row := fnExactNewestRow, standIns := [], harness := (true, "151ca9c377283926ada8fa6d5f73b8ae111604199974fec848dd8c85c5d921f0"), looks := false }, kinds := [], alts := [], laidByText := true, laidKinds := [.data, .pinned], laidTests := true, laidLooks := .later }
def FnExactNewestCardSaid : Prop := Claim7.holds Tryz.pinned (.plain (OpenSpec.ofChange fnExactNewestSpec)) fnExactNewestCard

/-- THE SECOND FORM's CARD OF 'laws.FnExactWhy'. -/
def fnExactWhyUptoCard : Claim7 := { stood := { row := fnExactWhyUptoRow, standIns := [], harness := (true, "151ca9c377283926ada8fa6d5f73b8ae111604199974fec848dd8c85c5d921f0"), looks := false }, kinds := [], alts := [], laidByText := true, laidKinds := [.data, .pinned], laidTests := true, laidLooks := .later }
def FnExactWhyUptoCardSaid : Prop := Claim7.holds Tryz.pinned (.plain (OpenSpec.upto fnExactWhySpec)) fnExactWhyUptoCard

/-- THE SECOND FORM's CARD OF 'laws.FnExactUpgrade'. -/
def fnExactUpgradeUptoCard : Claim7 := { stood := { row := fnExactUpgradeUptoRow, standIns := [], harness := (true, "151ca9c377283926ada8fa6d5f73b8ae111604199974fec848dd8c85c5d921f0"), looks := false }, kinds := [], alts := [], laidByText := true, laidKinds := [.data, .pinned], laidTests := true, laidLooks := .later }
def FnExactUpgradeUptoCardSaid : Prop := Claim7.holds Tryz.pinned (.plain (OpenSpec.upto fnExactUpgradeSpec)) fnExactUpgradeUptoCard

/-- THE SECOND FORM's CARD OF 'laws.FnExactNewest'. -/
def fnExactNewestUptoCard : Claim7 := { stood := { row := fnExactNewestUptoRow, standIns := [], harness := (true, "151ca9c377283926ada8fa6d5f73b8ae111604199974fec848dd8c85c5d921f0"), looks := false }, kinds := [], alts := [], laidByText := true, laidKinds := [.data, .pinned], laidTests := true, laidLooks := .later }
def FnExactNewestUptoCardSaid : Prop := Claim7.holds Tryz.pinned (.plain (OpenSpec.upto fnExactNewestSpec)) fnExactNewestUptoCard
end Rows
end Go.Proofs.YthgjdcomanabiaaGreatDoor
