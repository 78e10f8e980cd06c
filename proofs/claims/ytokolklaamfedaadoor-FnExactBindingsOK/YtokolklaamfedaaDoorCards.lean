/-
  DERIVED. GIVEN WITH THE SEED: THE CARDS: each row of YtokolklaamfedaaDoorRows.lean that lists a variable, with what it lists TIED to the program's text (the seventh form; the later family's looks); each row that meets fmt, with fmt's text TOLD by the authors' own Lean function (tested against real Go, not proved from fmt's source: count such statements apart). THE CARD IS WHAT COUNTS. Prove the row's statement (the work); the ties are given (YtokolklaamfedaaDoorTie.lean); close each card by the builder's one call (the guide's Derived/Test/ToyasCard.lean, 'card_holds'). Laid BY PROGRAM, IN A SANDBOX (cutbox-door.mjs). By AI agents, Wed Nov 11 2026. No macro, syntax, notation, axiom, sorry.
-/
import Derived.Test.YtokolklaamfedaaDoorRows
import GoSem.ClaimSeven
namespace Go.Proofs.YtokolklaamfedaaDoor
namespace Rows

/-- THE TIED CARD OF 'laws.FnExactBindingsOK'. -/
def fnExactBindingsOKCard : Claim7 := { stood := { row := fnExactBindingsOKRow, standIns := [], harness := (true, "42d46640dc2bb9bdd9dee88d040f815e7f0b8f5744d7971e93e2b9c67cd50271"), looks := false }, kinds := [], alts := [], laidByText := true, laidKinds := [.data, .pinned], laidTests := true, laidLooks := .later }
def FnExactBindingsOKCardSaid : Prop := Claim7.holds Tryd.pinned (.plain (OpenSpec.ofChange fnExactBindingsOKSpec)) fnExactBindingsOKCard

/-- THE SECOND FORM's CARD OF 'laws.FnExactBindingsOK'. -/
def fnExactBindingsOKUptoCard : Claim7 := { stood := { row := fnExactBindingsOKUptoRow, standIns := [], harness := (true, "42d46640dc2bb9bdd9dee88d040f815e7f0b8f5744d7971e93e2b9c67cd50271"), looks := false }, kinds := [], alts := [], laidByText := true, laidKinds := [.data, .pinned], laidTests := true, laidLooks := .later }
def FnExactBindingsOKUptoCardSaid : Prop := Claim7.holds Tryd.pinned (.plain (OpenSpec.upto fnExactBindingsOKSpec)) fnExactBindingsOKUptoCard
end Rows
end Go.Proofs.YtokolklaamfedaaDoor
