/-
  NARROWER THAN 'FOR EVERY INPUT', by the rows' own cells (each row's printed sentence says how): FnExactWhy: laid · FnExactUpgrade: laid · FnExactNewest: laid.
  DERIVED. THE GIVEN ROWS OF THIS SEAT. 3 by the template 'for every input the law returns true; each argument reads behind the call as it read before'; 0 by the template 'total and deterministic' (their statements: YthgjdcomanabiaaGreatDoorTotals.lean).
  GIVEN WITH THE SEED: the statements are not yours to turn. If you find one false, say at which input.
  Laid BY PROGRAM, IN A SANDBOX (cutbox-rows.mjs): the forced cells as the released guide's own fill.sh prints them over the translation 62c428d76b6bac85… (all of the seat's roots in one cut). By AI agents, Wed Nov 11 2026. No macro, syntax, notation, axiom, sorry.
-/
import Derived.Test.YthgjdcomanabiaaGreatDoorChecked
import GoSem.PinnedTables
import GoSem.Claim
import GoSem.ClaimJoined
import GoSem.ClaimMapViews
import Derived.JoinedTies
import Derived.KernelRfl
namespace Go.Proofs.YthgjdcomanabiaaGreatDoor
/- THE CELL 'sum', in the pinned program and in every row, IS THE sha256 OF THE DUMP (.gsa) THAT YthgjdcomanabiaaGreatDoorProg.lean LOADS. Nothing in Lean hashes anything: it is a label: what it is worth is what the hold of that sum in a sandbox is worth. -/
noncomputable def Tryz.pinned : Pinned := { name := "ythgjdcomanabiaagreatdoor", sum := "62c428d76b6bac85135836cb37e11e03dda2058ecbe3382dce35e972dc07f47c", checked := Tryz.checked }
namespace Rows
def none {H : Type} : Left H := { results := [], args := [] }

/- WHAT THE LISTED PACKAGE-LEVEL VARIABLES READ AS WHEN THE CALL BEGINS. Each datum BY PROGRAM (the guide's laid-datum.mjs) off the statement by which the dump's own 'gosem.cut.vars' lays the variable. In a bare row this is a premise. The card (YthgjdcomanabiaaGreatDoorCards.lean) ties it to the program's text. -/
def laid_unicode_utf8_acceptRanges {H : Type} : DataW H := .agg [.agg [.lit (.int .u8 128), .lit (.int .u8 191)], .agg [.lit (.int .u8 160), .lit (.int .u8 191)], .agg [.lit (.int .u8 128), .lit (.int .u8 159)], .agg [.lit (.int .u8 144), .lit (.int .u8 191)], .agg [.lit (.int .u8 128), .lit (.int .u8 143)], .agg [.lit (.int .u8 0), .lit (.int .u8 0)], .agg [.lit (.int .u8 0), .lit (.int .u8 0)], .agg [.lit (.int .u8 0), .lit (.int .u8 0)], .agg [.lit (.int .u8 0), .lit (.int .u8 0)], .agg [.lit (.int .u8 0), .lit (.int .u8 0)], .agg [.lit (.int .u8 0), .lit (.int .u8 0)], .agg [.lit (.int .u8 0), .lit (.int .u8 0)], .agg [.lit (.int .u8 0), .lit (.int .u8 0)], .agg [.lit (.int .u8 0), .lit (.int .u8 0)], .agg [.lit (.int .u8 0), .lit (.int .u8 0)], .agg [.lit (.int .u8 0), .lit (.int .u8 0)]]
/-- One of Go's own tables, pinned by name: the form's constant. -/
def laid_unicode_utf8_first : DataW Unit := Go.Pinned.utf8First

/-- 'laws.FnExactWhy': WHATEVER THE INPUT: true; the input reads as it did. -/
def fnExactWhySpec : ChangeSpec := { name := "fnExactWhy", fn := fun _ => fun
  | [d1, d2, d3] => { results := [.lit (.bool true)], args := [d1, d2, d3] }
  | _ => none }
def fnExactWhyRow : OpenClaim := { program := "ythgjdcomanabiaagreatdoor", sum := "62c428d76b6bac85135836cb37e11e03dda2058ecbe3382dce35e972dc07f47c", func := "loop.example/g00045/laws.FnExactWhy", spec := "fnExactWhy", unfollowed := true, recurses := true, named := ["unicode/utf8.first", "unicode/utf8.acceptRanges"], plainKeys := false, apart := false, laid := [("unicode/utf8.acceptRanges", laid_unicode_utf8_acceptRanges), ("unicode/utf8.first", laid_unicode_utf8_first)] }
def FnExactWhySaid : Prop := fnExactWhyRow.holds Tryz.pinned (OpenSpec.ofChange fnExactWhySpec)

/-- ITS FALSE NEIGHBOUR: 'it returns false'. Refute it at one input. -/
def fnExactWhyWrong : ChangeSpec := { name := "fnExactWhy", fn := fun _ => fun
  | [d1, d2, d3] => { results := [.lit (.bool false)], args := [d1, d2, d3] }
  | _ => none }
def FnExactWhyWrongFalsely : Prop := fnExactWhyRow.holds Tryz.pinned (OpenSpec.ofChange fnExactWhyWrong)

/-- 'laws.FnExactUpgrade': WHATEVER THE INPUT: true; the input reads as it did. -/
def fnExactUpgradeSpec : ChangeSpec := { name := "fnExactUpgrade", fn := fun _ => fun
  | [d1, d2, d3, d4] => { results := [.lit (.bool true)], args := [d1, d2, d3, d4] }
  | _ => none }
def fnExactUpgradeRow : OpenClaim := { program := "ythgjdcomanabiaagreatdoor", sum := "62c428d76b6bac85135836cb37e11e03dda2058ecbe3382dce35e972dc07f47c", func := "loop.example/g00045/laws.FnExactUpgrade", spec := "fnExactUpgrade", unfollowed := true, recurses := true, named := ["unicode/utf8.first", "unicode/utf8.acceptRanges"], plainKeys := false, apart := false, laid := [("unicode/utf8.acceptRanges", laid_unicode_utf8_acceptRanges), ("unicode/utf8.first", laid_unicode_utf8_first)] }
def FnExactUpgradeSaid : Prop := fnExactUpgradeRow.holds Tryz.pinned (OpenSpec.ofChange fnExactUpgradeSpec)

/-- ITS FALSE NEIGHBOUR: 'it returns false'. Refute it at one input. -/
def fnExactUpgradeWrong : ChangeSpec := { name := "fnExactUpgrade", fn := fun _ => fun
  | [d1, d2, d3, d4] => { results := [.lit (.bool false)], args := [d1, d2, d3, d4] }
  | _ => none }
def FnExactUpgradeWrongFalsely : Prop := fnExactUpgradeRow.holds Tryz.pinned (OpenSpec.ofChange fnExactUpgradeWrong)

/-- 'laws.FnExactNewest': WHATEVER THE INPUT: true; the input reads as it did. -/
def fnExactNewestSpec : ChangeSpec := { name := "fnExactNewest", fn := fun _ => fun
  | [d1, d2] => { results := [.lit (.bool true)], args := [d1, d2] }
  | _ => none }
def fnExactNewestRow : OpenClaim := { program := "ythgjdcomanabiaagreatdoor", sum := "62c428d76b6bac85135836cb37e11e03dda2058ecbe3382dce35e972dc07f47c", func := "loop.example/g00045/laws.FnExactNewest", spec := "fnExactNewest", unfollowed := true, recurses := true, named := ["unicode/utf8.first", "unicode/utf8.acceptRanges"], plainKeys := false, apart := false, laid := [("unicode/utf8.acceptRanges", laid_unicode_utf8_acceptRanges), ("unicode/utf8.first", laid_unicode_utf8_first)] }
def FnExactNewestSaid : Prop := fnExactNewestRow.holds Tryz.pinned (OpenSpec.ofChange fnExactNewestSpec)

/-- ITS FALSE NEIGHBOUR: 'it returns false'. Refute it at one input. -/
def fnExactNewestWrong : ChangeSpec := { name := "fnExactNewest", fn := fun _ => fun
  | [d1, d2] => { results := [.lit (.bool false)], args := [d1, d2] }
  | _ => none }
def FnExactNewestWrongFalsely : Prop := fnExactNewestRow.holds Tryz.pinned (OpenSpec.ofChange fnExactNewestWrong)

/- THE SECOND FORM. 'bulk': how many values and letters a reading holds, each counted each time it is reached (what is shared counts as often as it is met; a slice's spare places count too). A statement '..UptoSaid' is the law's where the arguments, and the package variables that the reading takes, are together of bulk at most 1048576: NARROWER than '..Said'. Prove '..Said' where nothing that the law and all that it calls make is longer than what came in: it says more and counts as full. Else prove '..UptoSaid'. A law counts once. -/
mutual
def uptoBulk {H : Type} : DataW H → Nat
  | .lit (.string bytes) => bytes.length + 1
  | .lit _ => 1
  | .nil => 1
  | .ptr d => uptoBulk d + 1
  | .slice elems spare => uptoBulkAll elems + uptoBulkAll spare + 1
  | .agg parts => uptoBulkAll parts + 1
  | .iface _ d => uptoBulk d + 1
  | .map entries => uptoBulkEntries entries + 1
  | .held _ => 1
def uptoBulkAll {H : Type} : List (DataW H) → Nat
  | [] => 0
  | d :: r => uptoBulk d + uptoBulkAll r
def uptoBulkEntries {H : Type} : List (Lit × DataW H) → Nat
  | [] => 0
  | x :: r => uptoBulkEntry x + uptoBulkEntries r
def uptoBulkEntry {H : Type} : Lit × DataW H → Nat
  | (.string bytes, d) => bytes.length + uptoBulk d + 1
  | (_, d) => uptoBulk d + 1
 end
def uptoSmall : (H : Type) → List (DataW H) → Bool := fun _ ds => decide (uptoBulkAll ds ≤ 1048576)
def OpenSpec.upto (s : _root_.Go.ChangeSpec) : _root_.Go.OpenSpec := { _root_.Go.OpenSpec.ofChange s with cond := some uptoSmall }

/-- 'laws.FnExactWhy', WHERE WHAT IT READS IS OF BULK AT MOST 1048576: true; the input reads as it did. -/
def fnExactWhyUptoRow : OpenClaim := { program := "ythgjdcomanabiaagreatdoor", sum := "62c428d76b6bac85135836cb37e11e03dda2058ecbe3382dce35e972dc07f47c", func := "loop.example/g00045/laws.FnExactWhy", spec := "fnExactWhy", unfollowed := true, recurses := true, named := ["unicode/utf8.first", "unicode/utf8.acceptRanges"], plainKeys := false, apart := false, laid := [("unicode/utf8.acceptRanges", laid_unicode_utf8_acceptRanges), ("unicode/utf8.first", laid_unicode_utf8_first)], narrowed := true }
def FnExactWhyUptoSaid : Prop := fnExactWhyUptoRow.holds Tryz.pinned (OpenSpec.upto fnExactWhySpec)

/-- 'laws.FnExactUpgrade', WHERE WHAT IT READS IS OF BULK AT MOST 1048576: true; the input reads as it did. -/
def fnExactUpgradeUptoRow : OpenClaim := { program := "ythgjdcomanabiaagreatdoor", sum := "62c428d76b6bac85135836cb37e11e03dda2058ecbe3382dce35e972dc07f47c", func := "loop.example/g00045/laws.FnExactUpgrade", spec := "fnExactUpgrade", unfollowed := true, recurses := true, named := ["unicode/utf8.first", "unicode/utf8.acceptRanges"], plainKeys := false, apart := false, laid := [("unicode/utf8.acceptRanges", laid_unicode_utf8_acceptRanges), ("unicode/utf8.first", laid_unicode_utf8_first)], narrowed := true }
def FnExactUpgradeUptoSaid : Prop := fnExactUpgradeUptoRow.holds Tryz.pinned (OpenSpec.upto fnExactUpgradeSpec)

/-- 'laws.FnExactNewest', WHERE WHAT IT READS IS OF BULK AT MOST 1048576: true; the input reads as it did. -/
def fnExactNewestUptoRow : OpenClaim := { program := "ythgjdcomanabiaagreatdoor", sum := "62c428d76b6bac85135836cb37e11e03dda2058ecbe3382dce35e972dc07f47c", func := "loop.example/g00045/laws.FnExactNewest", spec := "fnExactNewest", unfollowed := true, recurses := true, named := ["unicode/utf8.first", "unicode/utf8.acceptRanges"], plainKeys := false, apart := false, laid := [("unicode/utf8.acceptRanges", laid_unicode_utf8_acceptRanges), ("unicode/utf8.first", laid_unicode_utf8_first)], narrowed := true }
def FnExactNewestUptoSaid : Prop := fnExactNewestUptoRow.holds Tryz.pinned (OpenSpec.upto fnExactNewestSpec)

end Rows
end Go.Proofs.YthgjdcomanabiaaGreatDoor
