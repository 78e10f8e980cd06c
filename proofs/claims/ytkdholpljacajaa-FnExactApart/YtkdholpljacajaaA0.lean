/-
  Instructions as plain data; the small functions on them, both sides. No statement of the seat is proved here.
-/
import Derived.Test.YtkdholpljacajaaRows
import Derived.WalkKit
import Derived.ProofKit
import Derived.OpenShut
import Derived.WalkSpells
import Derived.Below
import Derived.BigQuiet
import Derived.BigRegion
import Derived.Deep.RegionLaw
import Derived.Deep.Cut
import Derived.Deep.WholeRow
import Derived.Deep.QuietTactic
namespace Go.Proofs.Ytkdholpljacajaa
open Go.ChangeShapes Go.WideShapes Go.ChangeAt Go.RowKit
set_option linter.unusedVariables false
set_option linter.unusedSimpArgs false

/-- An instruction. -/
structure Ins where
  op : Int
  cell : Int
  reg : Int
  ar : Int
  an : Int
  br : Int
  bn : Int
  ord : Int
  cnd : Int
  tgt : Int
def insC (x : Ins) : Array Value := #[.int .i64 x.op, .int .i64 x.cell, .int .i64 x.reg, .int .i64 x.ar, .int .i64 x.an, .int .i64 x.br, .int .i64 x.bn, .int .i64 x.ord, .int .i64 x.cnd, .int .i64 x.tgt]
def insV (x : Ins) : Value := .agg (insC x)
def stepB (x : Ins) : Bool := decide (1 ≤ x.op) && decide (x.op ≤ 7)
def seqB (x : Ins) : Bool := x.op == 7 || x.ord == 5
def readB (x : Ins) : Bool := x.op == 1 || x.op == 6
def fenceB (x : Ins) : Bool := x.op == 7
def apartB (a b : Ins) : Bool := !(!stepB a || !stepB b || (seqB a && seqB b)) && (a.cell != b.cell || fenceB a || fenceB b || (readB a && readB b))
/-- A small function of an instruction. -/
def SmallC (f : FuncId) (p : Ins → Bool) : Prop := ∀ (x : Ins) (w : World), Calls Try.prog f #[insV x] w fun e w' => e = .returned (.bool (p x)) ∧ w' = w.alloc (.cells (insC x) 29)

set_option maxHeartbeats 1000000 in
theorem specStep : SmallC 7 stepB := by
  intro x w
  unfold insV insC
  go_enter Try.func7, Try.ntmps7
  go_wp2
  all_goals
    go_ret
    refine ⟨congrArg (fun b => Ending.returned (Value.bool b)) ?_, by first | rfl | simp only [*]⟩
    rw [Bool.eq_iff_iff]
    first
      | (simp only [stepB, Bool.or_eq_true, Bool.and_eq_true, decide_eq_true_eq, beq_iff_eq, bne_iff_ne, beq_eq_false_iff_ne, Bool.false_eq_true, true_iff, false_iff, ne_eq] at *; first | omega | decide)
      | simp_all [stepB]
set_option maxHeartbeats 1000000 in
theorem specSeq : SmallC 8 seqB := by
  intro x w
  unfold insV insC
  go_enter Try.func8, Try.ntmps8
  go_wp2
  all_goals
    go_ret
    refine ⟨congrArg (fun b => Ending.returned (Value.bool b)) ?_, by first | rfl | simp only [*]⟩
    rw [Bool.eq_iff_iff]
    first
      | (simp only [seqB, Bool.or_eq_true, Bool.and_eq_true, decide_eq_true_eq, beq_iff_eq, bne_iff_ne, beq_eq_false_iff_ne, Bool.false_eq_true, true_iff, false_iff, ne_eq] at *; first | omega | decide)
      | simp_all [seqB]
set_option maxHeartbeats 1000000 in
theorem specReads : SmallC 9 readB := by
  intro x w
  unfold insV insC
  go_enter Try.func9, Try.ntmps9
  go_wp2
  all_goals
    go_ret
    refine ⟨congrArg (fun b => Ending.returned (Value.bool b)) ?_, by first | rfl | simp only [*]⟩
    rw [Bool.eq_iff_iff]
    first
      | (simp only [readB, Bool.or_eq_true, Bool.and_eq_true, decide_eq_true_eq, beq_iff_eq, bne_iff_ne, beq_eq_false_iff_ne, Bool.false_eq_true, true_iff, false_iff, ne_eq] at *; first | omega | decide)
      | simp_all [readB]
set_option maxHeartbeats 1000000 in
theorem implBetween (n lo hi : Int) (w : World) : Calls Try.prog 15 #[.int .i64 n, .int .i64 lo, .int .i64 hi] w fun e w' => e = .returned (.bool (decide (lo ≤ n) && decide (n ≤ hi))) ∧ w = w' := by
  go_enter Try.func15, Try.ntmps15
  go_wp2
  all_goals
    go_ret
    refine ⟨congrArg (fun b => Ending.returned (Value.bool b)) ?_, by first | rfl | simp only [*]⟩
    rw [Bool.eq_iff_iff]
    first
      | (simp only [Bool.or_eq_true, Bool.and_eq_true, decide_eq_true_eq, beq_iff_eq, bne_iff_ne, beq_eq_false_iff_ne, Bool.false_eq_true, true_iff, false_iff, ne_eq] at *; first | omega | decide)
      | simp_all []
set_option maxHeartbeats 1000000 in
theorem implOnMemory : SmallC 11 stepB := by
  intro x w
  unfold insV insC
  go_enter Try.func11, Try.ntmps11
  go_wp2_with (go_at_call 15; refine (implBetween _ _ _ _).mono ?_; rintro e w' ⟨rfl, rfl⟩)
  go_ret
  exact ⟨rfl, rfl⟩
set_option maxHeartbeats 1000000 in
theorem implSeq : SmallC 12 seqB := by
  intro x w
  unfold insV insC
  go_enter Try.func12, Try.ntmps12
  go_wp2
  all_goals
    go_ret
    refine ⟨congrArg (fun b => Ending.returned (Value.bool b)) ?_, by first | rfl | simp only [*]⟩
    rw [Bool.eq_iff_iff]
    first
      | (simp only [seqB, Bool.or_eq_true, Bool.and_eq_true, decide_eq_true_eq, beq_iff_eq, bne_iff_ne, beq_eq_false_iff_ne, Bool.false_eq_true, true_iff, false_iff, ne_eq] at *; first | omega | decide)
      | simp_all [seqB]
set_option maxHeartbeats 1000000 in
theorem implFence : SmallC 13 fenceB := by
  intro x w
  unfold insV insC
  go_enter Try.func13, Try.ntmps13
  go_wp2
  all_goals
    go_ret
    refine ⟨congrArg (fun b => Ending.returned (Value.bool b)) ?_, by first | rfl | simp only [*]⟩
    first
      | rfl
      | (rw [Bool.eq_iff_iff]; simp only [fenceB, Bool.or_eq_true, Bool.and_eq_true, decide_eq_true_eq, beq_iff_eq, bne_iff_ne, beq_eq_false_iff_ne, Bool.false_eq_true, true_iff, false_iff, ne_eq] at *)
set_option maxHeartbeats 1000000 in
theorem implReads : SmallC 14 readB := by
  intro x w
  unfold insV insC
  go_enter Try.func14, Try.ntmps14
  go_wp2
  all_goals
    go_ret
    refine ⟨congrArg (fun b => Ending.returned (Value.bool b)) ?_, by first | rfl | simp only [*]⟩
    rw [Bool.eq_iff_iff]
    first
      | (simp only [readB, Bool.or_eq_true, Bool.and_eq_true, decide_eq_true_eq, beq_iff_eq, bne_iff_ne, beq_eq_false_iff_ne, Bool.false_eq_true, true_iff, false_iff, ne_eq] at *; first | omega | decide)
      | simp_all [readB]
end Go.Proofs.Ytkdholpljacajaa
