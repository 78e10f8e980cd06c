/-
  The contracts of the small tests on runes: spec.IsLetter, impl.IsLetter, spec.l01Digit, impl.isDigit, impl.isNameRune, impl.isBlank and impl.isWrong. No statement of the seat is proved here.
-/
import Derived.Test.YtbpijollcjdkhaaDoorRows
import Derived.WalkKit
import Derived.ProofKit
import Derived.OpenShut
import Derived.WalkSpells
namespace Go.Proofs.YtbpijollcjdkhaaDoor
open Go.ChangeShapes Go.WideShapes Go.ChangeAt Go.RowKit
set_option linter.unusedVariables false

def isLet (r : Int) : Bool := (decide (97 ≤ r) && decide (r ≤ 122)) || (decide (65 ≤ r) && decide (r ≤ 90)) || (r == 95) || (decide (192 ≤ r) && decide (r ≤ 591) && r != 215 && r != 247) || (decide (913 ≤ r) && decide (r ≤ 937) && r != 930) || (decide (945 ≤ r) && decide (r ≤ 969)) || (decide (1040 ≤ r) && decide (r ≤ 1103))

set_option maxHeartbeats 400000 in
theorem specLetter (r : Int) (w : World) :
    Calls Tryd.prog 75 #[.int .i64 r] w fun e w' => e = .returned (.bool (isLet r)) ∧ w = w' := by
  go_enter Tryd.func75, Tryd.ntmps75
  go_wp2
  all_goals
    go_ret
    refine ⟨congrArg (fun b => Ending.returned (Value.bool b)) ?_, rfl⟩
    rw [Bool.eq_iff_iff]
    simp only [isLet, Bool.or_eq_true, Bool.and_eq_true, decide_eq_true_eq, beq_iff_eq, bne_iff_ne, beq_eq_false_iff_ne, Bool.false_eq_true, true_iff, false_iff, ne_eq] at *
    first | omega | decide

set_option maxHeartbeats 400000 in
theorem implLetter (r : Int) (w : World) :
    Calls Tryd.prog 79 #[.int .i64 r] w fun e w' => e = .returned (.bool (isLet r)) ∧ w = w' := by
  go_enter Tryd.func79, Tryd.ntmps79
  go_wp2
  all_goals
    go_ret
    refine ⟨congrArg (fun b => Ending.returned (Value.bool b)) ?_, rfl⟩
    rw [Bool.eq_iff_iff]
    simp only [isLet, Bool.or_eq_true, Bool.and_eq_true, decide_eq_true_eq, beq_iff_eq, bne_iff_ne, beq_eq_false_iff_ne, Bool.false_eq_true, true_iff, false_iff, ne_eq] at *
    first | omega | decide


def isDig (r : Int) : Bool := decide (48 ≤ r) && decide (r ≤ 57)
def isNam (r : Int) : Bool := isLet r || isDig r

theorem specDigit (r : Int) (w : World) :
    Calls Tryd.prog 76 #[.int .i64 r] w fun e w' => e = .returned (.bool (isDig r)) ∧ w = w' := by
  go_enter Tryd.func76, Tryd.ntmps76
  go_wp2
  all_goals
    go_ret
    refine ⟨congrArg (fun b => Ending.returned (Value.bool b)) ?_, rfl⟩
    rw [Bool.eq_iff_iff]
    simp only [isDig, Bool.and_eq_true, decide_eq_true_eq, Bool.false_eq_true, false_iff] at *
    omega
theorem implDigit (r : Int) (w : World) :
    Calls Tryd.prog 94 #[.int .i64 r] w fun e w' => e = .returned (.bool (isDig r)) ∧ w = w' := by
  go_enter Tryd.func94, Tryd.ntmps94
  go_wp2
  all_goals
    go_ret
    refine ⟨congrArg (fun b => Ending.returned (Value.bool b)) ?_, rfl⟩
    rw [Bool.eq_iff_iff]
    simp only [isDig, Bool.and_eq_true, decide_eq_true_eq, Bool.false_eq_true, false_iff] at *
    omega
theorem implNam (r : Int) (w : World) :
    Calls Tryd.prog 81 #[.int .i64 r] w fun e w' => e = .returned (.bool (isNam r)) ∧ w = w' := by
  unfold isNam
  have c1 := implLetter r
  have c2 := implDigit r
  obtain ⟨L, hL⟩ : ∃ L, isLet r = L := ⟨_, rfl⟩
  obtain ⟨D, hD⟩ : ∃ D, isDig r = D := ⟨_, rfl⟩
  rw [hL] at c1 ⊢
  rw [hD] at c2 ⊢
  cases L
  · go_enter Tryd.func81, Tryd.ntmps81
    go_wp2_with (first | (go_at_call 79; go_must (refine (c1 _).mono ?_; rintro e w' ⟨rfl, rfl⟩)) | (go_at_call 94; go_must (refine (c2 _).mono ?_; rintro e w' ⟨rfl, rfl⟩)))
    go_ret
    exact ⟨rfl, rfl⟩
  · go_enter Tryd.func81, Tryd.ntmps81
    go_wp2_with (first | (go_at_call 79; go_must (refine (c1 _).mono ?_; rintro e w' ⟨rfl, rfl⟩)) | (go_at_call 94; go_must (refine (c2 _).mono ?_; rintro e w' ⟨rfl, rfl⟩)))
    go_ret
    exact ⟨rfl, rfl⟩
end Go.Proofs.YtbpijollcjdkhaaDoor
