/-
  What the program's hear does. No statement of the seat is proved here.
-/
import Derived.Test.YtbpijollcjdkhaaDoorL6
namespace Go.Proofs.YtbpijollcjdkhaaDoor
open Go.ChangeShapes Go.WideShapes Go.ChangeAt Go.RowKit
set_option linter.unusedVariables false
set_option linter.unusedSimpArgs false

/-- The move of a message, if one fits. -/
def moveV (x k : Int) : Value :=
  if x = 1 then (if k = 1 then .func (.func 69) #[] #[] else if k = 2 then .func (.func 70) #[] #[] else .nilFunc)
  else if x = 3 then (if k = 3 then .func (.func 71) #[] #[] else if k = 4 then .func (.func 72) #[] #[] else .nilFunc)
  else .nilFunc
def noMoves : Array Value := #[.nilFunc, .nilFunc, .nilFunc, .nilFunc, .nilFunc, .nilFunc, .nilFunc, .nilFunc, .nilFunc, .nilFunc, .nilFunc, .nilFunc, .nilFunc, .nilFunc, .nilFunc, .nilFunc, .nilFunc, .nilFunc, .nilFunc, .nilFunc, .nilFunc, .nilFunc, .nilFunc, .nilFunc, .nilFunc]
def moves : Array Value := #[.nilFunc, .nilFunc, .nilFunc, .nilFunc, .nilFunc, .nilFunc, .func (.func 69) #[] #[], .func (.func 70) #[] #[], .nilFunc, .nilFunc, .nilFunc, .nilFunc, .nilFunc, .nilFunc, .nilFunc, .nilFunc, .nilFunc, .nilFunc, .func (.func 71) #[] #[], .func (.func 72) #[] #[], .nilFunc, .nilFunc, .nilFunc, .nilFunc, .nilFunc]
theorem wpList_table {ops : Array Oper} {rest : List Oper} {o : Oper} {a : Act} {w : World} {Q : Exit → Act → World → Prop} (hgd : o.guard = none) (x y : Operand) (ho : o.op = .store 101 x y)
    (hx : a.eval x = .pointer (some ⟨w.heap.size, 0, none⟩)) (hy : a.eval y = .agg moves) (h : wpList Tryd.prog ops Q rest (a.put o.dst undef) (w.alloc (.cells moves 101))) : wpList Tryd.prog ops Q (o :: rest) a (w.alloc (.cells noMoves 101)) := by
  refine wpList_plain hgd fun K hK => ?_
  unfold Oper.wp execOp
  simp only [ho, hx, hy, Instr.storeAt, Instr.sureAddr, Sem.run_bind, Sem.run_pure, Result.andThen_ok, run_storeVar_new (P := Tryd.prog) w 101 noMoves moves (by kernel_rfl) (by kernel_rfl) (by kernel_rfl)]
  exact hK _ _ h
set_option maxRecDepth 100000 in
set_option maxHeartbeats 4000000 in
theorem implMoveOf (x k : Int) (hx : x = 0 ∨ x = 1 ∨ x = 2 ∨ x = 3 ∨ x = 4) (hk : k = 1 ∨ k = 2 ∨ k = 3 ∨ k = 4) (w : World) :
    Calls Tryd.prog 53 #[.int .i64 x, .int .i64 k] w fun e w' => e = .returned (moveV x k) ∧ Below w.heap.size w w' := by
  have hb : Below w.heap.size w (w.alloc (.cells moves 101)) := (Below.refl _ w).alloc (Nat.le_refl _) _
  have kb : Blk (w.alloc (.cells moves 101)) w.heap.size 101 moves := heap_alloc_last w _
  have HB : Hid _ := hb
  have HK : Hid _ := kb
  clear hb kb
  go_enter Tryd.func53, Tryd.ntmps53
  go_upto_region 2 with (refine wpList_table rfl (.tmp 5) (.tmp 8) rfl rfl rfl ?_)
  (try simp only [Act.put, List.setIfInBounds_toArray, List.set_cons_zero, List.set_cons_succ])
  obtain ⟨wz, hwz⟩ : ∃ wz, w.alloc (.cells moves 101) = wz := ⟨_, rfl⟩
  rw [hwz] at HB HK ⊢
  clear hwz
  have hcell : ∀ n v, moves[n]? = some v → wz.cell? ⟨w.heap.size, n, none⟩ = some v := fun n v h => (Blk.cell HK.out n).trans h
  obtain ⟨bx, hbx⟩ : ∃ bx, w.heap.size = bx := ⟨_, rfl⟩
  rw [hbx] at hcell ⊢
  clear HK
  rcases hx with rfl | rfl | rfl | rfl | rfl <;> rcases hk with rfl | rfl | rfl | rfl
  · have q := hcell 1 .nilFunc rfl
    clear hcell
    go_wp2_with fail
    go_ret
    exact ⟨by simp [moveV], HB.out⟩
  · have q := hcell 2 .nilFunc rfl
    clear hcell
    go_wp2_with fail
    go_ret
    exact ⟨by simp [moveV], HB.out⟩
  · have q := hcell 3 .nilFunc rfl
    clear hcell
    go_wp2_with fail
    go_ret
    exact ⟨by simp [moveV], HB.out⟩
  · have q := hcell 4 .nilFunc rfl
    clear hcell
    go_wp2_with fail
    go_ret
    exact ⟨by simp [moveV], HB.out⟩
  · have q := hcell 6 (.func (.func 69) #[] #[]) rfl
    clear hcell
    go_wp2_with fail
    go_ret
    exact ⟨by simp [moveV], HB.out⟩
  · have q := hcell 7 (.func (.func 70) #[] #[]) rfl
    clear hcell
    go_wp2_with fail
    go_ret
    exact ⟨by simp [moveV], HB.out⟩
  · have q := hcell 8 .nilFunc rfl
    clear hcell
    go_wp2_with fail
    go_ret
    exact ⟨by simp [moveV], HB.out⟩
  · have q := hcell 9 .nilFunc rfl
    clear hcell
    go_wp2_with fail
    go_ret
    exact ⟨by simp [moveV], HB.out⟩
  · have q := hcell 11 .nilFunc rfl
    clear hcell
    go_wp2_with fail
    go_ret
    exact ⟨by simp [moveV], HB.out⟩
  · have q := hcell 12 .nilFunc rfl
    clear hcell
    go_wp2_with fail
    go_ret
    exact ⟨by simp [moveV], HB.out⟩
  · have q := hcell 13 .nilFunc rfl
    clear hcell
    go_wp2_with fail
    go_ret
    exact ⟨by simp [moveV], HB.out⟩
  · have q := hcell 14 .nilFunc rfl
    clear hcell
    go_wp2_with fail
    go_ret
    exact ⟨by simp [moveV], HB.out⟩
  · have q := hcell 16 .nilFunc rfl
    clear hcell
    go_wp2_with fail
    go_ret
    exact ⟨by simp [moveV], HB.out⟩
  · have q := hcell 17 .nilFunc rfl
    clear hcell
    go_wp2_with fail
    go_ret
    exact ⟨by simp [moveV], HB.out⟩
  · have q := hcell 18 (.func (.func 71) #[] #[]) rfl
    clear hcell
    go_wp2_with fail
    go_ret
    exact ⟨by simp [moveV], HB.out⟩
  · have q := hcell 19 (.func (.func 72) #[] #[]) rfl
    clear hcell
    go_wp2_with fail
    go_ret
    exact ⟨by simp [moveV], HB.out⟩
  · have q := hcell 21 .nilFunc rfl
    clear hcell
    go_wp2_with fail
    go_ret
    exact ⟨by simp [moveV], HB.out⟩
  · have q := hcell 22 .nilFunc rfl
    clear hcell
    go_wp2_with fail
    go_ret
    exact ⟨by simp [moveV], HB.out⟩
  · have q := hcell 23 .nilFunc rfl
    clear hcell
    go_wp2_with fail
    go_ret
    exact ⟨by simp [moveV], HB.out⟩
  · have q := hcell 24 .nilFunc rfl
    clear hcell
    go_wp2_with fail
    go_ret
    exact ⟨by simp [moveV], HB.out⟩
end Go.Proofs.YtbpijollcjdkhaaDoor
