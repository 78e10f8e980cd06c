/-
  Apart, both sides; the law's walk. No statement of the seat is proved here.
-/
import Derived.Test.YtkdholpljacajaaA0
import Derived.Laws.Rows
import Derived.Laws.NewBlocks
import Derived.Deep.WholeRow
namespace Go.Proofs.Ytkdholpljacajaa
open Go.ChangeShapes Go.WideShapes Go.ChangeAt Go.RowKit
set_option linter.unusedVariables false
set_option linter.unusedSimpArgs false

/-- A fact that the walk does not use. -/
structure Hid (p : Prop) : Prop where
  out : p
/-- A world of a kind. -/
structure GoodW (good : World → Prop) where
  W : World
  ok : good W
theorem wp_region_calm {P : Program} (good : World → Prop) {id : Nat} {Q : Exit → Act → World → Prop} {a : Act} {w : World} {l : List Oper} (hm : P.follows .mixedOrders = true) (hB : Region.lexB .any l.toArray = true) (h0 : good w.drew)
    (h : wpQuiet P l.toArray (fun w' => ∃ n : GoodW good, w' = n.W) (fun a' => ∀ w', (∃ n : GoodW good, w' = n.W) → Q .normal a' w') l a) : (Code.region id l.toArray true).wp P Q a w :=
  wp_region_quiet (C := fun w' => ∃ n : GoodW good, w' = n.W) hm hB ⟨⟨_, h0⟩, rfl⟩ (by simpa using h)
theorem Calls.calm {P : Program} {f : FuncId} {args : Array Value} {good : World → Prop} (n : GoodW good) {v : Value} (hg : ∀ w', Below n.W.heap.size n.W w' → good w')
    (h : Calls P f args n.W fun e w' => e = .returned v ∧ Below n.W.heap.size n.W w') : Calls P f args n.W fun e w'' => e = .returned v ∧ ∃ m : GoodW good, w'' = m.W :=
  h.mono fun _ w' ⟨he, hb⟩ => ⟨he, ⟨w', hg w' hb⟩, rfl⟩

theorem last1 {w : World} (o p : Obj) : ((w.alloc o).alloc p).heap[w.heap.size + 1]? = some p := by
  have := heap_alloc_last (w.alloc o) p
  simpa using this
/-- The world behind a copy of a value. -/
def valW (r n : Int) (w : World) : World := ((w.alloc (.cells #[.int .i64 r, .int .i64 n] 23)).alloc (.cells #[.int .i64 r, .int .i64 n] 27)).alloc (.cells #[.int .i64 r, .int .i64 n] 27)
theorem valW_below (r n : Int) (w : World) : Below w.heap.size w (valW r n w) := (((Below.refl _ w).alloc (Nat.le_refl _) _).alloc (by simp) _).alloc (by simp; omega) _
set_option maxHeartbeats 1000000 in
theorem copyVal (r n : Int) (w : World) : Calls Try.prog 10 #[.agg #[.int .i64 r, .int .i64 n]] w fun e w' => e = .returned (.agg #[.int .i64 r, .int .i64 n]) ∧ w' = valW r n w := by
  go_enter Try.func10, Try.ntmps10
  go_wp2
  refine bodyPost_ret (results_cell_row rfl _ _ (w.heap.size + 1) 27 _ (0, 0) _ rfl ?_ Try.underlying27 rfl (by kernel_rfl)) rfl ⟨rfl, rfl⟩
  rw [Below.heap_alloc _ _ _ (by simp)]
  exact last1 _ _
/-- A block of cells. -/
def Blk (w : World) (g : Nat) (ty : TypeId) (cs : Array Value) : Prop := w.heap[g]? = some (.cells cs ty (0, 0))
set_option maxHeartbeats 4000000 in
theorem copyIns (x : Ins) (w : World) : Calls Try.prog 5 #[insV x] w fun e w' => e = .returned (insV x) ∧ Below w.heap.size w w' := by
  unfold insV insC
  go_enter Try.func5, Try.ntmps5
  go_wp2_with (go_at_call 10; refine (copyVal _ _ _).mono ?_; rintro e w' ⟨rfl, rfl⟩; simp only [valW])
  refine bodyPost_ret (v := .agg #[.int .i64 x.op, .int .i64 x.cell, .int .i64 x.reg, .int .i64 x.ar, .int .i64 x.an, .int .i64 x.br, .int .i64 x.bn, .int .i64 x.ord, .int .i64 x.cnd, .int .i64 x.tgt]) (results_cell_row rfl _ _ (w.heap.size + 1) 29 _ (0, 0) _ rfl ?_ Try.underlying29 rfl (by kernel_rfl)) rfl ⟨rfl, ?_⟩
  · repeat rw [Below.heap_alloc _ _ _ (by first | (simp; done) | (simp; omega))]
    exact last1 _ _
  · repeat (first | exact Below.refl _ _ | refine Below.alloc ?_ (by first | (simp; done) | (simp; omega)) _)
def OneC (f : FuncId) (p : Ins → Ins → Bool) : Prop := ∀ (x y : Ins) (w : World), Calls Try.prog f #[insV x, insV y] w fun e w' => e = .returned (.bool (p x y)) ∧ Below w.heap.size w w'
set_option maxHeartbeats 4000000 in
theorem specApart : OneC 4 apartB := by
  intro x y w
  have c0 := fun a0 a1 a2 a3 a4 a5 a6 a7 a8 a9 W => specStep ⟨a0, a1, a2, a3, a4, a5, a6, a7, a8, a9⟩ W
  have c1 := fun a0 a1 a2 a3 a4 a5 a6 a7 a8 a9 W => specSeq ⟨a0, a1, a2, a3, a4, a5, a6, a7, a8, a9⟩ W
  have c2 := fun a0 a1 a2 a3 a4 a5 a6 a7 a8 a9 W => specReads ⟨a0, a1, a2, a3, a4, a5, a6, a7, a8, a9⟩ W
  have hA : apartB x y = (!(!stepB x || !stepB y || (seqB x && seqB y)) && (x.cell != y.cell || fenceB x || fenceB y || (readB x && readB y))) := rfl
  obtain ⟨A, hAA⟩ : ∃ A, apartB x y = A := ⟨_, rfl⟩
  rw [hAA] at hA ⊢
  obtain ⟨op, ce, rg, ar, an, br, bn, od, cq, tg⟩ := x
  obtain ⟨op', ce', rg', ar', an', br', bn', od', cq', tg'⟩ := y
  obtain ⟨s1, hs1⟩ : ∃ b, stepB ⟨op, ce, rg, ar, an, br, bn, od, cq, tg⟩ = b := ⟨_, rfl⟩
  obtain ⟨s2, hs2⟩ : ∃ b, stepB ⟨op', ce', rg', ar', an', br', bn', od', cq', tg'⟩ = b := ⟨_, rfl⟩
  obtain ⟨q1, hq1⟩ : ∃ b, seqB ⟨op, ce, rg, ar, an, br, bn, od, cq, tg⟩ = b := ⟨_, rfl⟩
  obtain ⟨q2, hq2⟩ : ∃ b, seqB ⟨op', ce', rg', ar', an', br', bn', od', cq', tg'⟩ = b := ⟨_, rfl⟩
  obtain ⟨r1, hr1⟩ : ∃ b, readB ⟨op, ce, rg, ar, an, br, bn, od, cq, tg⟩ = b := ⟨_, rfl⟩
  obtain ⟨r2, hr2⟩ : ∃ b, readB ⟨op', ce', rg', ar', an', br', bn', od', cq', tg'⟩ = b := ⟨_, rfl⟩
  simp only [hs1, hs2, hq1, hq2, hr1, hr2, fenceB] at hA
  unfold insV insC at *
  dsimp only at hA c0 c1 c2 ⊢
  have HA : Hid (A = _) := ⟨hA⟩
  clear hA hAA
  have fin : ∀ (b : Bool) (W : World), A = b → Below w.heap.size w W → Ending.returned (.bool b) = Ending.returned (.bool A) ∧ Below w.heap.size w W := fun b W h hb => ⟨by rw [h], hb⟩
  cases s1
  · clear hs2 hq1 hq2 hr1 hr2 c1 c2
    go_enter Try.func4, Try.ntmps4
    go_wp2_with (first | (go_at_call 7; refine (c0 _ _ _ _ _ _ _ _ _ _ _).mono ?_; rintro e w' ⟨rfl, rfl⟩))
    all_goals
      go_ret
      refine fin _ _ (by rw [HA.out]; simp [*]) ?_
      repeat (first | exact Below.refl _ _ | refine Below.alloc ?_ (by first | (simp; done) | (simp; omega)) _)
  cases s2
  · clear hq1 hq2 hr1 hr2 c1 c2
    go_enter Try.func4, Try.ntmps4
    go_wp2_with (first | (go_at_call 7; refine (c0 _ _ _ _ _ _ _ _ _ _ _).mono ?_; rintro e w' ⟨rfl, rfl⟩))
    all_goals
      go_ret
      refine fin _ _ (by rw [HA.out]; simp [*]) ?_
      repeat (first | exact Below.refl _ _ | refine Below.alloc ?_ (by first | (simp; done) | (simp; omega)) _)
  cases q1
  · clear hq2
    by_cases hce : ce = ce'
    rotate_left
    · clear hr1 hr2 c2
      go_enter Try.func4, Try.ntmps4
      go_wp2_with (first | (go_at_call 7; refine (c0 _ _ _ _ _ _ _ _ _ _ _).mono ?_; rintro e w' ⟨rfl, rfl⟩) | (go_at_call 8; refine (c1 _ _ _ _ _ _ _ _ _ _ _).mono ?_; rintro e w' ⟨rfl, rfl⟩))
      all_goals
        go_ret
        refine fin _ _ (by rw [HA.out]; simp [*]) ?_
        repeat (first | exact Below.refl _ _ | refine Below.alloc ?_ (by first | (simp; done) | (simp; omega)) _)
    subst hce
    cases r1
    · clear hr2
      go_enter Try.func4, Try.ntmps4
      go_wp2_with (first | (go_at_call 7; refine (c0 _ _ _ _ _ _ _ _ _ _ _).mono ?_; rintro e w' ⟨rfl, rfl⟩) | (go_at_call 8; refine (c1 _ _ _ _ _ _ _ _ _ _ _).mono ?_; rintro e w' ⟨rfl, rfl⟩) | (go_at_call 9; refine (c2 _ _ _ _ _ _ _ _ _ _ _).mono ?_; rintro e w' ⟨rfl, rfl⟩))
      all_goals
        go_ret
        refine fin _ _ (by rw [HA.out]; simp [*]) ?_
        repeat (first | exact Below.refl _ _ | refine Below.alloc ?_ (by first | (simp; done) | (simp; omega)) _)
    cases r2
    · skip
      go_enter Try.func4, Try.ntmps4
      go_wp2_with (first | (go_at_call 7; refine (c0 _ _ _ _ _ _ _ _ _ _ _).mono ?_; rintro e w' ⟨rfl, rfl⟩) | (go_at_call 8; refine (c1 _ _ _ _ _ _ _ _ _ _ _).mono ?_; rintro e w' ⟨rfl, rfl⟩) | (go_at_call 9; refine (c2 _ _ _ _ _ _ _ _ _ _ _).mono ?_; rintro e w' ⟨rfl, rfl⟩))
      all_goals
        go_ret
        refine fin _ _ (by rw [HA.out]; simp [*]) ?_
        repeat (first | exact Below.refl _ _ | refine Below.alloc ?_ (by first | (simp; done) | (simp; omega)) _)
    · skip
      go_enter Try.func4, Try.ntmps4
      go_wp2_with (first | (go_at_call 7; refine (c0 _ _ _ _ _ _ _ _ _ _ _).mono ?_; rintro e w' ⟨rfl, rfl⟩) | (go_at_call 8; refine (c1 _ _ _ _ _ _ _ _ _ _ _).mono ?_; rintro e w' ⟨rfl, rfl⟩) | (go_at_call 9; refine (c2 _ _ _ _ _ _ _ _ _ _ _).mono ?_; rintro e w' ⟨rfl, rfl⟩))
      all_goals
        go_ret
        refine fin _ _ (by rw [HA.out]; simp [*]) ?_
        repeat (first | exact Below.refl _ _ | refine Below.alloc ?_ (by first | (simp; done) | (simp; omega)) _)
  cases q2
  · skip
    by_cases hce : ce = ce'
    rotate_left
    · clear hr1 hr2 c2
      go_enter Try.func4, Try.ntmps4
      go_wp2_with (first | (go_at_call 7; refine (c0 _ _ _ _ _ _ _ _ _ _ _).mono ?_; rintro e w' ⟨rfl, rfl⟩) | (go_at_call 8; refine (c1 _ _ _ _ _ _ _ _ _ _ _).mono ?_; rintro e w' ⟨rfl, rfl⟩))
      all_goals
        go_ret
        refine fin _ _ (by rw [HA.out]; simp [*]) ?_
        repeat (first | exact Below.refl _ _ | refine Below.alloc ?_ (by first | (simp; done) | (simp; omega)) _)
    subst hce
    cases r1
    · clear hr2
      go_enter Try.func4, Try.ntmps4
      go_wp2_with (first | (go_at_call 7; refine (c0 _ _ _ _ _ _ _ _ _ _ _).mono ?_; rintro e w' ⟨rfl, rfl⟩) | (go_at_call 8; refine (c1 _ _ _ _ _ _ _ _ _ _ _).mono ?_; rintro e w' ⟨rfl, rfl⟩) | (go_at_call 9; refine (c2 _ _ _ _ _ _ _ _ _ _ _).mono ?_; rintro e w' ⟨rfl, rfl⟩))
      all_goals
        go_ret
        refine fin _ _ (by rw [HA.out]; simp [*]) ?_
        repeat (first | exact Below.refl _ _ | refine Below.alloc ?_ (by first | (simp; done) | (simp; omega)) _)
    cases r2
    · skip
      go_enter Try.func4, Try.ntmps4
      go_wp2_with (first | (go_at_call 7; refine (c0 _ _ _ _ _ _ _ _ _ _ _).mono ?_; rintro e w' ⟨rfl, rfl⟩) | (go_at_call 8; refine (c1 _ _ _ _ _ _ _ _ _ _ _).mono ?_; rintro e w' ⟨rfl, rfl⟩) | (go_at_call 9; refine (c2 _ _ _ _ _ _ _ _ _ _ _).mono ?_; rintro e w' ⟨rfl, rfl⟩))
      all_goals
        go_ret
        refine fin _ _ (by rw [HA.out]; simp [*]) ?_
        repeat (first | exact Below.refl _ _ | refine Below.alloc ?_ (by first | (simp; done) | (simp; omega)) _)
    · skip
      go_enter Try.func4, Try.ntmps4
      go_wp2_with (first | (go_at_call 7; refine (c0 _ _ _ _ _ _ _ _ _ _ _).mono ?_; rintro e w' ⟨rfl, rfl⟩) | (go_at_call 8; refine (c1 _ _ _ _ _ _ _ _ _ _ _).mono ?_; rintro e w' ⟨rfl, rfl⟩) | (go_at_call 9; refine (c2 _ _ _ _ _ _ _ _ _ _ _).mono ?_; rintro e w' ⟨rfl, rfl⟩))
      all_goals
        go_ret
        refine fin _ _ (by rw [HA.out]; simp [*]) ?_
        repeat (first | exact Below.refl _ _ | refine Below.alloc ?_ (by first | (simp; done) | (simp; omega)) _)
  · clear hr1 hr2 c2
    go_enter Try.func4, Try.ntmps4
    go_wp2_with (first | (go_at_call 7; refine (c0 _ _ _ _ _ _ _ _ _ _ _).mono ?_; rintro e w' ⟨rfl, rfl⟩) | (go_at_call 8; refine (c1 _ _ _ _ _ _ _ _ _ _ _).mono ?_; rintro e w' ⟨rfl, rfl⟩))
    all_goals
      go_ret
      refine fin _ _ (by rw [HA.out]; simp [*]) ?_
      repeat (first | exact Below.refl _ _ | refine Below.alloc ?_ (by first | (simp; done) | (simp; omega)) _)
set_option maxHeartbeats 4000000 in
theorem implApart : OneC 6 apartB := by
  intro x y w
  have c0 := fun a0 a1 a2 a3 a4 a5 a6 a7 a8 a9 W => implOnMemory ⟨a0, a1, a2, a3, a4, a5, a6, a7, a8, a9⟩ W
  have c1 := fun a0 a1 a2 a3 a4 a5 a6 a7 a8 a9 W => implSeq ⟨a0, a1, a2, a3, a4, a5, a6, a7, a8, a9⟩ W
  have c2 := fun a0 a1 a2 a3 a4 a5 a6 a7 a8 a9 W => implReads ⟨a0, a1, a2, a3, a4, a5, a6, a7, a8, a9⟩ W
  have c3 := fun a0 a1 a2 a3 a4 a5 a6 a7 a8 a9 W => implFence ⟨a0, a1, a2, a3, a4, a5, a6, a7, a8, a9⟩ W
  have hA : apartB x y = (!(!stepB x || !stepB y || (seqB x && seqB y)) && (x.cell != y.cell || fenceB x || fenceB y || (readB x && readB y))) := rfl
  obtain ⟨A, hAA⟩ : ∃ A, apartB x y = A := ⟨_, rfl⟩
  rw [hAA] at hA ⊢
  obtain ⟨op, ce, rg, ar, an, br, bn, od, cq, tg⟩ := x
  obtain ⟨op', ce', rg', ar', an', br', bn', od', cq', tg'⟩ := y
  obtain ⟨s1, hs1⟩ : ∃ b, stepB ⟨op, ce, rg, ar, an, br, bn, od, cq, tg⟩ = b := ⟨_, rfl⟩
  obtain ⟨s2, hs2⟩ : ∃ b, stepB ⟨op', ce', rg', ar', an', br', bn', od', cq', tg'⟩ = b := ⟨_, rfl⟩
  obtain ⟨q1, hq1⟩ : ∃ b, seqB ⟨op, ce, rg, ar, an, br, bn, od, cq, tg⟩ = b := ⟨_, rfl⟩
  obtain ⟨q2, hq2⟩ : ∃ b, seqB ⟨op', ce', rg', ar', an', br', bn', od', cq', tg'⟩ = b := ⟨_, rfl⟩
  obtain ⟨r1, hr1⟩ : ∃ b, readB ⟨op, ce, rg, ar, an, br, bn, od, cq, tg⟩ = b := ⟨_, rfl⟩
  obtain ⟨r2, hr2⟩ : ∃ b, readB ⟨op', ce', rg', ar', an', br', bn', od', cq', tg'⟩ = b := ⟨_, rfl⟩
  obtain ⟨f1, hf1⟩ : ∃ b, fenceB ⟨op, ce, rg, ar, an, br, bn, od, cq, tg⟩ = b := ⟨_, rfl⟩
  obtain ⟨f2, hf2⟩ : ∃ b, fenceB ⟨op', ce', rg', ar', an', br', bn', od', cq', tg'⟩ = b := ⟨_, rfl⟩
  simp only [hs1, hs2, hq1, hq2, hr1, hr2, hf1, hf2] at hA
  unfold insV insC at *
  dsimp only at hA c0 c1 c2 c3 ⊢
  have HA : Hid (A = _) := ⟨hA⟩
  clear hA hAA
  have fin : ∀ (b : Bool) (W : World), A = b → Below w.heap.size w W → Ending.returned (.bool b) = Ending.returned (.bool A) ∧ Below w.heap.size w W := fun b W h hb => ⟨by rw [h], hb⟩
  cases s1
  · clear hs2 hq1 hq2 hr1 hr2 c1 c2 c3 hf1 hf2
    go_enter Try.func6, Try.ntmps6
    go_wp2_with (first | (go_at_call 11; refine (c0 _ _ _ _ _ _ _ _ _ _ _).mono ?_; rintro e w' ⟨rfl, rfl⟩))
    all_goals
      go_ret
      refine fin _ _ (by rw [HA.out]; simp [*]) ?_
      repeat (first | exact Below.refl _ _ | refine Below.alloc ?_ (by first | (simp; done) | (simp; omega)) _)
  cases s2
  · clear hq1 hq2 hr1 hr2 c1 c2 c3 hf1 hf2
    go_enter Try.func6, Try.ntmps6
    go_wp2_with (first | (go_at_call 11; refine (c0 _ _ _ _ _ _ _ _ _ _ _).mono ?_; rintro e w' ⟨rfl, rfl⟩))
    all_goals
      go_ret
      refine fin _ _ (by rw [HA.out]; simp [*]) ?_
      repeat (first | exact Below.refl _ _ | refine Below.alloc ?_ (by first | (simp; done) | (simp; omega)) _)
  cases q1
  · clear hq2
    by_cases hce : ce = ce'
    rotate_left
    · clear hr1 hr2 c2 c3 hf1 hf2
      go_enter Try.func6, Try.ntmps6
      go_wp2_with (first | (go_at_call 11; refine (c0 _ _ _ _ _ _ _ _ _ _ _).mono ?_; rintro e w' ⟨rfl, rfl⟩) | (go_at_call 12; refine (c1 _ _ _ _ _ _ _ _ _ _ _).mono ?_; rintro e w' ⟨rfl, rfl⟩))
      all_goals
        go_ret
        refine fin _ _ (by rw [HA.out]; simp [*]) ?_
        repeat (first | exact Below.refl _ _ | refine Below.alloc ?_ (by first | (simp; done) | (simp; omega)) _)
    subst hce
    cases f1
    · cases f2
      · cases r1
        · clear hr2
          go_enter Try.func6, Try.ntmps6
          go_wp2_with (first | (go_at_call 11; refine (c0 _ _ _ _ _ _ _ _ _ _ _).mono ?_; rintro e w' ⟨rfl, rfl⟩) | (go_at_call 12; refine (c1 _ _ _ _ _ _ _ _ _ _ _).mono ?_; rintro e w' ⟨rfl, rfl⟩) | (go_at_call 13; refine (c3 _ _ _ _ _ _ _ _ _ _ _).mono ?_; rintro e w' ⟨rfl, rfl⟩) | (go_at_call 14; refine (c2 _ _ _ _ _ _ _ _ _ _ _).mono ?_; rintro e w' ⟨rfl, rfl⟩))
          all_goals
            go_ret
            refine fin _ _ (by rw [HA.out]; simp [*]) ?_
            repeat (first | exact Below.refl _ _ | refine Below.alloc ?_ (by first | (simp; done) | (simp; omega)) _)
        cases r2
        · skip
          go_enter Try.func6, Try.ntmps6
          go_wp2_with (first | (go_at_call 11; refine (c0 _ _ _ _ _ _ _ _ _ _ _).mono ?_; rintro e w' ⟨rfl, rfl⟩) | (go_at_call 12; refine (c1 _ _ _ _ _ _ _ _ _ _ _).mono ?_; rintro e w' ⟨rfl, rfl⟩) | (go_at_call 13; refine (c3 _ _ _ _ _ _ _ _ _ _ _).mono ?_; rintro e w' ⟨rfl, rfl⟩) | (go_at_call 14; refine (c2 _ _ _ _ _ _ _ _ _ _ _).mono ?_; rintro e w' ⟨rfl, rfl⟩))
          all_goals
            go_ret
            refine fin _ _ (by rw [HA.out]; simp [*]) ?_
            repeat (first | exact Below.refl _ _ | refine Below.alloc ?_ (by first | (simp; done) | (simp; omega)) _)
        · skip
          go_enter Try.func6, Try.ntmps6
          go_wp2_with (first | (go_at_call 11; refine (c0 _ _ _ _ _ _ _ _ _ _ _).mono ?_; rintro e w' ⟨rfl, rfl⟩) | (go_at_call 12; refine (c1 _ _ _ _ _ _ _ _ _ _ _).mono ?_; rintro e w' ⟨rfl, rfl⟩) | (go_at_call 13; refine (c3 _ _ _ _ _ _ _ _ _ _ _).mono ?_; rintro e w' ⟨rfl, rfl⟩) | (go_at_call 14; refine (c2 _ _ _ _ _ _ _ _ _ _ _).mono ?_; rintro e w' ⟨rfl, rfl⟩))
          all_goals
            go_ret
            refine fin _ _ (by rw [HA.out]; simp [*]) ?_
            repeat (first | exact Below.refl _ _ | refine Below.alloc ?_ (by first | (simp; done) | (simp; omega)) _)
      · clear hr1 hr2 c2
        go_enter Try.func6, Try.ntmps6
        go_wp2_with (first | (go_at_call 11; refine (c0 _ _ _ _ _ _ _ _ _ _ _).mono ?_; rintro e w' ⟨rfl, rfl⟩) | (go_at_call 12; refine (c1 _ _ _ _ _ _ _ _ _ _ _).mono ?_; rintro e w' ⟨rfl, rfl⟩) | (go_at_call 13; refine (c3 _ _ _ _ _ _ _ _ _ _ _).mono ?_; rintro e w' ⟨rfl, rfl⟩))
        all_goals
          go_ret
          refine fin _ _ (by rw [HA.out]; simp [*]) ?_
          repeat (first | exact Below.refl _ _ | refine Below.alloc ?_ (by first | (simp; done) | (simp; omega)) _)
    · clear hr1 hr2 c2 hf2
      go_enter Try.func6, Try.ntmps6
      go_wp2_with (first | (go_at_call 11; refine (c0 _ _ _ _ _ _ _ _ _ _ _).mono ?_; rintro e w' ⟨rfl, rfl⟩) | (go_at_call 12; refine (c1 _ _ _ _ _ _ _ _ _ _ _).mono ?_; rintro e w' ⟨rfl, rfl⟩) | (go_at_call 13; refine (c3 _ _ _ _ _ _ _ _ _ _ _).mono ?_; rintro e w' ⟨rfl, rfl⟩))
      all_goals
        go_ret
        refine fin _ _ (by rw [HA.out]; simp [*]) ?_
        repeat (first | exact Below.refl _ _ | refine Below.alloc ?_ (by first | (simp; done) | (simp; omega)) _)
  cases q2
  · skip
    by_cases hce : ce = ce'
    rotate_left
    · clear hr1 hr2 c2 c3 hf1 hf2
      go_enter Try.func6, Try.ntmps6
      go_wp2_with (first | (go_at_call 11; refine (c0 _ _ _ _ _ _ _ _ _ _ _).mono ?_; rintro e w' ⟨rfl, rfl⟩) | (go_at_call 12; refine (c1 _ _ _ _ _ _ _ _ _ _ _).mono ?_; rintro e w' ⟨rfl, rfl⟩))
      all_goals
        go_ret
        refine fin _ _ (by rw [HA.out]; simp [*]) ?_
        repeat (first | exact Below.refl _ _ | refine Below.alloc ?_ (by first | (simp; done) | (simp; omega)) _)
    subst hce
    cases f1
    · cases f2
      · cases r1
        · clear hr2
          go_enter Try.func6, Try.ntmps6
          go_wp2_with (first | (go_at_call 11; refine (c0 _ _ _ _ _ _ _ _ _ _ _).mono ?_; rintro e w' ⟨rfl, rfl⟩) | (go_at_call 12; refine (c1 _ _ _ _ _ _ _ _ _ _ _).mono ?_; rintro e w' ⟨rfl, rfl⟩) | (go_at_call 13; refine (c3 _ _ _ _ _ _ _ _ _ _ _).mono ?_; rintro e w' ⟨rfl, rfl⟩) | (go_at_call 14; refine (c2 _ _ _ _ _ _ _ _ _ _ _).mono ?_; rintro e w' ⟨rfl, rfl⟩))
          all_goals
            go_ret
            refine fin _ _ (by rw [HA.out]; simp [*]) ?_
            repeat (first | exact Below.refl _ _ | refine Below.alloc ?_ (by first | (simp; done) | (simp; omega)) _)
        cases r2
        · skip
          go_enter Try.func6, Try.ntmps6
          go_wp2_with (first | (go_at_call 11; refine (c0 _ _ _ _ _ _ _ _ _ _ _).mono ?_; rintro e w' ⟨rfl, rfl⟩) | (go_at_call 12; refine (c1 _ _ _ _ _ _ _ _ _ _ _).mono ?_; rintro e w' ⟨rfl, rfl⟩) | (go_at_call 13; refine (c3 _ _ _ _ _ _ _ _ _ _ _).mono ?_; rintro e w' ⟨rfl, rfl⟩) | (go_at_call 14; refine (c2 _ _ _ _ _ _ _ _ _ _ _).mono ?_; rintro e w' ⟨rfl, rfl⟩))
          all_goals
            go_ret
            refine fin _ _ (by rw [HA.out]; simp [*]) ?_
            repeat (first | exact Below.refl _ _ | refine Below.alloc ?_ (by first | (simp; done) | (simp; omega)) _)
        · skip
          go_enter Try.func6, Try.ntmps6
          go_wp2_with (first | (go_at_call 11; refine (c0 _ _ _ _ _ _ _ _ _ _ _).mono ?_; rintro e w' ⟨rfl, rfl⟩) | (go_at_call 12; refine (c1 _ _ _ _ _ _ _ _ _ _ _).mono ?_; rintro e w' ⟨rfl, rfl⟩) | (go_at_call 13; refine (c3 _ _ _ _ _ _ _ _ _ _ _).mono ?_; rintro e w' ⟨rfl, rfl⟩) | (go_at_call 14; refine (c2 _ _ _ _ _ _ _ _ _ _ _).mono ?_; rintro e w' ⟨rfl, rfl⟩))
          all_goals
            go_ret
            refine fin _ _ (by rw [HA.out]; simp [*]) ?_
            repeat (first | exact Below.refl _ _ | refine Below.alloc ?_ (by first | (simp; done) | (simp; omega)) _)
      · clear hr1 hr2 c2
        go_enter Try.func6, Try.ntmps6
        go_wp2_with (first | (go_at_call 11; refine (c0 _ _ _ _ _ _ _ _ _ _ _).mono ?_; rintro e w' ⟨rfl, rfl⟩) | (go_at_call 12; refine (c1 _ _ _ _ _ _ _ _ _ _ _).mono ?_; rintro e w' ⟨rfl, rfl⟩) | (go_at_call 13; refine (c3 _ _ _ _ _ _ _ _ _ _ _).mono ?_; rintro e w' ⟨rfl, rfl⟩))
        all_goals
          go_ret
          refine fin _ _ (by rw [HA.out]; simp [*]) ?_
          repeat (first | exact Below.refl _ _ | refine Below.alloc ?_ (by first | (simp; done) | (simp; omega)) _)
    · clear hr1 hr2 c2 hf2
      go_enter Try.func6, Try.ntmps6
      go_wp2_with (first | (go_at_call 11; refine (c0 _ _ _ _ _ _ _ _ _ _ _).mono ?_; rintro e w' ⟨rfl, rfl⟩) | (go_at_call 12; refine (c1 _ _ _ _ _ _ _ _ _ _ _).mono ?_; rintro e w' ⟨rfl, rfl⟩) | (go_at_call 13; refine (c3 _ _ _ _ _ _ _ _ _ _ _).mono ?_; rintro e w' ⟨rfl, rfl⟩))
      all_goals
        go_ret
        refine fin _ _ (by rw [HA.out]; simp [*]) ?_
        repeat (first | exact Below.refl _ _ | refine Below.alloc ?_ (by first | (simp; done) | (simp; omega)) _)
  · clear hr1 hr2 c2 c3 hf1 hf2
    go_enter Try.func6, Try.ntmps6
    go_wp2_with (first | (go_at_call 11; refine (c0 _ _ _ _ _ _ _ _ _ _ _).mono ?_; rintro e w' ⟨rfl, rfl⟩) | (go_at_call 12; refine (c1 _ _ _ _ _ _ _ _ _ _ _).mono ?_; rintro e w' ⟨rfl, rfl⟩))
    all_goals
      go_ret
      refine fin _ _ (by rw [HA.out]; simp [*]) ?_
      repeat (first | exact Below.refl _ _ | refine Below.alloc ?_ (by first | (simp; done) | (simp; omega)) _)
end Go.Proofs.Ytkdholpljacajaa
