/-
  Bindings are held against each other. No statement of the seat is proved here.
-/
import Derived.Test.YtokolklaamfedaaDoorB1
import Derived.Test.YtokolklaamfedaaDoorCalm
namespace Go.Proofs.YtokolklaamfedaaDoor
open Go.ChangeShapes Go.WideShapes Go.ChangeAt Go.RowKit
set_option linter.unusedVariables false

set_option maxRecDepth 100000 in
theorem eqWant (nm mn : ByteArray) (mx : Int) (w : World) :
    Calls Tryd.prog 41 #[.agg #[.string nm, .string mn, .int .i64 mx], .agg #[.string nm, .string mn, .int .i64 mx]] w fun e w' => e = .returned (.bool true) ∧ Below w.heap.size w w' := by
  go_enter Tryd.func41, Tryd.ntmps41
  go_wp2
  go_ret
  exact ⟨rfl, ((Below.refl _ w).alloc (Nat.le_refl _) _).alloc (by simp) _⟩

set_option maxRecDepth 100000 in
set_option maxHeartbeats 400000 in
theorem eqWantS {S1 S2 : Nat → Prop} {v1 v2 : Value} {l : List Wnt} {w : World} (hS1 : ∀ b, S1 b → b < w.heap.size) (hS2 : ∀ b, S2 b → b < w.heap.size) (h1 : WntsAt S1 w v1 l) (h2 : WntsAt S2 w v2 l) :
    Calls Tryd.prog 27 #[v1, v2] w fun e w' => e = .returned (.bool true) ∧ Below w.heap.size w w' := by
  obtain ⟨hlm, a1, c1, rfl, q1⟩ := h1
  obtain ⟨_, a2, c2, rfl, q2⟩ := h2
  have Q1 : Hid _ := q1
  have Q2 : Hid _ := q2
  have hlm' : (l.length : Int) ≤ 9223372036854775807 := by simp [maxLen] at hlm; omega
  clear q1 q2 hlm
  go_enter Tryd.func27, Tryd.ntmps27
  go_wp2
  go_loopw [5] (fun i5 wr => ∃ k : Nat, i5 = .int .i64 (k : Int) ∧ k ≤ l.length ∧ Below w.heap.size w wr) (fun i5 _ => l.length - (intOf i5).toNat)
  case atStart => exact ⟨0, rfl, by omega, Below.refl _ _⟩
  case round =>
    obtain ⟨k, rfl, hk, hB⟩ := hrel
    by_cases hkn : k < l.length
    · have hkn' : (k : Int) < (l.length : Int) := by omega
      obtain ⟨b1, o1, rfl, hb1, hc1⟩ := Q1.out (by omega)
      obtain ⟨b2, o2, rfl, hb2, hc2⟩ := Q2.out (by omega)
      obtain ⟨x1, x2, x3⟩ := hc1 k hkn
      obtain ⟨y1, y2, y3⟩ := hc2 k hkn
      obtain ⟨x, hx⟩ : ∃ x, l[k] = x := ⟨_, rfl⟩
      rw [hx] at x1 x2 x3 y1 y2 y3
      clear hx hc1 hc2
      obtain ⟨nm, mn, mx⟩ := x
      dsimp only at x1 x2 x3 y1 y2 y3
      have p1 := fun N : GoodW (fun W => Below w.heap.size w W) => (N.ok.cell (p := ⟨b1, o1 + k * 3, none⟩) (hS1 _ hb1)).trans x1
      have p2 := fun N : GoodW (fun W => Below w.heap.size w W) => (N.ok.cell (p := ⟨b1, o1 + k * 3 + 1, none⟩) (hS1 _ hb1)).trans x2
      have p3 := fun N : GoodW (fun W => Below w.heap.size w W) => (N.ok.cell (p := ⟨b1, o1 + k * 3 + 2, none⟩) (hS1 _ hb1)).trans x3
      have r1 := fun N : GoodW (fun W => Below w.heap.size w W) => (N.ok.cell (p := ⟨b2, o2 + k * 3, none⟩) (hS2 _ hb2)).trans y1
      have r2 := fun N : GoodW (fun W => Below w.heap.size w W) => (N.ok.cell (p := ⟨b2, o2 + k * 3 + 1, none⟩) (hS2 _ hb2)).trans y2
      have r3 := fun N : GoodW (fun W => Below w.heap.size w W) => (N.ok.cell (p := ⟨b2, o2 + k * 3 + 2, none⟩) (hS2 _ hb2)).trans y3
      clear x1 x2 x3 y1 y2 y3
      have ce := eqWant nm mn mx
      go_wp2_with fail
      haveI ne : Nonempty (GoodW (fun W => Below w.heap.size w W)) := ⟨⟨_, hB⟩⟩
      refine wp_region_calm (fun W => Below w.heap.size w W) (by kernel_rfl) (by kernel_rfl) hB.drew ?_
      repeat (go_big_quiet_step ((go_at_call 41; exact Calls.calm _ (fun w2 hb => good_below (GoodW.ok _) hb) (ce _))))
      refine wpQuiet_nil ?_
      rintro _ ⟨⟨W2, hW2⟩, rfl⟩
      go_wp2_with fail
      go_roundw
      case rel => exact ⟨k + 1, by go_num, by omega, hW2⟩
      case measure => simp [intOf]; omega
    · have hkn' : ¬ ((k : Int) < (l.length : Int)) := by omega
      go_wp2_with fail
      go_ret
      exact ⟨rfl, hB⟩

set_option maxRecDepth 100000 in
set_option maxHeartbeats 1000000 in
theorem eqBinding {S1 S2 : Nat → Prop} (nm ky tg : ByteArray) (sc : Int) (n1 n2 : Value) (ns : List Wnt) (cd : ByteArray) (rk : Int) (wp : Bool) (w : World) (hS1 : ∀ b, S1 b → b < w.heap.size) (hS2 : ∀ b, S2 b → b < w.heap.size) (h1 : WntsAt S1 w n1 ns) (h2 : WntsAt S2 w n2 ns) :
    Calls Tryd.prog 17 #[.agg #[.string nm, .string ky, .string tg, .int .i64 sc, n1, .string cd, .int .i64 rk, .bool wp], .agg #[.string nm, .string ky, .string tg, .int .i64 sc, n2, .string cd, .int .i64 rk, .bool wp]] w fun e w' => e = .returned (.bool true) ∧ Below w.heap.size w w' := by
  have hw2 : ∀ o p, Below w.heap.size w ((w.alloc o).alloc p) := fun o p => ((Below.refl _ w).alloc (Nat.le_refl _) _).alloc (by simp) _
  have ce := fun o p => eqWantS (w := (w.alloc o).alloc p) (fun b hb => Nat.lt_of_lt_of_le (hS1 b hb) (hw2 o p).size) (fun b hb => Nat.lt_of_lt_of_le (hS2 b hb) (hw2 o p).size) (h1.keep (cells_below hS1 (hw2 o p))) (h2.keep (cells_below hS2 (hw2 o p)))
  have hl1 : ∀ o p W, Below ((w.alloc o).alloc p).heap.size ((w.alloc o).alloc p) W → W.heap[w.heap.size]? = some o ∧ W.heap[w.heap.size + 1]? = some p := fun o p W hb => by
    refine ⟨?_, ?_⟩
    · rw [hb.block _ (by simp only [World.size_alloc]; omega)]
      have b1 : Below (w.alloc o).heap.size (w.alloc o) ((w.alloc o).alloc p) := (Below.refl _ _).alloc (Nat.le_refl _) _
      rw [b1.block _ (by simp only [World.size_alloc]; omega)]
      exact heap_alloc_last w o
    · rw [hb.block _ (by simp only [World.size_alloc]; omega)]
      have := heap_alloc_last (w.alloc o) p
      simpa only [World.size_alloc] using this
  obtain ⟨a1, c1, rfl⟩ := h1.shape
  obtain ⟨a2, c2, rfl⟩ := h2.shape
  clear h1 h2
  go_enter Tryd.func17, Tryd.ntmps17
  go_wp2_with (go_at_call 27; go_must (refine (ce _ _).mono ?_; rintro e w1 ⟨rfl, hb1⟩; obtain ⟨q1, q2⟩ := hl1 _ _ _ hb1; have hk1 : Blk w1 w.heap.size 35 #[.string nm, .string ky, .string tg, .int .i64 sc, .slice a1 ns.length c1, .string cd, .int .i64 rk, .bool wp] := q1; have hk2 : Blk w1 (w.heap.size + 1) 35 #[.string nm, .string ky, .string tg, .int .i64 sc, .slice a2 ns.length c2, .string cd, .int .i64 rk, .bool wp] := q2; have e15 := hk1.cell 5; have e16 := hk1.cell 6; have e17 := hk1.cell 7; have e25 := hk2.cell 5; have e26 := hk2.cell 6; have e27 := hk2.cell 7; simp at e15 e16 e17 e25 e26 e27; clear q1 q2))
  go_ret
  exact ⟨rfl, good_below (hw2 _ _) hb1⟩

set_option maxRecDepth 100000 in
set_option maxHeartbeats 1000000 in
theorem eqBindingS {S1 S2 : Nat → Prop} {v1 v2 : Value} {l : List Bnd} {w : World} (hS1 : ∀ b, S1 b → b < w.heap.size) (hS2 : ∀ b, S2 b → b < w.heap.size) (h1 : BndsAt S1 w v1 l) (h2 : BndsAt S2 w v2 l) :
    Calls Tryd.prog 8 #[v1, v2] w fun e w' => e = .returned (.bool true) ∧ Below w.heap.size w w' := by
  obtain ⟨hlm, a1, c1, rfl, q1⟩ := h1
  obtain ⟨_, a2, c2, rfl, q2⟩ := h2
  have Q1 : Hid _ := q1
  have Q2 : Hid _ := q2
  have hlm' : (l.length : Int) ≤ 9223372036854775807 := by simp [maxLen] at hlm; omega
  clear q1 q2 hlm
  go_enter Tryd.func8, Tryd.ntmps8
  go_wp2
  go_loopw [5] (fun i5 wr => ∃ k : Nat, i5 = .int .i64 (k : Int) ∧ k ≤ l.length ∧ Below w.heap.size w wr) (fun i5 _ => l.length - (intOf i5).toNat)
  case atStart => exact ⟨0, rfl, by omega, Below.refl _ _⟩
  case round =>
    obtain ⟨k, rfl, hk, hB⟩ := hrel
    by_cases hkn : k < l.length
    · have hkn' : (k : Int) < (l.length : Int) := by omega
      obtain ⟨b1, o1, rfl, hb1, hc1⟩ := Q1.out (by omega)
      obtain ⟨b2, o2, rfl, hb2, hc2⟩ := Q2.out (by omega)
      obtain ⟨x0, x1, x2, x3, x5, x6, x7, nv1, x4, i1⟩ := hc1 k hkn
      obtain ⟨y0, y1, y2, y3, y5, y6, y7, nv2, y4, i2⟩ := hc2 k hkn
      obtain ⟨x, hx⟩ : ∃ x, l[k] = x := ⟨_, rfl⟩
      rw [hx] at x0 x1 x2 x3 x5 x6 x7 y0 y1 y2 y3 y5 y6 y7 i1 i2
      clear hx hc1 hc2
      obtain ⟨nm, ky, tg, sc, ns, cd, rk, wp⟩ := x
      dsimp only at x0 x1 x2 x3 x5 x6 x7 y0 y1 y2 y3 y5 y6 y7 i1 i2
      have p0 := fun N : GoodW (fun W => Below w.heap.size w W) => (N.ok.cell (p := ⟨b1, o1 + k * 8, none⟩) (hS1 _ hb1)).trans x0
      have p1 := fun N : GoodW (fun W => Below w.heap.size w W) => (N.ok.cell (p := ⟨b1, o1 + k * 8 + 1, none⟩) (hS1 _ hb1)).trans x1
      have p2 := fun N : GoodW (fun W => Below w.heap.size w W) => (N.ok.cell (p := ⟨b1, o1 + k * 8 + 2, none⟩) (hS1 _ hb1)).trans x2
      have p3 := fun N : GoodW (fun W => Below w.heap.size w W) => (N.ok.cell (p := ⟨b1, o1 + k * 8 + 3, none⟩) (hS1 _ hb1)).trans x3
      have p4 := fun N : GoodW (fun W => Below w.heap.size w W) => (N.ok.cell (p := ⟨b1, o1 + k * 8 + 4, none⟩) (hS1 _ hb1)).trans x4
      have p5 := fun N : GoodW (fun W => Below w.heap.size w W) => (N.ok.cell (p := ⟨b1, o1 + k * 8 + 5, none⟩) (hS1 _ hb1)).trans x5
      have p6 := fun N : GoodW (fun W => Below w.heap.size w W) => (N.ok.cell (p := ⟨b1, o1 + k * 8 + 6, none⟩) (hS1 _ hb1)).trans x6
      have p7 := fun N : GoodW (fun W => Below w.heap.size w W) => (N.ok.cell (p := ⟨b1, o1 + k * 8 + 7, none⟩) (hS1 _ hb1)).trans x7
      have r0 := fun N : GoodW (fun W => Below w.heap.size w W) => (N.ok.cell (p := ⟨b2, o2 + k * 8, none⟩) (hS2 _ hb2)).trans y0
      have r1 := fun N : GoodW (fun W => Below w.heap.size w W) => (N.ok.cell (p := ⟨b2, o2 + k * 8 + 1, none⟩) (hS2 _ hb2)).trans y1
      have r2 := fun N : GoodW (fun W => Below w.heap.size w W) => (N.ok.cell (p := ⟨b2, o2 + k * 8 + 2, none⟩) (hS2 _ hb2)).trans y2
      have r3 := fun N : GoodW (fun W => Below w.heap.size w W) => (N.ok.cell (p := ⟨b2, o2 + k * 8 + 3, none⟩) (hS2 _ hb2)).trans y3
      have r4 := fun N : GoodW (fun W => Below w.heap.size w W) => (N.ok.cell (p := ⟨b2, o2 + k * 8 + 4, none⟩) (hS2 _ hb2)).trans y4
      have r5 := fun N : GoodW (fun W => Below w.heap.size w W) => (N.ok.cell (p := ⟨b2, o2 + k * 8 + 5, none⟩) (hS2 _ hb2)).trans y5
      have r6 := fun N : GoodW (fun W => Below w.heap.size w W) => (N.ok.cell (p := ⟨b2, o2 + k * 8 + 6, none⟩) (hS2 _ hb2)).trans y6
      have r7 := fun N : GoodW (fun W => Below w.heap.size w W) => (N.ok.cell (p := ⟨b2, o2 + k * 8 + 7, none⟩) (hS2 _ hb2)).trans y7
      clear x0 x1 x2 x3 x4 x5 x6 x7 y0 y1 y2 y3 y4 y5 y6 y7
      have ce : ∀ N : GoodW (fun W => Below w.heap.size w W), Calls Tryd.prog 17 #[.agg #[.string nm, .string ky, .string tg, .int .i64 sc, nv1, .string cd, .int .i64 rk, .bool wp], .agg #[.string nm, .string ky, .string tg, .int .i64 sc, nv2, .string cd, .int .i64 rk, .bool wp]] N.W fun e w' => e = .returned (.bool true) ∧ Below N.W.heap.size N.W w' := fun N => eqBinding nm ky tg sc nv1 nv2 ns cd rk wp N.W (fun b hb => Nat.lt_of_lt_of_le (hS1 b hb) N.ok.size) (fun b hb => Nat.lt_of_lt_of_le (hS2 b hb) N.ok.size) (i1.keep (cells_below hS1 N.ok)) (i2.keep (cells_below hS2 N.ok))
      obtain ⟨a3, c3, rfl⟩ := i1.shape
      obtain ⟨a4, c4, rfl⟩ := i2.shape
      clear i1 i2
      go_wp2_with fail
      haveI ne : Nonempty (GoodW (fun W => Below w.heap.size w W)) := ⟨⟨_, hB⟩⟩
      refine wp_region_calm (fun W => Below w.heap.size w W) (by kernel_rfl) (by kernel_rfl) hB.drew ?_
      repeat (go_big_quiet_step ((go_at_call 17; exact Calls.calm _ (fun w2 hb => good_below (GoodW.ok _) hb) (ce _))))
      refine wpQuiet_nil ?_
      rintro _ ⟨⟨W2, hW2⟩, rfl⟩
      go_wp2_with fail
      go_roundw
      case rel => exact ⟨k + 1, by go_num, by omega, hW2⟩
      case measure => simp [intOf]; omega
    · have hkn' : ¬ ((k : Int) < (l.length : Int)) := by omega
      go_wp2_with fail
      go_ret
      exact ⟨rfl, hB⟩
end Go.Proofs.YtokolklaamfedaaDoor
