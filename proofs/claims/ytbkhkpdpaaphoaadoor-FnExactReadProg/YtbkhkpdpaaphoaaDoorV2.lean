/-
  Programs are held against each other, marked, and held again. Programs are marked, and held again. No statement of the seat is proved here.
-/
import Derived.Test.YtbkhkpdpaaphoaaDoorS9
import Derived.Test.YtbkhkpdpaaphoaaDoorS7
namespace Go.Proofs.YtbkhkpdpaaphoaaDoor
open Go.ChangeShapes Go.WideShapes Go.ChangeAt Go.RowKit
set_option linter.unusedVariables false
set_option linter.unusedSimpArgs false

/-! ### Held against each other -/
set_option maxRecDepth 100000 in
theorem eqVal (a b : Int) (w : World) : Calls Tryd.prog 59 #[.agg #[.int .i64 a, .int .i64 b], .agg #[.int .i64 a, .int .i64 b]] w fun e w' => e = .returned (.bool true) ∧ Below w.heap.size w w' := by
  go_enter Tryd.func59, Tryd.ntmps59
  go_wp2
  go_ret
  exact ⟨rfl, ((Below.refl _ w).alloc (Nat.le_refl _) _).alloc (by simp) _⟩
set_option maxRecDepth 100000 in
set_option maxHeartbeats 1000000 in
theorem eqIns (x : Ins) (w : World) : Calls Tryd.prog 48 #[insV x, insV x] w fun e w' => e = .returned (.bool true) ∧ Below w.heap.size w w' := by
  obtain ⟨op, ce, rg, ar, an, br, bn, od, cq, tg⟩ := x
  unfold insV
  dsimp only
  have k1 : Blk ((w.alloc (.cells (insC ⟨op, ce, rg, ar, an, br, bn, od, cq, tg⟩) 41)).alloc (.cells (insC ⟨op, ce, rg, ar, an, br, bn, od, cq, tg⟩) 41)) w.heap.size 41 (insC ⟨op, ce, rg, ar, an, br, bn, od, cq, tg⟩) := two1 w _ _
  have k2 : Blk ((w.alloc (.cells (insC ⟨op, ce, rg, ar, an, br, bn, od, cq, tg⟩) 41)).alloc (.cells (insC ⟨op, ce, rg, ar, an, br, bn, od, cq, tg⟩) 41)) (w.heap.size + 1) 41 (insC ⟨op, ce, rg, ar, an, br, bn, od, cq, tg⟩) := two2 w _ _
  have b2 : Below w.heap.size w ((w.alloc (.cells (insC ⟨op, ce, rg, ar, an, br, bn, od, cq, tg⟩) 41)).alloc (.cells (insC ⟨op, ce, rg, ar, an, br, bn, od, cq, tg⟩) 41)) := ((Below.refl _ w).alloc (Nat.le_refl _) _).alloc (by simp) _
  unfold insC at k1 k2 b2
  dsimp only at k1 k2 b2
  have K1 : Hid _ := k1
  have K2 : Hid _ := k2
  have B2 : Hid _ := b2
  have c1 := fun W => eqVal ar an W
  have c2 := fun W => eqVal br bn W
  clear k1 k2 b2
  go_enter Tryd.func48, Tryd.ntmps48
  go_wp2_with (first
    | (go_at_call 59; have hchk := hb3; (refine (c2 _).mono ?_; rintro e w4 ⟨rfl, hb4⟩; have hb4' := hb3.trans (hb4.mono hb3.size); have q1 := Blk.below K1.out hb4'; have q2 := Blk.below K2.out hb4'; have u7 := q1.cell 7; have u8 := q1.cell 8; have u9 := q1.cell 9; have v7 := q2.cell 7; have v8 := q2.cell 8; have v9 := q2.cell 9; simp at u7 u8 u9 v7 v8 v9))
    | (go_at_call 59; go_must (refine (c1 _).mono ?_; rintro e w3 ⟨rfl, hb3⟩; have q1 := Blk.below K1.out hb3; have q2 := Blk.below K2.out hb3; have u5 := q1.cell 5; have u6 := q1.cell 6; have v5 := q2.cell 5; have v6 := q2.cell 6; simp at u5 u6 v5 v6)))
  go_ret
  exact ⟨rfl, good_below B2.out hb4'⟩
def InssAt (S : Nat → Prop) (w : World) (v : Value) (l : List Ins) : Prop := l.length ≤ maxLen ∧ ∃ a cap, v = .slice a l.length cap ∧ (0 < l.length → ∃ b off, a = some ⟨b, off, none⟩ ∧ S b ∧ ∀ i (hi : i < l.length), w.cell? ⟨b, off + i * 10, none⟩ = some (.int .i64 (l[i]).op) ∧ w.cell? ⟨b, off + i * 10 + 1, none⟩ = some (.int .i64 (l[i]).cell) ∧ w.cell? ⟨b, off + i * 10 + 2, none⟩ = some (.int .i64 (l[i]).reg) ∧ w.cell? ⟨b, off + i * 10 + 3, none⟩ = some (.int .i64 (l[i]).ar) ∧ w.cell? ⟨b, off + i * 10 + 4, none⟩ = some (.int .i64 (l[i]).an) ∧ w.cell? ⟨b, off + i * 10 + 5, none⟩ = some (.int .i64 (l[i]).br) ∧ w.cell? ⟨b, off + i * 10 + 6, none⟩ = some (.int .i64 (l[i]).bn) ∧ w.cell? ⟨b, off + i * 10 + 7, none⟩ = some (.int .i64 (l[i]).ord) ∧ w.cell? ⟨b, off + i * 10 + 8, none⟩ = some (.int .i64 (l[i]).cnd) ∧ w.cell? ⟨b, off + i * 10 + 9, none⟩ = some (.int .i64 (l[i]).tgt))
theorem OwnInss.at {B : Nat} {w : World} {v : Value} {l : List Ins} (h : OwnInss B w v l) : InssAt (fun b => b < w.heap.size) w v l := by
  rcases h.2 with ⟨e, e0⟩ | ⟨b, cap, cur, e, hB, hg, h1, h2, h3, h4⟩
  · exact ⟨by omega, none, 0, by rw [e, e0], fun h => by omega⟩
  · refine ⟨by omega, some ⟨b, 0, none⟩, cap, e, fun _ => ⟨b, 0, rfl, (Array.getElem?_eq_some_iff.1 hg).1, fun k hk => ?_⟩⟩
    have hb : Blk w b 41 cur := hg
    have hrow : ∀ j, j < 10 → w.cell? ⟨b, 0 + k * 10 + j, none⟩ = (insC l[k])[j]? := fun j hj => by
      have hx := congrArg (fun l => l[k * 10 + j]?) h4
      simp only [List.getElem?_take] at hx
      rw [if_pos (by have := Nat.mul_le_mul_right 10 hk; omega)] at hx
      rw [Nat.zero_add, hb.cell, ← Array.getElem?_toList, hx]
      unfold InsRow
      rw [flat_at10 (fun y => rfl) l k j hj hk]
      simp
    exact ⟨hrow 0 (by omega), hrow 1 (by omega), hrow 2 (by omega), hrow 3 (by omega), hrow 4 (by omega), hrow 5 (by omega), hrow 6 (by omega), hrow 7 (by omega), hrow 8 (by omega), hrow 9 (by omega)⟩
set_option maxRecDepth 100000 in
set_option maxHeartbeats 1000000 in
theorem eqInsS {S1 S2 : Nat → Prop} {v1 v2 : Value} {l : List Ins} {w : World} (hS1 : ∀ b, S1 b → b < w.heap.size) (hS2 : ∀ b, S2 b → b < w.heap.size) (h1 : InssAt S1 w v1 l) (h2 : InssAt S2 w v2 l) :
    Calls Tryd.prog 34 #[v1, v2] w fun e w' => e = .returned (.bool true) ∧ Below w.heap.size w w' := by
  obtain ⟨hlm, a1, c1, rfl, q1⟩ := h1
  obtain ⟨_, a2, c2, rfl, q2⟩ := h2
  have Q1 : Hid _ := q1
  have Q2 : Hid _ := q2
  have hlm' : (l.length : Int) ≤ 9223372036854775807 := by simp [maxLen] at hlm; omega
  clear q1 q2 hlm
  go_enter Tryd.func34, Tryd.ntmps34
  go_wp2
  go_loopw [5] (fun i5 wr => ∃ k : Nat, i5 = .int .i64 (k : Int) ∧ k ≤ l.length ∧ Below w.heap.size w wr) (fun i5 _ => l.length - (intOf i5).toNat)
  case atStart => exact ⟨0, rfl, by omega, Below.refl _ _⟩
  case round =>
    obtain ⟨k, rfl, hk, hB⟩ := hrel
    by_cases hkn : k < l.length
    · have hkn' : (k : Int) < (l.length : Int) := by omega
      obtain ⟨b1, o1, rfl, hb1, hc1⟩ := Q1.out (by omega)
      obtain ⟨b2, o2, rfl, hb2, hc2⟩ := Q2.out (by omega)
      obtain ⟨x_0, x_1, x_2, x_3, x_4, x_5, x_6, x_7, x_8, x_9⟩ := hc1 k hkn
      obtain ⟨y_0, y_1, y_2, y_3, y_4, y_5, y_6, y_7, y_8, y_9⟩ := hc2 k hkn
      obtain ⟨x, hx⟩ : ∃ x, l[k] = x := ⟨_, rfl⟩
      rw [hx] at x_0 x_1 x_2 x_3 x_4 x_5 x_6 x_7 x_8 x_9 y_0 y_1 y_2 y_3 y_4 y_5 y_6 y_7 y_8 y_9
      have ce := eqIns x
      obtain ⟨op, ce1, rg, ar, an, br, bn, od, cq, tg⟩ := x
      dsimp only at x_0 x_1 x_2 x_3 x_4 x_5 x_6 x_7 x_8 x_9 y_0 y_1 y_2 y_3 y_4 y_5 y_6 y_7 y_8 y_9
      unfold insV at ce
      dsimp only at ce
      clear hx hc1 hc2
      have p0 := fun N : GoodW (fun W => Below w.heap.size w W) => (N.ok.cell (p := ⟨b1, o1 + k * 10, none⟩) (hS1 _ hb1)).trans x_0
      have r0 := fun N : GoodW (fun W => Below w.heap.size w W) => (N.ok.cell (p := ⟨b2, o2 + k * 10, none⟩) (hS2 _ hb2)).trans y_0
      have p1 := fun N : GoodW (fun W => Below w.heap.size w W) => (N.ok.cell (p := ⟨b1, o1 + k * 10 + 1, none⟩) (hS1 _ hb1)).trans x_1
      have r1 := fun N : GoodW (fun W => Below w.heap.size w W) => (N.ok.cell (p := ⟨b2, o2 + k * 10 + 1, none⟩) (hS2 _ hb2)).trans y_1
      have p2 := fun N : GoodW (fun W => Below w.heap.size w W) => (N.ok.cell (p := ⟨b1, o1 + k * 10 + 2, none⟩) (hS1 _ hb1)).trans x_2
      have r2 := fun N : GoodW (fun W => Below w.heap.size w W) => (N.ok.cell (p := ⟨b2, o2 + k * 10 + 2, none⟩) (hS2 _ hb2)).trans y_2
      have p3 := fun N : GoodW (fun W => Below w.heap.size w W) => (N.ok.cell (p := ⟨b1, o1 + k * 10 + 3, none⟩) (hS1 _ hb1)).trans x_3
      have r3 := fun N : GoodW (fun W => Below w.heap.size w W) => (N.ok.cell (p := ⟨b2, o2 + k * 10 + 3, none⟩) (hS2 _ hb2)).trans y_3
      have p4 := fun N : GoodW (fun W => Below w.heap.size w W) => (N.ok.cell (p := ⟨b1, o1 + k * 10 + 4, none⟩) (hS1 _ hb1)).trans x_4
      have r4 := fun N : GoodW (fun W => Below w.heap.size w W) => (N.ok.cell (p := ⟨b2, o2 + k * 10 + 4, none⟩) (hS2 _ hb2)).trans y_4
      have p5 := fun N : GoodW (fun W => Below w.heap.size w W) => (N.ok.cell (p := ⟨b1, o1 + k * 10 + 5, none⟩) (hS1 _ hb1)).trans x_5
      have r5 := fun N : GoodW (fun W => Below w.heap.size w W) => (N.ok.cell (p := ⟨b2, o2 + k * 10 + 5, none⟩) (hS2 _ hb2)).trans y_5
      have p6 := fun N : GoodW (fun W => Below w.heap.size w W) => (N.ok.cell (p := ⟨b1, o1 + k * 10 + 6, none⟩) (hS1 _ hb1)).trans x_6
      have r6 := fun N : GoodW (fun W => Below w.heap.size w W) => (N.ok.cell (p := ⟨b2, o2 + k * 10 + 6, none⟩) (hS2 _ hb2)).trans y_6
      have p7 := fun N : GoodW (fun W => Below w.heap.size w W) => (N.ok.cell (p := ⟨b1, o1 + k * 10 + 7, none⟩) (hS1 _ hb1)).trans x_7
      have r7 := fun N : GoodW (fun W => Below w.heap.size w W) => (N.ok.cell (p := ⟨b2, o2 + k * 10 + 7, none⟩) (hS2 _ hb2)).trans y_7
      have p8 := fun N : GoodW (fun W => Below w.heap.size w W) => (N.ok.cell (p := ⟨b1, o1 + k * 10 + 8, none⟩) (hS1 _ hb1)).trans x_8
      have r8 := fun N : GoodW (fun W => Below w.heap.size w W) => (N.ok.cell (p := ⟨b2, o2 + k * 10 + 8, none⟩) (hS2 _ hb2)).trans y_8
      have p9 := fun N : GoodW (fun W => Below w.heap.size w W) => (N.ok.cell (p := ⟨b1, o1 + k * 10 + 9, none⟩) (hS1 _ hb1)).trans x_9
      have r9 := fun N : GoodW (fun W => Below w.heap.size w W) => (N.ok.cell (p := ⟨b2, o2 + k * 10 + 9, none⟩) (hS2 _ hb2)).trans y_9
      clear x_0 x_1 x_2 x_3 x_4 x_5 x_6 x_7 x_8 x_9 y_0 y_1 y_2 y_3 y_4 y_5 y_6 y_7 y_8 y_9
      go_wp2_with fail
      haveI ne : Nonempty (GoodW (fun W => Below w.heap.size w W)) := ⟨⟨_, hB⟩⟩
      refine wp_region_calm (fun W => Below w.heap.size w W) (by kernel_rfl) (by kernel_rfl) hB.drew ?_
      repeat (go_big_quiet_step ((go_at_call 48; exact Calls.calm _ (fun w2 hb => good_below (GoodW.ok _) hb) (ce _))))
      refine wpQuiet_nil ?_
      rintro _ ⟨⟨W2, hW2⟩, rfl⟩
      go_wp2_with fail
      go_roundw
      case rel => exact ⟨k + 1, by go_num, by omega, hW2⟩
      case measure => simp [intOf]; omega
    · have hkn' : ¬ ((k : Int) < (l.length : Int)) := by omega
      go_wp2_with fail
      go_ret
      exact ⟨rfl, hB⟩
/-- A program in memory. -/
structure PV (B : Nat) (w : World) (iv tv : Value) (tvs : List Value) (ini : List Int) (thr : List (List Ins)) : Prop where
  rini : OwnNums B w iv ini
  rthr : w.ownsRow B 37 1 tv tvs.length tvs
  fam : Fam B w tvs thr
theorem PV.below {B : Nat} {w w' : World} {iv tv : Value} {tvs : List Value} {ini : List Int} {thr : List (List Ins)} (h : PV B w iv tv tvs ini thr) (hb : Below w.heap.size w w') : PV B w' iv tv tvs ini thr :=
  ⟨row_below h.rini hb, row_below h.rthr hb, h.fam.below hb⟩
set_option maxRecDepth 100000 in
set_option maxHeartbeats 1000000 in
theorem eqInsSS {B1 B2 : Nat} {v1 v2 : Value} {t1 t2 : List Value} {l : List (List Ins)} {w : World} (hl : l.length ≤ 1000) (h1 : w.ownsRow B1 37 1 v1 t1.length t1) (f1 : Fam B1 w t1 l) (h2 : w.ownsRow B2 37 1 v2 t2.length t2) (f2 : Fam B2 w t2 l) :
    Calls Tryd.prog 17 #[v1, v2] w fun e w' => e = .returned (.bool true) ∧ Below w.heap.size w w' := by
  obtain ⟨a1, c1, rfl⟩ := row_shape h1
  obtain ⟨a2, c2, rfl⟩ := row_shape h2
  have e1 := f1.len
  have e2 := f2.len
  have H1 : Hid (w.ownsRow B1 37 1 (.slice a1 t1.length c1) t1.length t1 ∧ Fam B1 w t1 l) := ⟨h1, f1⟩
  have H2 : Hid (w.ownsRow B2 37 1 (.slice a2 t2.length c2) t2.length t2 ∧ Fam B2 w t2 l) := ⟨h2, f2⟩
  have hlm : (l.length : Int) ≤ 1000 := by omega
  have E1 : Hid (t1.length = l.length) := e1
  have E2 : Hid (t2.length = l.length) := e2
  rw [e1, e2]
  clear h1 f1 h2 f2 e1 e2
  go_enter Tryd.func17, Tryd.ntmps17
  go_wp2
  go_loopw [5] (fun i5 wr => ∃ k : Nat, i5 = .int .i64 (k : Int) ∧ k ≤ l.length ∧ Below w.heap.size w wr) (fun i5 _ => l.length - (intOf i5).toNat)
  case atStart => exact ⟨0, rfl, by omega, Below.refl _ _⟩
  case round =>
    obtain ⟨k, rfl, hk, hB⟩ := hrel
    by_cases hkn : k < l.length
    · have hkn' : (k : Int) < (l.length : Int) := by omega
      obtain ⟨g1, p1, ev1, -, hg1, hc1, -⟩ := row_cell H1.out.1 (by rw [E1.out]; omega)
      obtain ⟨g2, p2, ev2, -, hg2, hc2, -⟩ := row_cell H2.out.1 (by rw [E2.out]; omega)
      injection ev1 with ea1 _ ec1
      injection ev2 with ea2 _ ec2
      subst ea1 ec1 ea2 ec2
      obtain ⟨u1, hu1⟩ : ∃ u, t1[k]? = some u := ⟨_, List.getElem?_eq_getElem (by rw [E1.out]; exact hkn)⟩
      obtain ⟨u2, hu2⟩ : ∃ u, t2[k]? = some u := ⟨_, List.getElem?_eq_getElem (by rw [E2.out]; exact hkn)⟩
      have x1 := (hc1 k (by rw [E1.out]; exact hkn)).1
      have x2 := (hc2 k (by rw [E2.out]; exact hkn)).1
      rw [hu1] at x1
      rw [hu2] at x2
      have o1 := H1.out.2.own k u1 l[k] hu1 (List.getElem?_eq_getElem hkn)
      have o2 := H2.out.2.own k u2 l[k] hu2 (List.getElem?_eq_getElem hkn)
      have ce : ∀ N : GoodW (fun W => Below w.heap.size w W), Calls Tryd.prog 34 #[u1, u2] N.W fun e w' => e = .returned (.bool true) ∧ Below N.W.heap.size N.W w' := fun N => eqInsS (S1 := fun b => b < N.W.heap.size) (S2 := fun b => b < N.W.heap.size) (fun b h => h) (fun b h => h) (OwnInss.at (row_below o1 N.ok)) (OwnInss.at (row_below o2 N.ok))
      obtain ⟨q1, r1, rfl⟩ := row_shape o1
      obtain ⟨q2, r2, rfl⟩ := row_shape o2
      have p0 := fun N : GoodW (fun W => Below w.heap.size w W) => (N.ok.cell (p := ⟨g1, k, none⟩) hg1).trans x1
      have r0 := fun N : GoodW (fun W => Below w.heap.size w W) => (N.ok.cell (p := ⟨g2, k, none⟩) hg2).trans x2
      clear x1 x2 o1 o2 hu1 hu2 hc1 hc2
      go_wp2_with fail
      haveI ne : Nonempty (GoodW (fun W => Below w.heap.size w W)) := ⟨⟨_, hB⟩⟩
      refine wp_region_calm (fun W => Below w.heap.size w W) (by kernel_rfl) (by kernel_rfl) hB.drew ?_
      repeat (go_big_quiet_step ((go_at_call 34; exact Calls.calm _ (fun w2 hb => good_below (GoodW.ok _) hb) (ce _))))
      refine wpQuiet_nil ?_
      rintro _ ⟨⟨W2, hW2⟩, rfl⟩
      go_wp2_with fail
      go_roundw
      case rel => exact ⟨k + 1, by go_num, by omega, hW2⟩
      case measure => simp [intOf]; omega
    · have hkn' : ¬ ((k : Int) < (l.length : Int)) := by omega
      go_wp2_with fail
      go_ret
      exact ⟨rfl, hB⟩
set_option maxRecDepth 100000 in
set_option maxHeartbeats 1000000 in
theorem eqProg {B1 B2 : Nat} {i1 i2 v1 v2 : Value} {t1 t2 : List Value} {ini : List Int} {l : List (List Ins)} {w : World} (hl : l.length ≤ 1000) (h1 : PV B1 w i1 v1 t1 ini l) (h2 : PV B2 w i2 v2 t2 ini l) :
    Calls Tryd.prog 6 #[.agg #[i1, v1], .agg #[i2, v2]] w fun e w' => e = .returned (.bool true) ∧ Below w.heap.size w w' := by
  have b2 : Below w.heap.size w ((w.alloc (.cells #[i1, v1] 25)).alloc (.cells #[i2, v2] 25)) := ((Below.refl _ w).alloc (Nat.le_refl _) _).alloc (by simp) _
  have k1 : Blk ((w.alloc (.cells #[i1, v1] 25)).alloc (.cells #[i2, v2] 25)) w.heap.size 25 #[i1, v1] := two1 w _ _
  have k2 : Blk ((w.alloc (.cells #[i1, v1] 25)).alloc (.cells #[i2, v2] 25)) (w.heap.size + 1) 25 #[i2, v2] := two2 w _ _
  have H1 := h1.below b2
  have H2 := h2.below b2
  obtain ⟨a1, n1, rfl⟩ := row_shape h1.rini
  obtain ⟨a2, n2, rfl⟩ := row_shape h2.rini
  obtain ⟨d1, m1, rfl⟩ := row_shape h1.rthr
  obtain ⟨d2, m2, rfl⟩ := row_shape h2.rthr
  generalize hw2 : (w.alloc (.cells #[.slice a1 ini.length n1, .slice d1 t1.length m1] 25)).alloc (.cells #[.slice a2 ini.length n2, .slice d2 t2.length m2] 25) = w2 at b2 k1 k2 H1 H2
  have ci := eqIntS (w := w2) (S1 := fun b => B1 ≤ b ∧ b < w2.heap.size) (S2 := fun b => B2 ≤ b ∧ b < w2.heap.size) (fun b h => h.2) (fun b h => h.2) H1.rini.at H2.rini.at
  have HH : Hid (Below w.heap.size w w2 ∧ Blk w2 w.heap.size 25 #[.slice a1 ini.length n1, .slice d1 t1.length m1] ∧ Blk w2 (w.heap.size + 1) 25 #[.slice a2 ini.length n2, .slice d2 t2.length m2]) := ⟨b2, k1, k2⟩
  have HP : Hid (PV B1 w2 (.slice a1 ini.length n1) (.slice d1 t1.length m1) t1 ini l ∧ PV B2 w2 (.slice a2 ini.length n2) (.slice d2 t2.length m2) t2 ini l) := ⟨H1, H2⟩
  have z1 := k1.cell 0
  have z2 := k2.cell 0
  simp at z1 z2
  clear h1 h2 H1 H2 b2 k1 k2
  go_enter Tryd.func6, Tryd.ntmps6
  go_wp2_with (first
    | (go_at_call 16; go_must (refine ci.mono ?_; rintro e w3 ⟨rfl, hb3⟩; have k3 := HH.out.2.1.below hb3; have k4 := HH.out.2.2.below hb3; have y1 := k3.cell 1; have y2 := k4.cell 1; simp at y1 y2; have P1 := HP.out.1.below hb3; have P2 := HP.out.2.below hb3; have ct := eqInsSS hl P1.rthr P1.fam P2.rthr P2.fam; clear P1 P2 k3 k4))
    | (go_at_call 17; go_must (refine ct.mono ?_; rintro e w4 ⟨rfl, hb4⟩)))
  go_ret
  exact ⟨rfl, good_below (good_below HH.out.1 hb3) hb4⟩
end Go.Proofs.YtbkhkpdpaaphoaaDoor

namespace Go.Proofs.YtbkhkpdpaaphoaaDoor
open Go.ChangeShapes Go.WideShapes Go.ChangeAt Go.RowKit
set_option linter.unusedVariables false
set_option linter.unusedSimpArgs false

theorem blkof_own {v : Value} {b : Nat} : BlkOf v b → v.ownBlock = some b := by
  rintro ⟨n, c, rfl⟩
  rfl
theorem row_outB {B n k : Nat} {w w' : World} {v : Value} {E : TypeId} {xs : List Value} {S : Nat → Prop} (h : w.ownsRow B E k v n xs) (ho : OutS S w w') (hS : ∀ b, v.ownBlock = some b → ¬ S b) : w'.ownsRow B E k v n xs := by
  obtain ⟨h1, h2⟩ := h
  refine ⟨h1, ?_⟩
  rcases h2 with h2 | ⟨b, cap, cur, hv, hB, hg, h3⟩
  · exact .inl h2
  · refine .inr ⟨b, cap, cur, hv, hB, ?_, h3⟩
    rw [ho.block b (Array.getElem?_eq_some_iff.1 hg).1 (hS b (by rw [hv]; rfl))]
    exact hg
theorem own_apart {u v : Value} (h : u.ownBlock = none ∨ u.ownBlock ≠ v.ownBlock) : ∀ b, BlkOf u b → ¬ BlkOf v b := by
  intro b h1 h2
  rw [blkof_own h1, blkof_own h2] at h
  rcases h with h | h
  · cases h
  · exact h rfl
def upTo (l : List (List Ins)) (k : Nat) : Nat := ((l.take k).map List.length).sum
theorem upTo_succ {l : List (List Ins)} {k : Nat} (h : k < l.length) : upTo l (k + 1) = upTo l k + l[k].length := by
  unfold upTo
  rw [List.take_add_one, List.getElem?_eq_getElem h]
  simp only [List.map_append, List.sum_append, Option.toList_some, List.map_cons, List.map_nil, List.sum_cons, List.sum_nil, Nat.add_zero]
theorem upTo_le {l : List (List Ins)} (hl : l.length ≤ 4) (hc : ∀ c ∈ l, c.length ≤ 40) : ∀ k, k ≤ l.length → upTo l k ≤ 40 * k
  | 0, _ => by simp [upTo]
  | k + 1, hk => by
    rw [upTo_succ (by omega)]
    have := upTo_le hl hc k (by omega)
    have := hc l[k] (List.getElem_mem (by omega))
    omega
/-- Rows that are marked one behind the other. -/
def FamM (w : World) (ts : List Value) (l : List (List Ins)) (s : Nat) : Prop := ∀ (i : Nat) (u : Value) (c : List Ins), ts[i]? = some u → l[i]? = some c → MkdInss w u c.length (s + 10 * upTo l i)
theorem FamM.below {w w' : World} {ts : List Value} {l : List (List Ins)} {s : Nat} (h : FamM w ts l s) (hb : Below w.heap.size w w') : FamM w' ts l s := fun i u c h1 h2 => (h i u c h1 h2).below hb
theorem fam_dis {B : Nat} {w : World} {ts : List Value} {l : List (List Ins)} (f : Fam B w ts l) {i j : Nat} {u v : Value} (hne : i ≠ j) (hu : ts[i]? = some u) (hv : ts[j]? = some v) : ∀ b, BlkOf u b → ¬ BlkOf v b := by
  rcases Nat.lt_or_gt_of_ne hne with h | h
  · exact own_apart (f.dis i j u v h hu hv)
  · intro b h1 h2
    exact own_apart (f.dis j i v u h hv hu) b h2 h1
set_option maxRecDepth 100000 in
set_option maxHeartbeats 1000000 in
theorem markInsSS {B : Nat} {v : Value} {ts : List Value} {l : List (List Ins)} {w : World} (s : Nat) (hs0 : 0 < s) (hs1 : s ≤ 1000000) (hl : l.length ≤ 4) (hc : ∀ c ∈ l, c.length ≤ 40) (h : w.ownsRow B 37 1 v ts.length ts) (f : Fam B w ts l) :
    Calls Tryd.prog 19 #[v, .int .i64 s] w fun e w' => e = .returned (.int .i64 ((s + 10 * upTo l l.length : Nat) : Int)) ∧ OutS (fun b => ∃ (i : Nat) (u : Value), ts[i]? = some u ∧ BlkOf u b) w w' ∧ FamM w' ts l s ∧ w'.ownsRow B 37 1 v ts.length ts := by
  obtain ⟨a1, c1, rfl⟩ := row_shape h
  have e1 := f.len
  have hle := upTo_le hl hc
  have HF : Hid (Fam B w ts l) := f
  have HH : Hid (w.ownsRow B 37 1 (.slice a1 ts.length c1) ts.length ts) := h
  have E1 : Hid (ts.length = l.length) := e1
  have HLE : Hid (∀ k, k ≤ l.length → upTo l k ≤ 40 * k) := hle
  have HC : Hid (∀ c ∈ l, c.length ≤ 40) := hc
  have hlm : (l.length : Int) ≤ 4 := by omega
  simp only [e1] at HH ⊢
  clear h f e1 hle hc
  go_enter Tryd.func19, Tryd.ntmps19
  go_wp2
  go_loopw [1, 5] (fun i1 i5 wr => ∃ k : Nat, i1 = .int .i64 ((s + 10 * upTo l k : Nat) : Int) ∧ i5 = .int .i64 (k : Int) ∧ k ≤ l.length ∧ Hid (OutS (fun b => ∃ (i : Nat) (u : Value), ts[i]? = some u ∧ BlkOf u b) w wr) ∧ Hid (∀ (i : Nat) (u : Value) (c : List Ins), i < k → ts[i]? = some u → l[i]? = some c → MkdInss wr u c.length (s + 10 * upTo l i)) ∧ Hid (∀ (i : Nat) (u : Value) (c : List Ins), k ≤ i → ts[i]? = some u → l[i]? = some c → OwnInss B wr u c) ∧ Hid (wr.ownsRow B 37 1 (.slice a1 l.length c1) l.length ts)) (fun _ i5 _ => l.length - (intOf i5).toNat)
  case atStart => exact ⟨0, by simp [upTo], rfl, Nat.zero_le _, OutS.refl _ _, (fun i u c hi => by omega), (fun i u c _ h1 h2 => HF.out.own i u c h1 h2), HH.out⟩
  case round =>
    obtain ⟨k, rfl, rfl, hk, HO, HM, HU, HR⟩ := hrel
    by_cases hkn : k < l.length
    · have hkn' : (k : Int) < (l.length : Int) := by omega
      obtain ⟨g1, p1, ev1, -, hg1, hc1, -⟩ := row_cell HR.out (by omega)
      injection ev1 with ea1 _ ec1
      subst ea1 ec1
      obtain ⟨u, hu⟩ : ∃ u, ts[k]? = some u := ⟨_, List.getElem?_eq_getElem (by rw [E1.out]; exact hkn)⟩
      have x1 := (hc1 k hkn).1
      rw [hu] at x1
      obtain ⟨c, hck⟩ : ∃ c, l[k] = c := ⟨_, rfl⟩
      have hlk : l[k]? = some c := by rw [List.getElem?_eq_getElem hkn, hck]
      have ho := HU.out k u c (Nat.le_refl _) hu hlk
      have hsu := upTo_succ hkn
      rw [hck] at hsu
      have hle1 := HLE.out k hk
      have hc40 : c.length ≤ 40 := HC.out c (by rw [← hck]; exact List.getElem_mem hkn)
      have cm := markOwnInss (s + 10 * upTo l k) (by omega) (by omega) (by omega) ho
      have HT : Hid (s + 10 * upTo l k + 10 * c.length = s + 10 * upTo l (k + 1)) := by show _ = _; rw [hsu]; omega
      have HUC : Hid (ts[k]? = some u ∧ l[k]? = some c ∧ OwnInss B wr u c) := ⟨hu, hlk, ho⟩
      rw [HT.out] at cm
      obtain ⟨q1, r1, eu⟩ := row_shape ho
      subst eu
      obtain ⟨M, hM⟩ : ∃ M, s + 10 * upTo l k = M := ⟨_, rfl⟩
      obtain ⟨M2, hM2⟩ : ∃ M, s + 10 * upTo l (k + 1) = M := ⟨_, rfl⟩
      rw [hM, hM2] at cm
      rw [hM]
      have HMM : Hid (s + 10 * upTo l k = M ∧ s + 10 * upTo l (k + 1) = M2) := ⟨hM, hM2⟩
      clear hc1 hu hlk ho hck hsu hM hM2 hle1
      go_wp2_with (go_at_call 35; go_must (refine cm.mono ?_; rintro e w2 ⟨rfl, ho2, hm2⟩))
      refine ⟨⟨k + 1, by rw [HMM.out.2], by go_num, by omega, ?_, ?_, ?_, ?_⟩, by simp [intOf]; omega⟩
      · exact HO.out.trans (ho2.mono (fun b hb => ⟨k, _, HUC.out.1, hb⟩))
      · intro i u2 c2 hi h1 h2
        by_cases hik : i = k
        · subst hik
          rw [HUC.out.1] at h1
          rw [HUC.out.2.1] at h2
          injection h1 with h1
          injection h2 with h2
          subst h1 h2
          rw [HMM.out.1]
          exact hm2
        · exact (HM.out i u2 c2 (by omega) h1 h2).outA ho2 (fam_dis HF.out hik h1 HUC.out.1)
      · intro i u2 c2 hi h1 h2
        exact OwnInss.outA (HU.out i u2 c2 (by omega) h1 h2) ho2 (fam_dis HF.out (by omega) h1 HUC.out.1)
      · exact row_outB HR.out ho2 (fun b hb hb2 => by
          have h9 := row_apart HR.out HUC.out.2.2 (by decide)
          rw [hb, blkof_own hb2] at h9
          rcases h9 with h9 | h9
          · cases h9
          · exact h9 rfl)
    · obtain rfl : k = l.length := by omega
      have hkn' : ¬ ((l.length : Int) < (l.length : Int)) := by omega
      go_wp2_with fail
      go_ret
      exact ⟨rfl, HO.out, fun i u c h1 h2 => HM.out i u c (List.getElem?_eq_some_iff.1 h2).1 h1 h2, HR.out⟩
set_option maxRecDepth 100000 in
set_option maxHeartbeats 1000000 in
theorem heldInsSS {B : Nat} {v : Value} {ts : List Value} {l : List (List Ins)} {w : World} (s : Nat) (hs0 : 0 < s) (hs1 : s ≤ 1000000) (hl : l.length ≤ 4) (hc : ∀ c ∈ l, c.length ≤ 40) (e1 : ts.length = l.length) (h : w.ownsRow B 37 1 v ts.length ts) (f : FamM w ts l s) :
    Calls Tryd.prog 21 #[v, .int .i64 s] w fun e w' => e = .returned (.int .i64 ((s + 10 * upTo l l.length : Nat) : Int)) ∧ Below w.heap.size w w' := by
  obtain ⟨a1, c1, rfl⟩ := row_shape h
  have hle := upTo_le hl hc
  have HF : Hid (FamM w ts l s) := f
  have HH : Hid (w.ownsRow B 37 1 (.slice a1 ts.length c1) ts.length ts) := h
  have E1 : Hid (ts.length = l.length) := e1
  have HLE : Hid (∀ k, k ≤ l.length → upTo l k ≤ 40 * k) := hle
  have HC : Hid (∀ c ∈ l, c.length ≤ 40) := hc
  have hlm : (l.length : Int) ≤ 4 := by omega
  simp only [e1] at HH ⊢
  clear h f e1 hle hc
  go_enter Tryd.func21, Tryd.ntmps21
  go_wp2
  go_loopw [1, 5] (fun i1 i5 wr => ∃ k : Nat, i1 = .int .i64 ((s + 10 * upTo l k : Nat) : Int) ∧ i5 = .int .i64 (k : Int) ∧ k ≤ l.length ∧ Below w.heap.size w wr) (fun _ i5 _ => l.length - (intOf i5).toNat)
  case atStart => exact ⟨0, by simp [upTo], rfl, Nat.zero_le _, Below.refl _ _⟩
  case round =>
    obtain ⟨k, rfl, rfl, hk, hB⟩ := hrel
    by_cases hkn : k < l.length
    · have hkn' : (k : Int) < (l.length : Int) := by omega
      obtain ⟨g1, p1, ev1, -, hg1, hc1, -⟩ := row_cell (row_below HH.out hB) (by omega)
      injection ev1 with ea1 _ ec1
      subst ea1 ec1
      obtain ⟨u, hu⟩ : ∃ u, ts[k]? = some u := ⟨_, List.getElem?_eq_getElem (by rw [E1.out]; exact hkn)⟩
      have x1 := (hc1 k hkn).1
      rw [hu] at x1
      obtain ⟨c, hck⟩ : ∃ c, l[k] = c := ⟨_, rfl⟩
      have hlk : l[k]? = some c := by rw [List.getElem?_eq_getElem hkn, hck]
      have hsu := upTo_succ hkn
      rw [hck] at hsu
      have hle1 := HLE.out k hk
      have hc40 : c.length ≤ 40 := HC.out c (by rw [← hck]; exact List.getElem_mem hkn)
      have hm := HF.out.below hB k u c hu hlk
      have cm := heldInsS (m := c.length) (by omega : 0 < s + 10 * upTo l k) (by omega) (by omega) hm
      have e9 : s + 10 * upTo l k + 10 * c.length = s + 10 * upTo l (k + 1) := by rw [hsu]; omega
      rw [e9] at cm
      have hun : ∃ q1 r1, u = .slice q1 c.length r1 := by
        rcases hm with ⟨rfl, h0⟩ | ⟨g, cap, cur, rfl, _⟩
        · exact ⟨_, _, by rw [h0]⟩
        · exact ⟨_, _, rfl⟩
      obtain ⟨q1, r1, eu⟩ := hun
      subst eu
      obtain ⟨M, hM⟩ : ∃ M, s + 10 * upTo l k = M := ⟨_, rfl⟩
      obtain ⟨M2, hM2⟩ : ∃ M, s + 10 * upTo l (k + 1) = M := ⟨_, rfl⟩
      rw [hM, hM2] at cm
      rw [hM]
      have HMM : Hid (s + 10 * upTo l k = M ∧ s + 10 * upTo l (k + 1) = M2) := ⟨hM, hM2⟩
      have hM20 : ¬ ((M2 : Int) < 0) := by omega
      clear hc1 hu hlk hck hsu hM hM2 hle1 hm e9
      go_wp2_with (go_at_call 36; go_must (refine cm.mono ?_; rintro e w2 ⟨rfl, hb2⟩))
      exact ⟨⟨k + 1, by rw [HMM.out.2], by go_num, by omega, good_below hB hb2⟩, by simp [intOf]; omega⟩
    · obtain rfl : k = l.length := by omega
      have hkn' : ¬ ((l.length : Int) < (l.length : Int)) := by omega
      go_wp2_with fail
      go_ret
      exact ⟨rfl, hB⟩
/-- A program that is marked from s on. -/
structure MkP (B : Nat) (w : World) (iv tv : Value) (ts : List Value) (n : Nat) (l : List (List Ins)) (s : Nat) : Prop where
  ints : MkdNums w iv n s
  row : w.ownsRow B 37 1 tv ts.length ts
  rows : FamM w ts l (s + n)
  len : ts.length = l.length
theorem MkP.below {B : Nat} {w w' : World} {iv tv : Value} {ts : List Value} {n : Nat} {l : List (List Ins)} {s : Nat} (h : MkP B w iv tv ts n l s) (hb : Below w.heap.size w w') : MkP B w' iv tv ts n l s :=
  ⟨h.ints.below hb, row_below h.row hb, h.rows.below hb, h.len⟩
theorem mkd_shape {w : World} {v : Value} {m s : Nat} (h : MkdNums w v m s) : ∃ a c, v = .slice a m c := by
  rcases h with ⟨rfl, h0⟩ | ⟨g, cap, cur, rfl, _⟩
  · exact ⟨_, _, by rw [h0]⟩
  · exact ⟨_, _, rfl⟩
set_option maxRecDepth 100000 in
set_option maxHeartbeats 1000000 in
theorem markProg {B : Nat} {iv tv : Value} {ts : List Value} {ini : List Int} {l : List (List Ins)} {w : World} (hi : ini.length ≤ 8) (hl : l.length ≤ 4) (hc : ∀ c ∈ l, c.length ≤ 40) (hB : B ≤ w.heap.size) (h : PV B w iv tv ts ini l) :
    Calls Tryd.prog 7 #[.agg #[iv, tv], .int .i64 1] w fun e w' => e = .returned (.int .i64 ((1 + ini.length + 10 * upTo l l.length : Nat) : Int)) ∧ Below B w w' ∧ MkP B w' iv tv ts ini.length l 1 ∧ ∀ (g : Nat) (cs : Array Value), Blk w g 25 cs → Blk w' g 25 cs := by
  have b1 : Below w.heap.size w (w.alloc (.cells #[iv, tv] 25)) := (Below.refl _ w).alloc (Nat.le_refl _) _
  have k1 : Blk (w.alloc (.cells #[iv, tv] 25)) w.heap.size 25 #[iv, tv] := heap_alloc_last w _
  have H1 := h.below b1
  obtain ⟨a1, n1, rfl⟩ := row_shape h.rini
  obtain ⟨d1, m1, rfl⟩ := row_shape h.rthr
  generalize hw1 : w.alloc (.cells #[.slice a1 ini.length n1, .slice d1 ts.length m1] 25) = w1 at b1 k1 H1
  have hB1 : B ≤ w1.heap.size := Nat.le_trans hB b1.size
  have ci := markOwnNums' (w := w1) 1 (1 + ini.length) rfl (by decide) (by decide) (by omega) H1.rini
  have HP : Hid (PV B w1 (.slice a1 ini.length n1) (.slice d1 ts.length m1) ts ini l ∧ Blk w1 w.heap.size 25 #[.slice a1 ini.length n1, .slice d1 ts.length m1] ∧ Below w.heap.size w w1 ∧ B ≤ w.heap.size) := ⟨H1, k1, b1, hB⟩
  have HC : Hid (∀ c ∈ l, c.length ≤ 40) := hc
  have z1 := k1.cell 0
  simp at z1
  clear h H1 b1 k1 hc hB hB1
  go_enter Tryd.func7, Tryd.ntmps7
  go_wp2_with (first
    | (go_at_call 18; go_must (refine ci.mono ?_; rintro e w2 ⟨rfl, ho2, hm2⟩; have hni : ∀ b, BlkOf (.slice a1 ini.length n1) b → ∀ (i : Nat) (u : Value), ts[i]? = some u → ¬ BlkOf u b := (fun b h1 i u hu h2 => by (have ho := HP.out.1.fam.own i u l[i]! hu (by have h9 := (List.getElem?_eq_some_iff.1 hu).1; have h8 := HP.out.1.fam.len; rw [List.getElem?_eq_getElem (by omega)]; congr 1; rw [getElem!_pos]); have h7 := row_apart HP.out.1.rini ho (by decide); exact own_apart h7 b h1 h2)); have F2 : Fam B w2 ts l := ⟨HP.out.1.fam.len, (fun i u c h1 h2 => row_outB (HP.out.1.fam.own i u c h1 h2) ho2 (fun b hb hb2 => by (have h7 := row_apart (HP.out.1.fam.own i u c h1 h2) HP.out.1.rini (by decide); rw [hb, blkof_own hb2] at h7; rcases h7 with h7 | h7; cases h7; exact h7 rfl))), HP.out.1.fam.dis⟩; have R2 := row_outB HP.out.1.rthr ho2 (fun b hb hb2 => by (have h7 := row_apart HP.out.1.rthr HP.out.1.rini (by decide); rw [hb, blkof_own hb2] at h7; rcases h7 with h7 | h7; cases h7; exact h7 rfl)); have k2 : Blk w2 w.heap.size 25 #[.slice a1 ini.length n1, .slice d1 ts.length m1] := (ho2.block _ HP.out.2.1.lt (fun hb => by (have h7 := row_off HP.out.1.rini HP.out.2.1 (by decide); exact h7 (blkof_own hb)))).trans HP.out.2.1; have z2 := k2.cell 1; simp at z2; have cs := markInsSS (1 + ini.length) (by omega) (by omega) hl HC.out R2 F2; have HM2 : Hid (OutS (BlkOf (.slice a1 ini.length n1)) w1 w2 ∧ MkdNums w2 (.slice a1 ini.length n1) ini.length 1) := ⟨ho2, hm2⟩; have HNI : Hid _ := hni; clear k2 F2 R2 ho2 hm2 hni))
    | (go_at_call 19; go_must (refine cs.mono ?_; rintro e w3 ⟨rfl, ho3, hf3, hr3⟩)))
  go_ret
  refine ⟨rfl, ?_, ⟨?_, hr3, hf3, HP.out.1.fam.len⟩, fun g cs hg => ?_⟩
  · refine ⟨?_, ?_, ?_, ?_, ?_⟩
    · exact (ho3.os.trans HM2.out.1.os).trans HP.out.2.2.1.os
    · exact (ho3.tape.trans HM2.out.1.tape).trans HP.out.2.2.1.tape
    · exact (ho3.output.trans HM2.out.1.output).trans HP.out.2.2.1.output
    · exact Nat.le_trans HP.out.2.2.1.size (Nat.le_trans HM2.out.1.size ho3.size)
    · intro k hk
      have hkw : k < w1.heap.size := Nat.lt_of_lt_of_le hk (Nat.le_trans HP.out.2.2.2 HP.out.2.2.1.size)
      have hk2 : k < w2.heap.size := Nat.lt_of_lt_of_le hkw HM2.out.1.size
      rw [ho3.block k hk2 (fun ⟨i, u, hu, hb⟩ => by
        obtain ⟨c, hc⟩ := HP.out.1.fam.mem hu
        have := (hc.lt k (blkof_own hb)).1
        omega), HM2.out.1.block k hkw (fun hb => by
        have := (HP.out.1.rini.lt k (blkof_own hb)).1
        omega)]
      exact HP.out.2.2.1.block k (Nat.lt_of_lt_of_le hk HP.out.2.2.2)
  · exact HM2.out.2.outA ho3 (fun b hb ⟨i, u, hu, hb2⟩ => HNI.out b hb i u hu hb2)
  · have hg1 : Blk w1 g 25 cs := hg.below HP.out.2.2.1
    have hg2 : Blk w2 g 25 cs := (HM2.out.1.block g hg1.lt (fun hb => row_off HP.out.1.rini hg1 (by decide) (blkof_own hb))).trans hg1
    exact (ho3.block g hg2.lt (fun ⟨i, u, hu, hb⟩ => by
      obtain ⟨c, hc⟩ := HP.out.1.fam.mem hu
      exact row_off hc hg1 (by decide) (blkof_own hb))).trans hg2
set_option maxRecDepth 100000 in
set_option maxHeartbeats 1000000 in
theorem heldProg {B : Nat} {iv tv : Value} {ts : List Value} {n : Nat} {l : List (List Ins)} {w : World} (hi : n ≤ 8) (hl : l.length ≤ 4) (hc : ∀ c ∈ l, c.length ≤ 40) (h : MkP B w iv tv ts n l 1) :
    Calls Tryd.prog 8 #[.agg #[iv, tv], .int .i64 1] w fun e w' => e = .returned (.int .i64 ((1 + n + 10 * upTo l l.length : Nat) : Int)) ∧ Below w.heap.size w w' := by
  have b1 : Below w.heap.size w (w.alloc (.cells #[iv, tv] 25)) := (Below.refl _ w).alloc (Nat.le_refl _) _
  have k1 : Blk (w.alloc (.cells #[iv, tv] 25)) w.heap.size 25 #[iv, tv] := heap_alloc_last w _
  have H1 := h.below b1
  obtain ⟨a1, n1, rfl⟩ := mkd_shape h.ints
  obtain ⟨d1, m1, rfl⟩ := row_shape h.row
  generalize hw1 : w.alloc (.cells #[.slice a1 n n1, .slice d1 ts.length m1] 25) = w1 at b1 k1 H1
  have ci := heldIntS' (w := w1) (1 + n) rfl (by decide) (by decide) (by omega) H1.ints
  have HP : Hid (MkP B w1 (.slice a1 n n1) (.slice d1 ts.length m1) ts n l 1 ∧ Blk w1 w.heap.size 25 #[.slice a1 n n1, .slice d1 ts.length m1] ∧ Below w.heap.size w w1) := ⟨H1, k1, b1⟩
  have HC : Hid (∀ c ∈ l, c.length ≤ 40) := hc
  have z1 := k1.cell 0
  simp at z1
  have q1 : ¬ (((1 + n : Nat) : Int) < 0) := by omega
  have q2 : ¬ (((1 + n + 10 * upTo l l.length : Nat) : Int) < 0) := by omega
  clear h H1 b1 k1 hc
  go_enter Tryd.func8, Tryd.ntmps8
  go_wp2_with (first
    | (go_at_call 20; go_must (refine ci.mono ?_; rintro e w2 ⟨rfl, hb2⟩; have k2 := HP.out.2.1.below hb2; have z2 := k2.cell 1; simp at z2; have M2 := HP.out.1.below hb2; have cs := heldInsSS (1 + n) (by omega) (by omega) hl HC.out M2.len M2.row M2.rows; clear k2 M2))
    | (go_at_call 21; go_must (refine cs.mono ?_; rintro e w3 ⟨rfl, hb3⟩)))
  go_ret
  exact ⟨rfl, good_below (good_below HP.out.2.2 hb2) hb3⟩
end Go.Proofs.YtbkhkpdpaaphoaaDoor
