/-
  A program that came in, by the blocks in which it lies; programs are held against each other. No statement of the seat is proved here.
-/
import Derived.Test.YthopmdfichfhdaaGreatDoorX6
namespace Go.Proofs.YthopmdfichfhdaaGreatDoor
open Go.ChangeShapes Go.WideShapes Go.ChangeAt Go.RowKit
set_option linter.unusedVariables false
set_option linter.unusedSimpArgs false

theorem flat_at10 {f : Ins → List Value} (hf : ∀ y, (f y).length = 10) : ∀ (l : List Ins) (k j : Nat) (hj : j < 10) (hk : k < l.length), (l.flatMap f)[k * 10 + j]? = (f l[k])[j]?
  | [], k, j, hj, hk => by simp at hk
  | a :: t, 0, j, hj, hk => by
    rw [List.flatMap_cons, List.getElem?_append_left (by rw [hf]; omega)]
    simp
  | a :: t, k + 1, j, hj, hk => by
    rw [List.flatMap_cons, List.getElem?_append_right (by rw [hf]; omega), hf, show (k + 1) * 10 + j - 10 = k * 10 + j by omega, flat_at10 hf t k j hj (by simpa using hk)]
    simp
set_option maxRecDepth 100000 in
theorem eqVal (a b : Int) (w : World) : Calls Tryz.prog 64 #[.agg #[.int .i64 a, .int .i64 b], .agg #[.int .i64 a, .int .i64 b]] w fun e w' => e = .returned (.bool true) ∧ Below w.heap.size w w' := by
  go_enter Tryz.func64, Tryz.ntmps64
  go_wp2
  go_ret
  exact ⟨rfl, ((Below.refl _ w).alloc (Nat.le_refl _) _).alloc (by simp) _⟩
set_option maxRecDepth 100000 in
set_option maxHeartbeats 1000000 in
theorem eqIns (x : Ins) (w : World) : Calls Tryz.prog 48 #[insV x, insV x] w fun e w' => e = .returned (.bool true) ∧ Below w.heap.size w w' := by
  obtain ⟨op, ce, rg, ar, an, br, bn, od, cq, tg⟩ := x
  unfold insV
  dsimp only
  have k1 : Blk ((w.alloc (.cells (insC ⟨op, ce, rg, ar, an, br, bn, od, cq, tg⟩) 43)).alloc (.cells (insC ⟨op, ce, rg, ar, an, br, bn, od, cq, tg⟩) 43)) w.heap.size 43 (insC ⟨op, ce, rg, ar, an, br, bn, od, cq, tg⟩) := two1 w _ _
  have k2 : Blk ((w.alloc (.cells (insC ⟨op, ce, rg, ar, an, br, bn, od, cq, tg⟩) 43)).alloc (.cells (insC ⟨op, ce, rg, ar, an, br, bn, od, cq, tg⟩) 43)) (w.heap.size + 1) 43 (insC ⟨op, ce, rg, ar, an, br, bn, od, cq, tg⟩) := two2 w _ _
  have b2 : Below w.heap.size w ((w.alloc (.cells (insC ⟨op, ce, rg, ar, an, br, bn, od, cq, tg⟩) 43)).alloc (.cells (insC ⟨op, ce, rg, ar, an, br, bn, od, cq, tg⟩) 43)) := ((Below.refl _ w).alloc (Nat.le_refl _) _).alloc (by simp) _
  unfold insC at k1 k2 b2
  dsimp only at k1 k2 b2
  have K1 : Hid _ := k1
  have K2 : Hid _ := k2
  have B2 : Hid _ := b2
  have c1 := fun W => eqVal ar an W
  have c2 := fun W => eqVal br bn W
  clear k1 k2 b2
  go_enter Tryz.func48, Tryz.ntmps48
  go_wp2_with (first
    | (go_at_call 64; have hchk := hb3; (refine (c2 _).mono ?_; rintro e w4 ⟨rfl, hb4⟩; have hb4' := hb3.trans (hb4.mono hb3.size); have q1 := Blk.below K1.out hb4'; have q2 := Blk.below K2.out hb4'; have u7 := q1.cell 7; have u8 := q1.cell 8; have u9 := q1.cell 9; have v7 := q2.cell 7; have v8 := q2.cell 8; have v9 := q2.cell 9; simp at u7 u8 u9 v7 v8 v9))
    | (go_at_call 64; go_must (refine (c1 _).mono ?_; rintro e w3 ⟨rfl, hb3⟩; have q1 := Blk.below K1.out hb3; have q2 := Blk.below K2.out hb3; have u5 := q1.cell 5; have u6 := q1.cell 6; have v5 := q2.cell 5; have v6 := q2.cell 6; simp at u5 u6 v5 v6)))
  go_ret
  exact ⟨rfl, good_below B2.out hb4'⟩
def InssAt (S : Nat → Prop) (w : World) (v : Value) (l : List Ins) : Prop := l.length ≤ maxLen ∧ ∃ a cap, v = .slice a l.length cap ∧ (0 < l.length → ∃ b off, a = some ⟨b, off, none⟩ ∧ S b ∧ ∀ i (hi : i < l.length), w.cell? ⟨b, off + i * 10, none⟩ = some (.int .i64 (l[i]).op) ∧ w.cell? ⟨b, off + i * 10 + 1, none⟩ = some (.int .i64 (l[i]).cell) ∧ w.cell? ⟨b, off + i * 10 + 2, none⟩ = some (.int .i64 (l[i]).reg) ∧ w.cell? ⟨b, off + i * 10 + 3, none⟩ = some (.int .i64 (l[i]).ar) ∧ w.cell? ⟨b, off + i * 10 + 4, none⟩ = some (.int .i64 (l[i]).an) ∧ w.cell? ⟨b, off + i * 10 + 5, none⟩ = some (.int .i64 (l[i]).br) ∧ w.cell? ⟨b, off + i * 10 + 6, none⟩ = some (.int .i64 (l[i]).bn) ∧ w.cell? ⟨b, off + i * 10 + 7, none⟩ = some (.int .i64 (l[i]).ord) ∧ w.cell? ⟨b, off + i * 10 + 8, none⟩ = some (.int .i64 (l[i]).cnd) ∧ w.cell? ⟨b, off + i * 10 + 9, none⟩ = some (.int .i64 (l[i]).tgt))
theorem OwnInss.at {B : Nat} {w : World} {v : Value} {l : List Ins} (h : OwnInss B w v l) : InssAt (fun b => b < w.heap.size) w v l := by
  rcases h.2 with ⟨e, e0⟩ | ⟨b, cap, cur, e, hB, hg, h1, h2, h3, h4⟩
  · exact ⟨by omega, none, 0, by rw [e, e0], fun h => by omega⟩
  · refine ⟨by omega, some ⟨b, 0, none⟩, cap, e, fun _ => ⟨b, 0, rfl, (Array.getElem?_eq_some_iff.1 hg).1, fun k hk => ?_⟩⟩
    have hb : Blk w b 43 cur := hg
    have hrow : ∀ j, j < 10 → w.cell? ⟨b, 0 + k * 10 + j, none⟩ = (insC l[k])[j]? := fun j hj => by
      have hx := congrArg (fun l => l[k * 10 + j]?) h4
      simp only [List.getElem?_take] at hx
      rw [if_pos (by have := Nat.mul_le_mul_right 10 hk; omega)] at hx
      rw [Nat.zero_add, hb.cell, ← Array.getElem?_toList, hx]
      unfold InsRow
      rw [flat_at10 (fun y => rfl) l k j hj hk]
      simp
    exact ⟨hrow 0 (by omega), hrow 1 (by omega), hrow 2 (by omega), hrow 3 (by omega), hrow 4 (by omega), hrow 5 (by omega), hrow 6 (by omega), hrow 7 (by omega), hrow 8 (by omega), hrow 9 (by omega)⟩
theorem InssAt.keep {S : Nat → Prop} {w w' : World} {v : Value} {l : List Ins} (h : InssAt S w v l) (hk : ∀ b i, S b → w'.cell? ⟨b, i, none⟩ = w.cell? ⟨b, i, none⟩) : InssAt S w' v l := by
  obtain ⟨hl, a, cap, hv, h⟩ := h
  refine ⟨hl, a, cap, hv, fun h0 => ?_⟩
  obtain ⟨b, off, ha, hbB, hc⟩ := h h0
  refine ⟨b, off, ha, hbB, fun i hi => ?_⟩
  obtain ⟨c0, c1, c2, c3, c4, c5, c6, c7, c8, c9⟩ := hc i hi
  exact ⟨(hk _ _ hbB).trans c0, (hk _ _ hbB).trans c1, (hk _ _ hbB).trans c2, (hk _ _ hbB).trans c3, (hk _ _ hbB).trans c4, (hk _ _ hbB).trans c5, (hk _ _ hbB).trans c6, (hk _ _ hbB).trans c7, (hk _ _ hbB).trans c8, (hk _ _ hbB).trans c9⟩
theorem InssAt.mono {S S' : Nat → Prop} {w : World} {v : Value} {l : List Ins} (h : InssAt S w v l) (hS : ∀ b, S b → S' b) : InssAt S' w v l := by
  obtain ⟨hl, a, cap, hv, h⟩ := h
  refine ⟨hl, a, cap, hv, fun h0 => ?_⟩
  obtain ⟨b, off, ha, hbB, hc⟩ := h h0
  exact ⟨b, off, ha, hS b hbB, hc⟩
theorem InssAt.shape {S : Nat → Prop} {w : World} {v : Value} {l : List Ins} (h : InssAt S w v l) : ∃ a c, v = .slice a l.length c := by
  obtain ⟨_, a, c, hv, _⟩ := h
  exact ⟨a, c, hv⟩
theorem InssAt.cin {S : Nat → Prop} {w : World} {v : Value} {l : List Ins} (h : InssAt S w v l) : CIn w v l := by
  obtain ⟨hl, a, cap, hv, h⟩ := h
  refine ⟨a, cap, hv, fun j hj => ?_⟩
  obtain ⟨b, off, ha, hbB, hc⟩ := h (by omega)
  obtain ⟨c0, c1, c2, c3, c4, c5, c6, c7, c8, c9⟩ := hc j hj
  refine ⟨b, off, ha, fun f hf => ?_⟩
  have hg : l.getD j ins0 = l[j] := by rw [List.getD_eq_getElem?_getD, List.getElem?_eq_getElem hj]; rfl
  rw [hg]
  rcases (by omega : f = 0 ∨ f = 1 ∨ f = 2 ∨ f = 3 ∨ f = 4 ∨ f = 5 ∨ f = 6 ∨ f = 7 ∨ f = 8 ∨ f = 9) with rfl | rfl | rfl | rfl | rfl | rfl | rfl | rfl | rfl | rfl
  · exact c0
  · exact c1
  · exact c2
  · exact c3
  · exact c4
  · exact c5
  · exact c6
  · exact c7
  · exact c8
  · exact c9
/-- Rows of instructions, out of blocks of S. -/
def ThrAt (S : Nat → Prop) (w : World) (v : Value) (l : List (List Ins)) : Prop := l.length ≤ maxLen ∧ ∃ a cap, v = .slice a l.length cap ∧ (0 < l.length → ∃ b off, a = some ⟨b, off, none⟩ ∧ S b ∧ ∀ i (hi : i < l.length), ∃ x, w.cell? ⟨b, off + i, none⟩ = some x ∧ InssAt S w x l[i])
theorem ThrAt.keep {S : Nat → Prop} {w w' : World} {v : Value} {l : List (List Ins)} (h : ThrAt S w v l) (hk : ∀ b i, S b → w'.cell? ⟨b, i, none⟩ = w.cell? ⟨b, i, none⟩) : ThrAt S w' v l := by
  obtain ⟨hl, a, cap, hv, h⟩ := h
  refine ⟨hl, a, cap, hv, fun h0 => ?_⟩
  obtain ⟨b, off, ha, hbB, hc⟩ := h h0
  refine ⟨b, off, ha, hbB, fun i hi => ?_⟩
  obtain ⟨x, hx, hi2⟩ := hc i hi
  exact ⟨x, (hk _ _ hbB).trans hx, hi2.keep hk⟩
theorem ThrAt.mono {S S' : Nat → Prop} {w : World} {v : Value} {l : List (List Ins)} (h : ThrAt S w v l) (hS : ∀ b, S b → S' b) : ThrAt S' w v l := by
  obtain ⟨hl, a, cap, hv, h⟩ := h
  refine ⟨hl, a, cap, hv, fun h0 => ?_⟩
  obtain ⟨b, off, ha, hbB, hc⟩ := h h0
  refine ⟨b, off, ha, hS b hbB, fun i hi => ?_⟩
  obtain ⟨x, hx, hi2⟩ := hc i hi
  exact ⟨x, hx, hi2.mono hS⟩
theorem ThrAt.shape {S : Nat → Prop} {w : World} {v : Value} {l : List (List Ins)} (h : ThrAt S w v l) : ∃ a c, v = .slice a l.length c := by
  obtain ⟨_, a, c, hv, _⟩ := h
  exact ⟨a, c, hv⟩
theorem NumsAt.nin {S : Nat → Prop} {w : World} {v : Value} {l : List Int} (h : NumsAt S w v l) : NIn w v l := by
  obtain ⟨hl, a, cap, hv, h⟩ := h
  refine ⟨a, cap, hv, fun j hj => ?_⟩
  obtain ⟨b, off, ha, hbB, hc⟩ := h (by omega)
  refine ⟨b, off, ha, ?_⟩
  have hg : l.getD j 0 = l[j] := by rw [List.getD_eq_getElem?_getD, List.getElem?_eq_getElem hj]; rfl
  rw [hg]
  exact hc j hj
/-- A program, out of blocks of S. -/
structure PAt (S : Nat → Prop) (w : World) (iv tv : Value) (ini : List Int) (thr : List (List Ins)) : Prop where
  i : NumsAt S w iv ini
  t : ThrAt S w tv thr
theorem PAt.keep {S : Nat → Prop} {w w' : World} {iv tv : Value} {ini : List Int} {thr : List (List Ins)} (h : PAt S w iv tv ini thr) (hk : ∀ b i, S b → w'.cell? ⟨b, i, none⟩ = w.cell? ⟨b, i, none⟩) : PAt S w' iv tv ini thr := ⟨h.i.keep hk, h.t.keep hk⟩
theorem PAt.mono {S S' : Nat → Prop} {w : World} {iv tv : Value} {ini : List Int} {thr : List (List Ins)} (h : PAt S w iv tv ini thr) (hS : ∀ b, S b → S' b) : PAt S' w iv tv ini thr := ⟨h.i.mono hS, h.t.mono hS⟩
theorem PAt.pin {S : Nat → Prop} {w : World} {iv tv : Value} {ini : List Int} {thr : List (List Ins)} (h : PAt S w iv tv ini thr) : PIn w iv tv ini thr := by
  obtain ⟨h1, hl, a, cap, hv, h⟩ := h
  refine ⟨h1.nin, a, cap, hv, fun j hj => ?_⟩
  obtain ⟨b, off, ha, hbB, hc⟩ := h (by omega)
  obtain ⟨x, hx, hi⟩ := hc j hj
  have hg : thr.getD j [] = thr[j] := by rw [List.getD_eq_getElem?_getD, List.getElem?_eq_getElem hj]; rfl
  exact ⟨b, off, x, ha, hx, by rw [hg]; exact hi.cin⟩
theorem PAt.below {w w' : World} {iv tv : Value} {ini : List Int} {thr : List (List Ins)} {S : Nat → Prop} (h : PAt S w iv tv ini thr) (hS : ∀ b, S b → b < w.heap.size) (hb : Below w.heap.size w w') : PAt S w' iv tv ini thr := h.keep (cells_below hS hb)
set_option maxRecDepth 100000 in
set_option maxHeartbeats 1000000 in
theorem eqInsS {S1 S2 : Nat → Prop} {v1 v2 : Value} {l : List Ins} {w : World} (hS1 : ∀ b, S1 b → b < w.heap.size) (hS2 : ∀ b, S2 b → b < w.heap.size) (h1 : InssAt S1 w v1 l) (h2 : InssAt S2 w v2 l) :
    Calls Tryz.prog 36 #[v1, v2] w fun e w' => e = .returned (.bool true) ∧ Below w.heap.size w w' := by
  obtain ⟨hlm, a1, c1, rfl, q1⟩ := h1
  obtain ⟨_, a2, c2, rfl, q2⟩ := h2
  have Q1 : Hid _ := q1
  have Q2 : Hid _ := q2
  have hlm' : (l.length : Int) ≤ 9223372036854775807 := by simp [maxLen] at hlm; omega
  clear q1 q2 hlm
  go_enter Tryz.func36, Tryz.ntmps36
  go_wp2
  go_loopw [5] (fun i5 wr => ∃ k : Nat, i5 = .int .i64 (k : Int) ∧ k ≤ l.length ∧ Below w.heap.size w wr) (fun i5 _ => l.length - (intOf i5).toNat)
  case atStart => exact ⟨0, rfl, by omega, Below.refl _ _⟩
  case round =>
    obtain ⟨k, rfl, hk, hB⟩ := hrel
    by_cases hkn : k < l.length
    · have hkn' : (k : Int) < (l.length : Int) := by omega
      obtain ⟨b1, o1, rfl, hb1, hc1⟩ := Q1.out (by omega)
      obtain ⟨b2, o2, rfl, hb2, hc2⟩ := Q2.out (by omega)
      obtain ⟨x_0, x_1, x_2, x_3, x_4, x_5, x_6, x_7, x_8, x_9⟩ := hc1 k hkn
      obtain ⟨y_0, y_1, y_2, y_3, y_4, y_5, y_6, y_7, y_8, y_9⟩ := hc2 k hkn
      obtain ⟨x, hx⟩ : ∃ x, l[k] = x := ⟨_, rfl⟩
      rw [hx] at x_0 x_1 x_2 x_3 x_4 x_5 x_6 x_7 x_8 x_9 y_0 y_1 y_2 y_3 y_4 y_5 y_6 y_7 y_8 y_9
      have ce := eqIns x
      obtain ⟨op, ce1, rg, ar, an, br, bn, od, cq, tg⟩ := x
      dsimp only at x_0 x_1 x_2 x_3 x_4 x_5 x_6 x_7 x_8 x_9 y_0 y_1 y_2 y_3 y_4 y_5 y_6 y_7 y_8 y_9
      unfold insV at ce
      dsimp only at ce
      clear hx hc1 hc2
      have p0 := fun N : GoodW (fun W => Below w.heap.size w W) => (N.ok.cell (p := ⟨b1, o1 + k * 10, none⟩) (hS1 _ hb1)).trans x_0
      have r0 := fun N : GoodW (fun W => Below w.heap.size w W) => (N.ok.cell (p := ⟨b2, o2 + k * 10, none⟩) (hS2 _ hb2)).trans y_0
      have p1 := fun N : GoodW (fun W => Below w.heap.size w W) => (N.ok.cell (p := ⟨b1, o1 + k * 10 + 1, none⟩) (hS1 _ hb1)).trans x_1
      have r1 := fun N : GoodW (fun W => Below w.heap.size w W) => (N.ok.cell (p := ⟨b2, o2 + k * 10 + 1, none⟩) (hS2 _ hb2)).trans y_1
      have p2 := fun N : GoodW (fun W => Below w.heap.size w W) => (N.ok.cell (p := ⟨b1, o1 + k * 10 + 2, none⟩) (hS1 _ hb1)).trans x_2
      have r2 := fun N : GoodW (fun W => Below w.heap.size w W) => (N.ok.cell (p := ⟨b2, o2 + k * 10 + 2, none⟩) (hS2 _ hb2)).trans y_2
      have p3 := fun N : GoodW (fun W => Below w.heap.size w W) => (N.ok.cell (p := ⟨b1, o1 + k * 10 + 3, none⟩) (hS1 _ hb1)).trans x_3
      have r3 := fun N : GoodW (fun W => Below w.heap.size w W) => (N.ok.cell (p := ⟨b2, o2 + k * 10 + 3, none⟩) (hS2 _ hb2)).trans y_3
      have p4 := fun N : GoodW (fun W => Below w.heap.size w W) => (N.ok.cell (p := ⟨b1, o1 + k * 10 + 4, none⟩) (hS1 _ hb1)).trans x_4
      have r4 := fun N : GoodW (fun W => Below w.heap.size w W) => (N.ok.cell (p := ⟨b2, o2 + k * 10 + 4, none⟩) (hS2 _ hb2)).trans y_4
      have p5 := fun N : GoodW (fun W => Below w.heap.size w W) => (N.ok.cell (p := ⟨b1, o1 + k * 10 + 5, none⟩) (hS1 _ hb1)).trans x_5
      have r5 := fun N : GoodW (fun W => Below w.heap.size w W) => (N.ok.cell (p := ⟨b2, o2 + k * 10 + 5, none⟩) (hS2 _ hb2)).trans y_5
      have p6 := fun N : GoodW (fun W => Below w.heap.size w W) => (N.ok.cell (p := ⟨b1, o1 + k * 10 + 6, none⟩) (hS1 _ hb1)).trans x_6
      have r6 := fun N : GoodW (fun W => Below w.heap.size w W) => (N.ok.cell (p := ⟨b2, o2 + k * 10 + 6, none⟩) (hS2 _ hb2)).trans y_6
      have p7 := fun N : GoodW (fun W => Below w.heap.size w W) => (N.ok.cell (p := ⟨b1, o1 + k * 10 + 7, none⟩) (hS1 _ hb1)).trans x_7
      have r7 := fun N : GoodW (fun W => Below w.heap.size w W) => (N.ok.cell (p := ⟨b2, o2 + k * 10 + 7, none⟩) (hS2 _ hb2)).trans y_7
      have p8 := fun N : GoodW (fun W => Below w.heap.size w W) => (N.ok.cell (p := ⟨b1, o1 + k * 10 + 8, none⟩) (hS1 _ hb1)).trans x_8
      have r8 := fun N : GoodW (fun W => Below w.heap.size w W) => (N.ok.cell (p := ⟨b2, o2 + k * 10 + 8, none⟩) (hS2 _ hb2)).trans y_8
      have p9 := fun N : GoodW (fun W => Below w.heap.size w W) => (N.ok.cell (p := ⟨b1, o1 + k * 10 + 9, none⟩) (hS1 _ hb1)).trans x_9
      have r9 := fun N : GoodW (fun W => Below w.heap.size w W) => (N.ok.cell (p := ⟨b2, o2 + k * 10 + 9, none⟩) (hS2 _ hb2)).trans y_9
      clear x_0 x_1 x_2 x_3 x_4 x_5 x_6 x_7 x_8 x_9 y_0 y_1 y_2 y_3 y_4 y_5 y_6 y_7 y_8 y_9
      go_wp2_with fail
      haveI ne : Nonempty (GoodW (fun W => Below w.heap.size w W)) := ⟨⟨_, hB⟩⟩
      refine wp_region_calm (fun W => Below w.heap.size w W) (by kernel_rfl) (by kernel_rfl) hB.drew ?_
      repeat (go_big_quiet_step ((go_at_call 48; exact Calls.calm _ (fun w2 hb => good_below (GoodW.ok _) hb) (ce _))))
      refine wpQuiet_nil ?_
      rintro _ ⟨⟨W2, hW2⟩, rfl⟩
      go_wp2_with fail
      go_roundw
      case rel => exact ⟨k + 1, by go_num, by omega, hW2⟩
      case measure => simp [intOf]; omega
    · have hkn' : ¬ ((k : Int) < (l.length : Int)) := by omega
      go_wp2_with fail
      go_ret
      exact ⟨rfl, hB⟩
set_option maxRecDepth 100000 in
set_option maxHeartbeats 1000000 in
theorem eqInsSS {S1 S2 : Nat → Prop} {v1 v2 : Value} {l : List (List Ins)} {w : World} (hS1 : ∀ b, S1 b → b < w.heap.size) (hS2 : ∀ b, S2 b → b < w.heap.size) (h1 : ThrAt S1 w v1 l) (h2 : ThrAt S2 w v2 l) :
    Calls Tryz.prog 20 #[v1, v2] w fun e w' => e = .returned (.bool true) ∧ Below w.heap.size w w' := by
  obtain ⟨hlm, a1, c1, rfl, q1⟩ := h1
  obtain ⟨_, a2, c2, rfl, q2⟩ := h2
  have Q1 : Hid _ := q1
  have Q2 : Hid _ := q2
  have hlm' : (l.length : Int) ≤ 9223372036854775807 := by simp [maxLen] at hlm; omega
  clear q1 q2 hlm
  go_enter Tryz.func20, Tryz.ntmps20
  go_wp2
  go_loopw [5] (fun i5 wr => ∃ k : Nat, i5 = .int .i64 (k : Int) ∧ k ≤ l.length ∧ Below w.heap.size w wr) (fun i5 _ => l.length - (intOf i5).toNat)
  case atStart => exact ⟨0, rfl, by omega, Below.refl _ _⟩
  case round =>
    obtain ⟨k, rfl, hk, hB⟩ := hrel
    by_cases hkn : k < l.length
    · have hkn' : (k : Int) < (l.length : Int) := by omega
      obtain ⟨b1, o1, rfl, hb1, hc1⟩ := Q1.out (by omega)
      obtain ⟨b2, o2, rfl, hb2, hc2⟩ := Q2.out (by omega)
      obtain ⟨u1, x1, y1⟩ := hc1 k hkn
      obtain ⟨u2, x2, y2⟩ := hc2 k hkn
      have ce : ∀ N : GoodW (fun W => Below w.heap.size w W), Calls Tryz.prog 36 #[u1, u2] N.W fun e w' => e = .returned (.bool true) ∧ Below N.W.heap.size N.W w' := fun N => eqInsS (fun b hb => Nat.lt_of_lt_of_le (hS1 b hb) N.ok.size) (fun b hb => Nat.lt_of_lt_of_le (hS2 b hb) N.ok.size) (y1.keep (cells_below hS1 N.ok)) (y2.keep (cells_below hS2 N.ok))
      obtain ⟨q1, r1, rfl⟩ := y1.shape
      obtain ⟨q2, r2, rfl⟩ := y2.shape
      have p0 := fun N : GoodW (fun W => Below w.heap.size w W) => (N.ok.cell (p := ⟨b1, o1 + k, none⟩) (hS1 _ hb1)).trans x1
      have r0 := fun N : GoodW (fun W => Below w.heap.size w W) => (N.ok.cell (p := ⟨b2, o2 + k, none⟩) (hS2 _ hb2)).trans x2
      clear x1 x2 y1 y2 hc1 hc2
      go_wp2_with fail
      haveI ne : Nonempty (GoodW (fun W => Below w.heap.size w W)) := ⟨⟨_, hB⟩⟩
      refine wp_region_calm (fun W => Below w.heap.size w W) (by kernel_rfl) (by kernel_rfl) hB.drew ?_
      repeat (go_big_quiet_step ((go_at_call 36; exact Calls.calm _ (fun w2 hb => good_below (GoodW.ok _) hb) (ce _))))
      refine wpQuiet_nil ?_
      rintro _ ⟨⟨W2, hW2⟩, rfl⟩
      go_wp2_with fail
      go_roundw
      case rel => exact ⟨k + 1, by go_num, by omega, hW2⟩
      case measure => simp [intOf]; omega
    · have hkn' : ¬ ((k : Int) < (l.length : Int)) := by omega
      go_wp2_with fail
      go_ret
      exact ⟨rfl, hB⟩
set_option maxRecDepth 100000 in
set_option maxHeartbeats 1000000 in
theorem eqProg {S1 S2 : Nat → Prop} {i1 i2 v1 v2 : Value} {ini : List Int} {l : List (List Ins)} {w : World} (hS1 : ∀ b, S1 b → b < w.heap.size) (hS2 : ∀ b, S2 b → b < w.heap.size) (h1 : PAt S1 w i1 v1 ini l) (h2 : PAt S2 w i2 v2 ini l) :
    Calls Tryz.prog 9 #[.agg #[i1, v1], .agg #[i2, v2]] w fun e w' => e = .returned (.bool true) ∧ Below w.heap.size w w' := by
  have b2 : Below w.heap.size w ((w.alloc (.cells #[i1, v1] 30)).alloc (.cells #[i2, v2] 30)) := ((Below.refl _ w).alloc (Nat.le_refl _) _).alloc (by simp) _
  have k1 : Blk ((w.alloc (.cells #[i1, v1] 30)).alloc (.cells #[i2, v2] 30)) w.heap.size 30 #[i1, v1] := two1 w _ _
  have k2 : Blk ((w.alloc (.cells #[i1, v1] 30)).alloc (.cells #[i2, v2] 30)) (w.heap.size + 1) 30 #[i2, v2] := two2 w _ _
  have H1 := h1.below hS1 b2
  have H2 := h2.below hS2 b2
  obtain ⟨a1, n1, rfl⟩ := h1.i.shape
  obtain ⟨a2, n2, rfl⟩ := h2.i.shape
  obtain ⟨d1, m1, rfl⟩ := h1.t.shape
  obtain ⟨d2, m2, rfl⟩ := h2.t.shape
  generalize hw2 : (w.alloc (.cells #[.slice a1 ini.length n1, .slice d1 l.length m1] 30)).alloc (.cells #[.slice a2 ini.length n2, .slice d2 l.length m2] 30) = w2 at b2 k1 k2 H1 H2
  have HS1 : Hid (∀ b, S1 b → b < w2.heap.size) := fun b hb => Nat.lt_of_lt_of_le (hS1 b hb) b2.size
  have HS2 : Hid (∀ b, S2 b → b < w2.heap.size) := fun b hb => Nat.lt_of_lt_of_le (hS2 b hb) b2.size
  have ci := eqIntS (w := w2) HS1.out HS2.out H1.i H2.i
  have HH : Hid (Below w.heap.size w w2 ∧ Blk w2 w.heap.size 30 #[.slice a1 ini.length n1, .slice d1 l.length m1] ∧ Blk w2 (w.heap.size + 1) 30 #[.slice a2 ini.length n2, .slice d2 l.length m2]) := ⟨b2, k1, k2⟩
  have HP : Hid (ThrAt S1 w2 (.slice d1 l.length m1) l ∧ ThrAt S2 w2 (.slice d2 l.length m2) l) := ⟨H1.t, H2.t⟩
  have z1 := k1.cell 0
  have z2 := k2.cell 0
  simp at z1 z2
  clear h1 h2 H1 H2 b2 k1 k2 hS1 hS2
  go_enter Tryz.func9, Tryz.ntmps9
  go_wp2_with (first
    | (go_at_call 19; go_must (refine ci.mono ?_; rintro e w3 ⟨rfl, hb3⟩; have k3 := HH.out.2.1.below hb3; have k4 := HH.out.2.2.below hb3; have y1 := k3.cell 1; have y2 := k4.cell 1; simp at y1 y2; have ct := eqInsSS (w := w3) (fun b hb => Nat.lt_of_lt_of_le (HS1.out b hb) hb3.size) (fun b hb => Nat.lt_of_lt_of_le (HS2.out b hb) hb3.size) (HP.out.1.keep (cells_below HS1.out hb3)) (HP.out.2.keep (cells_below HS2.out hb3))))
    | (go_at_call 20; go_must (refine ct.mono ?_; rintro e w4 ⟨rfl, hb4⟩)))
  go_ret
  exact ⟨rfl, good_below (good_below HH.out.1 hb3) hb4⟩

end Go.Proofs.YthopmdfichfhdaaGreatDoor
