/-
  A program that comes in is opened. No statement of the seat is proved here.
-/
import Derived.Test.YthopmdfichfhdaaGreatDoorE7
import Derived.Test.YthopmdfichfhdaaGreatDoorM5
import Derived.Deep.Slices
import Derived.ChangeSlices
namespace Go.Proofs.YthopmdfichfhdaaGreatDoor
open Go.ChangeShapes Go.WideShapes Go.ChangeAt Go.RowKit
set_option linter.unusedVariables false
set_option linter.unusedSimpArgs false

theorem list_of {α : Type} (n : Nat) (P : Nat → α → Prop) (h : ∀ i, i < n → ∃ x, P i x) : ∃ l : List α, l.length = n ∧ ∀ i (hi : i < l.length), P i l[i] := by
  induction n with
  | zero => exact ⟨[], rfl, fun i hi => by simp at hi⟩
  | succ n ih =>
    obtain ⟨l, h1, h2⟩ := ih (fun i hi => h i (by omega))
    obtain ⟨x, hx⟩ := h n (by omega)
    refine ⟨l ++ [x], by simp [h1], fun i hi => ?_⟩
    by_cases e : i < l.length
    · rw [List.getElem_append_left e]
      exact h2 i e
    · have e2 : i = l.length := by simp at hi; omega
      subst e2
      rw [List.getElem_append_right (Nat.le_refl _)]
      simp only [Nat.sub_self, List.getElem_cons_zero]
      rw [h1]
      exact hx
theorem addP (b o i : Nat) : (⟨b, o, none⟩ : Addr).add i = ⟨b, o + i, none⟩ := by unfold Addr.add; split <;> simp_all
section
variable {H : Type} {enc : TypeId × Value → H} {w : World} {base : Nat} {spare : Nat → Bool} {held : Bool}
/-- A slice of elements of k cells, opened. -/
theorem open_any {t e : TypeId} {k : Nat} {fuel : Nat} {cs : List Value} {x : DataW H × List MemPlace} (ht : Tryz.prog.underlying t = some (.slice e)) (ce : Tryz.prog.cellsOf e = k) (hk : 0 < k)
    (h : DataW.trod enc Tryz.prog w base spare held fuel t cs = some x) :
    ∃ (a : Option Addr) (len cap n : Nat), cs = [.slice a len cap] ∧ len ≤ maxLen ∧
      ∀ i, i < len → ∃ b off, a = some ⟨b, off, none⟩ ∧ b < w.heap.size ∧ ∃ (vs : List Value) (y : DataW H × List MemPlace), vs.length = k ∧ (∀ j, j < k → w.cell? ⟨b, off + i * k + j, none⟩ = vs[j]?) ∧ DataW.trod enc Tryz.prog w base spare held n e vs = some y := by
  rcases Deep.open_slice ht h with ⟨rfl, _⟩ | ⟨a, len, cap, m, n, D, Pl, rfl, hb, hl, hm, hmm, rfl, hx⟩
  · exact ⟨none, 0, 0, 0, rfl, Nat.zero_le _, fun i hi => by omega⟩
  have hlm : len ≤ m := by rw [hmm]; split <;> omega
  refine ⟨some a, len, cap, n, rfl, by omega, fun i hi => ?_⟩
  obtain ⟨cs', h1, h2⟩ := hx i (by omega)
  rw [ce] at h1
  obtain ⟨_, hlen, hcell⟩ := World.cells?_some h1
  have hsp : a.spot = none := by
    obtain ⟨cs0, h10, _⟩ := hx 0 (by omega)
    rw [ce] at h10
    obtain ⟨_, hlen0, hcell0⟩ := World.cells?_some h10
    have e0 := hcell0 0 (by omega)
    rw [List.getElem?_eq_getElem (by omega)] at e0
    have := World.cell?_spot e0
    simpa [Addr.add] using this
  obtain ⟨b, off, spot⟩ := a
  have hspot : spot = none := hsp
  subst hspot
  have hc : ∀ j, j < k → w.cell? ⟨b, off + i * k + j, none⟩ = cs'[j]? := fun j hj => by have := hcell j hj; rwa [addP, addP] at this
  refine ⟨b, off, rfl, ?_, cs', _, hlen, hc, h2⟩
  have e0 := hc 0 hk
  rw [List.getElem?_eq_getElem (by omega)] at e0
  exact World.block_lt_of_cell? _ _ e0
set_option maxRecDepth 100000 in
theorem openVal {fuel : Nat} {cs : List Value} {x : DataW H × List MemPlace} (h : DataW.trod enc Tryz.prog w base spare held fuel 71 cs = some x) :
    ∃ r n, cs = [.int .i64 r, .int .i64 n] ∧ i64B r ∧ i64B n := by
  obtain ⟨y0, y1, n, rfl, hl, t0, t1⟩ := trod_struct2 Tryz.underlying71 h
  have ce : Tryz.prog.cellsOf 71 = 2 := by kernel_rfl
  have c3 : Tryz.prog.cellsOf 3 = 1 := by kernel_rfl
  rw [ce] at hl
  match cs, hl with
  | [v0, v1], _ =>
    simp [c3] at t0 t1
    obtain ⟨s0, q0, _, f0⟩ := DataW.trod_int Tryz.underlying3 t0
    obtain ⟨s1, q1, _, f1⟩ := DataW.trod_int Tryz.underlying3 t1
    simp at q0 q1
    subst q0 q1
    exact ⟨s0, s1, rfl, bounds_i64 f0, bounds_i64 f1⟩
set_option maxRecDepth 100000 in
set_option maxHeartbeats 1000000 in
theorem openIns {fuel : Nat} {cs : List Value} {x : DataW H × List MemPlace} (h : DataW.trod enc Tryz.prog w base spare held fuel 73 cs = some x) :
    ∃ y : Ins, cs = (insC y).toList ∧ Ins64 y := by
  obtain ⟨xs, k, hk, hxy, hlen, hxl, hf⟩ := DataW.trod_struct Tryz.underlying73 h
  have ce : Tryz.prog.cellsOf 73 = 10 := by kernel_rfl
  have c3 : Tryz.prog.cellsOf 3 = 1 := by kernel_rfl
  have c2 : Tryz.prog.cellsOf 71 = 2 := by kernel_rfl
  rw [ce] at hlen
  match xs, hxl, cs, hlen with
  | [y0, y1, y2, y3, y4, y5, y6, y7], _, [v0, v1, v2, v3, v4, v5, v6, v7, v8, v9], _ =>
    have g0 := hf 0 _ rfl
    have g1 := hf 1 _ rfl
    have g2 := hf 2 _ rfl
    have g3 := hf 3 _ rfl
    have g4 := hf 4 _ rfl
    have g5 := hf 5 _ rfl
    have g6 := hf 6 _ rfl
    have g7 := hf 7 _ rfl
    simp [c3, c2] at g0 g1 g2 g3 g4 g5 g6 g7
    obtain ⟨s0, q0, _, f0⟩ := DataW.trod_int Tryz.underlying3 g0
    obtain ⟨s1, q1, _, f1⟩ := DataW.trod_int Tryz.underlying3 g1
    obtain ⟨s2, q2, _, f2⟩ := DataW.trod_int Tryz.underlying3 g2
    obtain ⟨s3, s4, q3, f3, f4⟩ := openVal g3
    obtain ⟨s5, s6, q4, f5, f6⟩ := openVal g4
    obtain ⟨s7, q5, _, f7⟩ := DataW.trod_int Tryz.underlying3 g5
    obtain ⟨s8, q6, _, f8⟩ := DataW.trod_int Tryz.underlying3 g6
    obtain ⟨s9, q7, _, f9⟩ := DataW.trod_int Tryz.underlying3 g7
    simp at q0 q1 q2 q3 q4 q5 q6 q7
    obtain ⟨q3a, q3b⟩ := q3
    obtain ⟨q4a, q4b⟩ := q4
    subst q0 q1 q2 q3a q3b q4a q4b q5 q6 q7
    exact ⟨⟨s0, s1, s2, s3, s4, s5, s6, s7, s8, s9⟩, rfl, ⟨bounds_i64 f0, bounds_i64 f1, bounds_i64 f2, f3, f4, f5, f6, bounds_i64 f7, bounds_i64 f8, bounds_i64 f9⟩⟩
set_option maxRecDepth 100000 in
theorem openInss {fuel : Nat} {cs : List Value} {x : DataW H × List MemPlace} (h : DataW.trod enc Tryz.prog w base spare held fuel 54 cs = some x) :
    ∃ v l, cs = [v] ∧ InssAt (fun b => b < w.heap.size) w v l ∧ ∀ y ∈ l, Ins64 y := by
  obtain ⟨a, len, cap, n, rfl, hlm, hall⟩ := open_any (k := 10) Tryz.underlying54 (by kernel_rfl) (by omega) h
  obtain ⟨l, hl, hr⟩ := list_of len (fun i (y : Ins) => Ins64 y ∧ ∃ b off, a = some ⟨b, off, none⟩ ∧ b < w.heap.size ∧ ∀ j, j < 10 → w.cell? ⟨b, off + i * 10 + j, none⟩ = (insC y)[j]?) (fun i hi => by
    obtain ⟨b, off, e, hb, vs, y, hv, hc, ht⟩ := hall i hi
    obtain ⟨z, hz, h64⟩ := openIns ht
    refine ⟨z, h64, b, off, e, hb, fun j hj => ?_⟩
    rw [hc j hj, hz, Array.getElem?_toList])
  refine ⟨_, l, rfl, ⟨by omega, a, cap, by rw [hl], fun h0 => ?_⟩, fun y hy => ?_⟩
  · obtain ⟨_, b, off, rfl, hb, _⟩ := hr 0 h0
    refine ⟨b, off, rfl, hb, fun i hi => ?_⟩
    obtain ⟨_, b', off', he, _, hc⟩ := hr i hi
    simp at he
    obtain ⟨rfl, rfl⟩ := he
    exact ⟨hc 0 (by omega), hc 1 (by omega), hc 2 (by omega), hc 3 (by omega), hc 4 (by omega), hc 5 (by omega), hc 6 (by omega), hc 7 (by omega), hc 8 (by omega), hc 9 (by omega)⟩
  · obtain ⟨i, hi, rfl⟩ := List.getElem_of_mem hy
    exact (hr i hi).1
set_option maxRecDepth 100000 in
theorem openThr {fuel : Nat} {cs : List Value} {x : DataW H × List MemPlace} (h : DataW.trod enc Tryz.prog w base spare held fuel 23 cs = some x) :
    ∃ v l, cs = [v] ∧ ThrAt (fun b => b < w.heap.size) w v l ∧ ∀ c ∈ l, ∀ y ∈ c, Ins64 y := by
  obtain ⟨a, len, cap, n, rfl, hlm, hall⟩ := open_any (k := 1) Tryz.underlying23 (by kernel_rfl) (by omega) h
  obtain ⟨l, hl, hr⟩ := list_of len (fun i (c : List Ins) => (∀ y ∈ c, Ins64 y) ∧ ∃ b off, a = some ⟨b, off, none⟩ ∧ b < w.heap.size ∧ ∃ v, w.cell? ⟨b, off + i, none⟩ = some v ∧ InssAt (fun b => b < w.heap.size) w v c) (fun i hi => by
    obtain ⟨b, off, e, hb, vs, y, hv, hc, ht⟩ := hall i hi
    obtain ⟨v, c, hz, hA, h64⟩ := openInss ht
    refine ⟨c, h64, b, off, e, hb, v, ?_, hA⟩
    have := hc 0 (by omega)
    rw [hz, Nat.mul_one, Nat.add_zero] at this
    exact this)
  refine ⟨_, l, rfl, ⟨by omega, a, cap, by rw [hl], fun h0 => ?_⟩, fun y hy => ?_⟩
  · obtain ⟨_, b, off, rfl, hb, _⟩ := hr 0 h0
    refine ⟨b, off, rfl, hb, fun i hi => ?_⟩
    obtain ⟨_, b', off', he, _, v, hc, hA⟩ := hr i hi
    simp at he
    obtain ⟨rfl, rfl⟩ := he
    exact ⟨v, hc, hA⟩
  · obtain ⟨i, hi, rfl⟩ := List.getElem_of_mem hy
    exact (hr i hi).1
set_option maxRecDepth 100000 in
theorem openNums {fuel : Nat} {cs : List Value} {x : DataW H × List MemPlace} (h : DataW.trod enc Tryz.prog w base spare held fuel 22 cs = some x) :
    ∃ v l, cs = [v] ∧ NumsAt (fun b => b < w.heap.size) w v l ∧ ∀ y ∈ l, i64B y := by
  obtain ⟨a, len, cap, n, rfl, hlm, hall⟩ := open_any (k := 1) Tryz.underlying22 (by kernel_rfl) (by omega) h
  obtain ⟨l, hl, hr⟩ := list_of len (fun i (y : Int) => i64B y ∧ ∃ b off, a = some ⟨b, off, none⟩ ∧ b < w.heap.size ∧ w.cell? ⟨b, off + i, none⟩ = some (.int .i64 y)) (fun i hi => by
    obtain ⟨b, off, e, hb, vs, y, hv, hc, ht⟩ := hall i hi
    obtain ⟨s, q, _, f⟩ := DataW.trod_int Tryz.underlying3 ht
    refine ⟨s, bounds_i64 f, b, off, e, hb, ?_⟩
    have := hc 0 (by omega)
    rw [q, Nat.mul_one, Nat.add_zero] at this
    exact this)
  refine ⟨_, l, rfl, ⟨by omega, a, cap, by rw [hl], fun h0 => ?_⟩, fun y hy => ?_⟩
  · obtain ⟨_, b, off, rfl, hb, _⟩ := hr 0 h0
    refine ⟨b, off, rfl, hb, fun i hi => ?_⟩
    obtain ⟨_, b', off', he, _, hc⟩ := hr i hi
    simp at he
    obtain ⟨rfl, rfl⟩ := he
    exact hc
  · obtain ⟨i, hi, rfl⟩ := List.getElem_of_mem hy
    exact (hr i hi).1
set_option maxRecDepth 100000 in
theorem openProg {fuel : Nat} {cs : List Value} {x : DataW H × List MemPlace} (h : DataW.trod enc Tryz.prog w base spare held fuel 25 cs = some x) :
    ∃ iv tv ini thr, cs = [iv, tv] ∧ PAt (fun b => b < w.heap.size) w iv tv ini thr ∧ P64 ini thr := by
  obtain ⟨y0, y1, n, rfl, hl, t0, t1⟩ := trod_struct2 Tryz.underlying25 h
  have ce : Tryz.prog.cellsOf 25 = 2 := by kernel_rfl
  have c1 : Tryz.prog.cellsOf 22 = 1 := by kernel_rfl
  have c2 : Tryz.prog.cellsOf 23 = 1 := by kernel_rfl
  rw [ce] at hl
  match cs, hl with
  | [v0, v1], _ =>
    simp [c1, c2] at t0 t1
    obtain ⟨iv, ini, q0, hI, h64⟩ := openNums t0
    obtain ⟨tv, thr, q1, hT, hx⟩ := openThr t1
    simp at q0 q1
    subst q0 q1
    exact ⟨v0, v1, ini, thr, rfl, ⟨hI, hT⟩, ⟨h64, hx⟩⟩
end
theorem specOkC : OkC 6 := fun S iv tv ini thr w hS h hl h64 hT => specProgOK w h.pin (by have := hl.i; omega) (by have := hl.t; omega) (fun c hc => by have := hl.c c hc; omega)
theorem specTextC : TextC 10 := fun S iv tv ini thr w hS h hl h64 hT => specProgText w h.pin (by have := hl.i; omega) (by have := hl.t; omega) (fun c hc => by have := hl.c c hc; omega) h64.n h64.x
end Go.Proofs.YthopmdfichfhdaaGreatDoor
