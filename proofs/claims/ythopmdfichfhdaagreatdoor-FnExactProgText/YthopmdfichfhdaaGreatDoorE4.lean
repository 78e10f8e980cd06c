/-
  The copies of a program. No statement of the seat is proved here.
-/
import Derived.Test.YthopmdfichfhdaaGreatDoorE3
namespace Go.Proofs.YthopmdfichfhdaaGreatDoor
open Go.ChangeShapes Go.WideShapes Go.ChangeAt Go.RowKit
set_option linter.unusedVariables false
set_option linter.unusedSimpArgs false

/-- A row that is laid: the first k are. -/
def InssC (cur : Array Value) (l : List Ins) (k : Nat) : Prop := ∀ i (h : i < l.length), i < k → cur[i * 10]? = some (.int .i64 l[i].op) ∧ cur[i * 10 + 1]? = some (.int .i64 l[i].cell) ∧ cur[i * 10 + 2]? = some (.int .i64 l[i].reg) ∧ cur[i * 10 + 3]? = some (.int .i64 l[i].ar) ∧ cur[i * 10 + 4]? = some (.int .i64 l[i].an) ∧ cur[i * 10 + 5]? = some (.int .i64 l[i].br) ∧ cur[i * 10 + 6]? = some (.int .i64 l[i].bn) ∧ cur[i * 10 + 7]? = some (.int .i64 l[i].ord) ∧ cur[i * 10 + 8]? = some (.int .i64 l[i].cnd) ∧ cur[i * 10 + 9]? = some (.int .i64 l[i].tgt)
theorem InssC.step {cur : Array Value} {l : List Ins} {k : Nat} (h : InssC cur l k) (hk : k < l.length) (hc : k * 10 + 9 < cur.size) :
    InssC ((((((((((cur.setIfInBounds (k * 10) (.int .i64 l[k].op)).setIfInBounds (k * 10 + 1) (.int .i64 l[k].cell)).setIfInBounds (k * 10 + 2) (.int .i64 l[k].reg)).setIfInBounds (k * 10 + 3) (.int .i64 l[k].ar)).setIfInBounds (k * 10 + 4) (.int .i64 l[k].an)).setIfInBounds (k * 10 + 5) (.int .i64 l[k].br)).setIfInBounds (k * 10 + 6) (.int .i64 l[k].bn)).setIfInBounds (k * 10 + 7) (.int .i64 l[k].ord)).setIfInBounds (k * 10 + 8) (.int .i64 l[k].cnd)).setIfInBounds (k * 10 + 9) (.int .i64 l[k].tgt)) l (k + 1) := by
  intro i hi hik
  simp only [Array.getElem?_setIfInBounds, Array.size_setIfInBounds]
  by_cases hmk : i = k
  · subst hmk
    refine ⟨?_, ?_, ?_, ?_, ?_, ?_, ?_, ?_, ?_, ?_⟩
    · rw [if_neg (by omega), if_neg (by omega), if_neg (by omega), if_neg (by omega), if_neg (by omega), if_neg (by omega), if_neg (by omega), if_neg (by omega), if_neg (by omega), if_pos rfl, if_pos (by omega)]
    · rw [if_neg (by omega), if_neg (by omega), if_neg (by omega), if_neg (by omega), if_neg (by omega), if_neg (by omega), if_neg (by omega), if_neg (by omega), if_pos rfl, if_pos (by omega)]
    · rw [if_neg (by omega), if_neg (by omega), if_neg (by omega), if_neg (by omega), if_neg (by omega), if_neg (by omega), if_neg (by omega), if_pos rfl, if_pos (by omega)]
    · rw [if_neg (by omega), if_neg (by omega), if_neg (by omega), if_neg (by omega), if_neg (by omega), if_neg (by omega), if_pos rfl, if_pos (by omega)]
    · rw [if_neg (by omega), if_neg (by omega), if_neg (by omega), if_neg (by omega), if_neg (by omega), if_pos rfl, if_pos (by omega)]
    · rw [if_neg (by omega), if_neg (by omega), if_neg (by omega), if_neg (by omega), if_pos rfl, if_pos (by omega)]
    · rw [if_neg (by omega), if_neg (by omega), if_neg (by omega), if_pos rfl, if_pos (by omega)]
    · rw [if_neg (by omega), if_neg (by omega), if_pos rfl, if_pos (by omega)]
    · rw [if_neg (by omega), if_pos rfl, if_pos (by omega)]
    · rw [if_pos rfl, if_pos (by omega)]
  · have := h i hi (by omega)
    have h3 : i * 10 + 9 < k * 10 := by omega
    rw [if_neg (by omega), if_neg (by omega), if_neg (by omega), if_neg (by omega), if_neg (by omega), if_neg (by omega), if_neg (by omega), if_neg (by omega), if_neg (by omega), if_neg (by omega), if_neg (by omega), if_neg (by omega), if_neg (by omega), if_neg (by omega), if_neg (by omega), if_neg (by omega), if_neg (by omega), if_neg (by omega), if_neg (by omega), if_neg (by omega), if_neg (by omega), if_neg (by omega), if_neg (by omega), if_neg (by omega), if_neg (by omega), if_neg (by omega), if_neg (by omega), if_neg (by omega), if_neg (by omega), if_neg (by omega), if_neg (by omega), if_neg (by omega), if_neg (by omega), if_neg (by omega), if_neg (by omega), if_neg (by omega), if_neg (by omega), if_neg (by omega), if_neg (by omega), if_neg (by omega), if_neg (by omega), if_neg (by omega), if_neg (by omega), if_neg (by omega), if_neg (by omega), if_neg (by omega), if_neg (by omega), if_neg (by omega), if_neg (by omega), if_neg (by omega), if_neg (by omega), if_neg (by omega), if_neg (by omega), if_neg (by omega), if_neg (by omega), if_neg (by omega), if_neg (by omega), if_neg (by omega), if_neg (by omega), if_neg (by omega), if_neg (by omega), if_neg (by omega), if_neg (by omega), if_neg (by omega), if_neg (by omega), if_neg (by omega), if_neg (by omega), if_neg (by omega), if_neg (by omega), if_neg (by omega), if_neg (by omega), if_neg (by omega), if_neg (by omega), if_neg (by omega), if_neg (by omega), if_neg (by omega), if_neg (by omega), if_neg (by omega), if_neg (by omega), if_neg (by omega), if_neg (by omega), if_neg (by omega), if_neg (by omega), if_neg (by omega), if_neg (by omega), if_neg (by omega), if_neg (by omega), if_neg (by omega), if_neg (by omega), if_neg (by omega), if_neg (by omega), if_neg (by omega), if_neg (by omega), if_neg (by omega), if_neg (by omega), if_neg (by omega), if_neg (by omega), if_neg (by omega), if_neg (by omega), if_neg (by omega)]
    exact this
/-- The row l, laid in the block g of its own. -/
def RowInss (w : World) (g : Nat) (v : Value) (l : List Ins) : Prop := l.length ≤ maxLen ∧ v = .slice (some ⟨g, 0, none⟩) l.length l.length ∧ ∃ cur, Blk w g 43 cur ∧ cur.size = l.length * 10 ∧ InssC cur l l.length
theorem RowInss.keep {w w' : World} {g : Nat} {v : Value} {l : List Ins} (h : RowInss w g v l) (hk : w'.heap[g]? = w.heap[g]?) : RowInss w' g v l := by
  obtain ⟨h1, h2, cur, h3, h4⟩ := h
  exact ⟨h1, h2, cur, by unfold Blk at *; rw [hk]; exact h3, h4⟩
theorem RowInss.lt {w : World} {g : Nat} {v : Value} {l : List Ins} (h : RowInss w g v l) : g < w.heap.size := by
  obtain ⟨h1, h2, cur, h3, h4⟩ := h
  exact h3.lt
theorem RowInss.at {S : Nat → Prop} {w : World} {g : Nat} {v : Value} {l : List Ins} (h : RowInss w g v l) (hS : S g) : InssAt S w v l := by
  obtain ⟨h1, h2, cur, h3, h4, h5⟩ := h
  refine ⟨h1, _, _, h2, fun _ => ⟨g, 0, rfl, hS, fun i hi => ?_⟩⟩
  simp only [Nat.zero_add]
  rw [h3.cell, h3.cell, h3.cell, h3.cell, h3.cell, h3.cell, h3.cell, h3.cell, h3.cell, h3.cell]
  exact h5 i hi hi
set_option maxRecDepth 100000 in
set_option maxHeartbeats 4000000 in
theorem toInsS {S : Nat → Prop} {l : List Ins} {v : Value} {w : World} (hS : ∀ b, S b → b < w.heap.size) (h : InssAt S w v l) (hl : l.length ≤ 1048576) :
    Calls Tryz.prog 28 #[v] w fun e w' => (∃ v', e = .returned v' ∧ RowInss w' w.heap.size v' l) ∧ Below w.heap.size w w' := by
  obtain ⟨hlm, a, cap, rfl, hc⟩ := h
  have HC : Hid _ := hc
  clear hc
  obtain ⟨n, hn⟩ : ∃ n, l.length = n := ⟨_, rfl⟩
  obtain ⟨cur0, hcs, hmk0⟩ := makeN 10 39 43 80 n Tryz.underlying39 (by kernel_rfl) (by omega) (by omega) w
  rw [hn] at hl hlm ⊢
  go_enter Tryz.func28, Tryz.ntmps28
  go_wp2_with fail
  go_loopw [4] (fun i4 wr => ∃ (k : Nat) (cur : Array Value), i4 = .int .i64 (k : Int) ∧ k ≤ n ∧ Blk wr w.heap.size 43 cur ∧ cur.size = n * 10 ∧ InssC cur l k ∧ Below w.heap.size w wr) (fun i4 _ => n - (intOf i4).toNat)
  case atStart => exact ⟨0, cur0, rfl, by omega, heap_alloc_last w _, hcs, fun i _ h => by omega, (Below.refl _ w).alloc (Nat.le_refl _) _⟩
  case round =>
    obtain ⟨k, cur, rfl, hk, hblk, hsz, hic, hb⟩ := hrel
    have HI : Hid (InssC cur l k) := hic
    have HB : Hid (Blk wr w.heap.size 43 cur) := hblk
    clear hic hblk
    by_cases hkn : k < n
    · have hkn' : (k : Int) < (n : Int) := by omega
      have hkl : k < l.length := by omega
      obtain ⟨b, off, rfl, hbB, hcell⟩ := HC.out (by omega)
      obtain ⟨c0, c1, c2, c3, c4, c5, c6, c7, c8, c9⟩ := hcell k hkl
      have hbw : b < w.heap.size := hS b hbB
      have d0 := (hb.cell (p := ⟨b, off + k * 10, none⟩) hbw).trans c0
      have d1 := (hb.cell (p := ⟨b, off + k * 10 + 1, none⟩) hbw).trans c1
      have d2 := (hb.cell (p := ⟨b, off + k * 10 + 2, none⟩) hbw).trans c2
      have d3 := (hb.cell (p := ⟨b, off + k * 10 + 3, none⟩) hbw).trans c3
      have d4 := (hb.cell (p := ⟨b, off + k * 10 + 4, none⟩) hbw).trans c4
      have d5 := (hb.cell (p := ⟨b, off + k * 10 + 5, none⟩) hbw).trans c5
      have d6 := (hb.cell (p := ⟨b, off + k * 10 + 6, none⟩) hbw).trans c6
      have d7 := (hb.cell (p := ⟨b, off + k * 10 + 7, none⟩) hbw).trans c7
      have d8 := (hb.cell (p := ⟨b, off + k * 10 + 8, none⟩) hbw).trans c8
      have d9 := (hb.cell (p := ⟨b, off + k * 10 + 9, none⟩) hbw).trans c9
      have z0 : k * 10 < cur.size := by rw [hsz]; omega
      have z1 : k * 10 + 1 < cur.size := by rw [hsz]; omega
      have z2 : k * 10 + 2 < cur.size := by rw [hsz]; omega
      have z3 : k * 10 + 3 < cur.size := by rw [hsz]; omega
      have z4 : k * 10 + 4 < cur.size := by rw [hsz]; omega
      have z5 : k * 10 + 5 < cur.size := by rw [hsz]; omega
      have z6 : k * 10 + 6 < cur.size := by rw [hsz]; omega
      have z7 : k * 10 + 7 < cur.size := by rw [hsz]; omega
      have z8 : k * 10 + 8 < cur.size := by rw [hsz]; omega
      have z9 : k * 10 + 9 < cur.size := by rw [hsz]; omega
      have hst := HI.out.step hkl z9
      obtain ⟨x, hxk⟩ : ∃ x, l[k] = x := ⟨_, rfl⟩
      rw [hxk] at d0 d1 d2 d3 d4 d5 d6 d7 d8 d9 hst
      clear hxk c0 c1 c2 c3 c4 c5 c6 c7 c8 c9 hcell
      obtain ⟨x0, x1, x2, x3, x4, x5, x6, x7, x8, x9⟩ := x
      dsimp only at d0 d1 d2 d3 d4 d5 d6 d7 d8 d9 hst
      have HST : Hid _ := hst
      clear hst
      go_wp2_with (go_at_call 40; go_must (refine (toIns x0 x1 x2 x3 x4 x5 x6 x7 x8 x9 _).mono ?_; rintro e w1 ⟨rfl, hb1⟩; have hbk := HB.out.below hb1; have e0 := hbk.cell (k * 10); have e1 := hbk.cell (k * 10 + 1); have e2 := hbk.cell (k * 10 + 2); have e3 := hbk.cell (k * 10 + 3); have e4 := hbk.cell (k * 10 + 4); have e5 := hbk.cell (k * 10 + 5); have e6 := hbk.cell (k * 10 + 6); have e7 := hbk.cell (k * 10 + 7); have e8 := hbk.cell (k * 10 + 8); have e9 := hbk.cell (k * 10 + 9); rw [Array.getElem?_eq_getElem z0] at e0; rw [Array.getElem?_eq_getElem z1] at e1; rw [Array.getElem?_eq_getElem z2] at e2; rw [Array.getElem?_eq_getElem z3] at e3; rw [Array.getElem?_eq_getElem z4] at e4; rw [Array.getElem?_eq_getElem z5] at e5; rw [Array.getElem?_eq_getElem z6] at e6; rw [Array.getElem?_eq_getElem z7] at e7; rw [Array.getElem?_eq_getElem z8] at e8; rw [Array.getElem?_eq_getElem z9] at e9; have f0 := hbk.fro (k * 10); have f1 := hbk.fro (k * 10 + 1); have f2 := hbk.fro (k * 10 + 2); have f3 := hbk.fro (k * 10 + 3); have f4 := hbk.fro (k * 10 + 4); have f5 := hbk.fro (k * 10 + 5); have f6 := hbk.fro (k * 10 + 6); have f7 := hbk.fro (k * 10 + 7); have f8 := hbk.fro (k * 10 + 8); have f9 := hbk.fro (k * 10 + 9)))
      exact ⟨⟨k + 1, _, rfl, by omega, ((((((((((hbk.set (k * 10) _).set (k * 10 + 1) _).set (k * 10 + 2) _).set (k * 10 + 3) _).set (k * 10 + 4) _).set (k * 10 + 5) _).set (k * 10 + 6) _).set (k * 10 + 7) _).set (k * 10 + 8) _).set (k * 10 + 9) _), by simp [hsz], HST.out, (((((((((((good_below hb hb1).setCell (Nat.le_refl _) _).setCell (Nat.le_refl _) _).setCell (Nat.le_refl _) _).setCell (Nat.le_refl _) _).setCell (Nat.le_refl _) _).setCell (Nat.le_refl _) _).setCell (Nat.le_refl _) _).setCell (Nat.le_refl _) _).setCell (Nat.le_refl _) _).setCell (Nat.le_refl _) _)⟩, by simp [intOf]; omega⟩
    · have hkn' : ¬ ((k : Int) < (n : Int)) := by omega
      go_wp2_with fail
      go_ret
      exact ⟨⟨.slice (some ⟨w.heap.size, 0, none⟩) n n, rfl, by omega, by rw [hn], cur, HB.out, by rw [hsz, hn], by rw [hn]; obtain rfl : k = n := (by omega); exact HI.out⟩, hb⟩
/-- A row that is laid: the first k are. -/
def NumsC (cur : Array Value) (l : List Int) (k : Nat) : Prop := ∀ i (h : i < l.length), i < k → cur[i]? = some (.int .i64 l[i])
theorem NumsC.step {cur : Array Value} {l : List Int} {k : Nat} (h : NumsC cur l k) (hk : k < l.length) (hc : k < cur.size) :
    NumsC (cur.setIfInBounds (k) (.int .i64 l[k])) l (k + 1) := by
  intro i hi hik
  simp only [Array.getElem?_setIfInBounds, Array.size_setIfInBounds]
  by_cases hmk : i = k
  · subst hmk
    · rw [if_pos rfl, if_pos (by omega)]
  · have := h i hi (by omega)
    have h3 : i < k := by omega
    rw [if_neg (by omega)]
    exact this
/-- The row l, laid in the block g of its own. -/
def RowNums (w : World) (g : Nat) (v : Value) (l : List Int) : Prop := l.length ≤ maxLen ∧ v = .slice (some ⟨g, 0, none⟩) l.length l.length ∧ ∃ cur, Blk w g 3 cur ∧ cur.size = l.length * 1 ∧ NumsC cur l l.length
theorem RowNums.keep {w w' : World} {g : Nat} {v : Value} {l : List Int} (h : RowNums w g v l) (hk : w'.heap[g]? = w.heap[g]?) : RowNums w' g v l := by
  obtain ⟨h1, h2, cur, h3, h4⟩ := h
  exact ⟨h1, h2, cur, by unfold Blk at *; rw [hk]; exact h3, h4⟩
theorem RowNums.lt {w : World} {g : Nat} {v : Value} {l : List Int} (h : RowNums w g v l) : g < w.heap.size := by
  obtain ⟨h1, h2, cur, h3, h4⟩ := h
  exact h3.lt
theorem RowNums.at {S : Nat → Prop} {w : World} {g : Nat} {v : Value} {l : List Int} (h : RowNums w g v l) (hS : S g) : NumsAt S w v l := by
  obtain ⟨h1, h2, cur, h3, h4, h5⟩ := h
  refine ⟨h1, _, _, h2, fun _ => ⟨g, 0, rfl, hS, fun i hi => ?_⟩⟩
  simp only [Nat.zero_add]
  rw [h3.cell]
  exact h5 i hi hi
set_option maxRecDepth 100000 in
set_option maxHeartbeats 4000000 in
theorem toIntS {S : Nat → Prop} {l : List Int} {v : Value} {w : World} (hS : ∀ b, S b → b < w.heap.size) (h : NumsAt S w v l) (hl : l.length ≤ 1048576) :
    Calls Tryz.prog 16 #[v] w fun e w' => (∃ v', e = .returned v' ∧ RowNums w' w.heap.size v' l) ∧ Below w.heap.size w w' := by
  obtain ⟨hlm, a, cap, rfl, hc⟩ := h
  have HC : Hid _ := hc
  clear hc
  obtain ⟨n, hn⟩ : ∃ n, l.length = n := ⟨_, rfl⟩
  obtain ⟨cur0, hcs, hmk0⟩ := makeN 1 22 3 8 n Tryz.underlying22 (by kernel_rfl) (by omega) (by omega) w
  rw [hn] at hl hlm ⊢
  go_enter Tryz.func16, Tryz.ntmps16
  go_wp2_with fail
  go_loopw [4] (fun i4 wr => ∃ (k : Nat) (cur : Array Value), i4 = .int .i64 (k : Int) ∧ k ≤ n ∧ Blk wr w.heap.size 3 cur ∧ cur.size = n * 1 ∧ NumsC cur l k ∧ Below w.heap.size w wr) (fun i4 _ => n - (intOf i4).toNat)
  case atStart => exact ⟨0, cur0, rfl, by omega, heap_alloc_last w _, hcs, fun i _ h => by omega, (Below.refl _ w).alloc (Nat.le_refl _) _⟩
  case round =>
    obtain ⟨k, cur, rfl, hk, hblk, hsz, hic, hb⟩ := hrel
    have HI : Hid (NumsC cur l k) := hic
    have HB : Hid (Blk wr w.heap.size 3 cur) := hblk
    clear hic hblk
    by_cases hkn : k < n
    · have hkn' : (k : Int) < (n : Int) := by omega
      have hkl : k < l.length := by omega
      obtain ⟨b, off, rfl, hbB, hcell⟩ := HC.out (by omega)
      have c0 := hcell k hkl
      have hbw : b < w.heap.size := hS b hbB
      have d0 := (hb.cell (p := ⟨b, off + k, none⟩) hbw).trans c0
      have z0 : k < cur.size := by rw [hsz]; omega
      have hst := HI.out.step hkl z0
      obtain ⟨x, hxk⟩ : ∃ x, l[k] = x := ⟨_, rfl⟩
      rw [hxk] at d0 hst
      clear hxk c0 hcell
      have HST : Hid _ := hst
      clear hst
      have hbk := HB.out
      have e0 := hbk.cell (k)
      rw [Array.getElem?_eq_getElem z0] at e0
      have f0 := hbk.fro (k)
      go_wp2_with fail
      exact ⟨⟨k + 1, _, rfl, by omega, (hbk.set (k) _), by simp [hsz], HST.out, (hb.setCell (Nat.le_refl _) _)⟩, by simp [intOf]; omega⟩
    · have hkn' : ¬ ((k : Int) < (n : Int)) := by omega
      go_wp2_with fail
      go_ret
      exact ⟨⟨.slice (some ⟨w.heap.size, 0, none⟩) n n, rfl, by omega, by rw [hn], cur, HB.out, by rw [hsz, hn], by rw [hn]; obtain rfl : k = n := (by omega); exact HI.out⟩, hb⟩
end Go.Proofs.YthopmdfichfhdaaGreatDoor
