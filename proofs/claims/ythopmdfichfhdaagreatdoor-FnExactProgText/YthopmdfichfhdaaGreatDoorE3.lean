/-
  How large a program is that came in; its copies. The copies of a program. No statement of the seat is proved here.
-/
import Derived.Test.YthopmdfichfhdaaGreatDoorE1
namespace Go.Proofs.YthopmdfichfhdaaGreatDoor
open Go.ChangeShapes Go.WideShapes Go.ChangeAt Go.RowKit
set_option linter.unusedVariables false
set_option linter.unusedSimpArgs false

set_option maxRecDepth 100000 in
theorem szIntS {S : Nat → Prop} {l : List Int} {v : Value} {w : World} (h : NumsAt S w v l) (left : Int) (h0 : 0 ≤ left) (h1 : left ≤ 1048576) :
    Calls Tryz.prog 12 #[v, .int .i64 left] w fun e w' => (∃ r : Int, e = .returned (.int .i64 r) ∧ (r = -1 ∨ (0 ≤ r ∧ r ≤ left ∧ (l.length : Int) ≤ left))) ∧ Below w.heap.size w w' := by
  obtain ⟨hlm, a, cap, rfl, hc⟩ := h
  have hlm' : (l.length : Int) ≤ 9223372036854775807 := by simp [maxLen] at hlm; omega
  clear hlm hc
  by_cases hn : left - (l.length : Int) < 0
  · go_enter Tryz.func12, Tryz.ntmps12
    go_wp2_with fail
    go_ret
    exact ⟨⟨-1, rfl, .inl rfl⟩, Below.refl _ _⟩
  · go_enter Tryz.func12, Tryz.ntmps12
    go_wp2_with fail
    go_ret
    exact ⟨⟨_, rfl, .inr ⟨by omega, by omega, by omega⟩⟩, Below.refl _ _⟩
set_option maxRecDepth 100000 in
theorem szInsS {S : Nat → Prop} {l : List Ins} {v : Value} {w : World} (h : InssAt S w v l) (left : Int) (h0 : 0 ≤ left) (h1 : left ≤ 1048576) :
    Calls Tryz.prog 23 #[v, .int .i64 left] w fun e w' => (∃ r : Int, e = .returned (.int .i64 r) ∧ (r = -1 ∨ (0 ≤ r ∧ r ≤ left ∧ (l.length : Int) ≤ left))) ∧ Below w.heap.size w w' := by
  obtain ⟨hlm, a, cap, rfl, hc⟩ := h
  have hlm' : (l.length : Int) ≤ 9223372036854775807 := by simp [maxLen] at hlm; omega
  clear hlm hc
  by_cases hn : left - (l.length : Int) < 0
  · go_enter Tryz.func23, Tryz.ntmps23
    go_wp2_with fail
    go_ret
    exact ⟨⟨-1, rfl, .inl rfl⟩, Below.refl _ _⟩
  · go_enter Tryz.func23, Tryz.ntmps23
    go_wp2_with fail
    go_ret
    exact ⟨⟨_, rfl, .inr ⟨by omega, by omega, by omega⟩⟩, Below.refl _ _⟩
set_option maxRecDepth 100000 in
set_option maxHeartbeats 1000000 in
theorem szInsSS {S : Nat → Prop} {l : List (List Ins)} {v : Value} {w : World} (hS : ∀ b, S b → b < w.heap.size) (h : ThrAt S w v l) (left : Int) (h0 : 0 ≤ left) (h1 : left ≤ 1048576) :
    Calls Tryz.prog 13 #[v, .int .i64 left] w fun e w' => (∃ r : Int, e = .returned (.int .i64 r) ∧ (r = -1 ∨ (0 ≤ r ∧ r ≤ left ∧ (l.length : Int) ≤ left ∧ ∀ c ∈ l, (c.length : Int) ≤ left))) ∧ Below w.heap.size w w' := by
  obtain ⟨hlm, a, cap, rfl, hc⟩ := h
  have hlm' : (l.length : Int) ≤ 9223372036854775807 := by simp [maxLen] at hlm; omega
  clear hlm
  by_cases hn : left - (l.length : Int) < 0
  · clear hc
    go_enter Tryz.func13, Tryz.ntmps13
    go_wp2_with fail
    go_ret
    exact ⟨⟨-1, rfl, .inl rfl⟩, Below.refl _ _⟩
  · have HC : Hid _ := hc
    clear hc
    go_enter Tryz.func13, Tryz.ntmps13
    go_wp2_with fail
    go_loopw [1, 5] (fun i1 i5 wr => ∃ (k : Nat) (r : Int), i5 = .int .i64 (k : Int) ∧ i1 = .int .i64 r ∧ k ≤ l.length ∧ 0 ≤ r ∧ r ≤ left ∧ (∀ i (h : i < l.length), i < k → (l[i].length : Int) ≤ left) ∧ Below w.heap.size w wr) (fun _ i5 _ => l.length - (intOf i5).toNat)
    case atStart => exact ⟨0, _, rfl, rfl, by omega, by omega, by omega, fun i _ h => by omega, Below.refl _ _⟩
    case round =>
      obtain ⟨k, r, rfl, rfl, hk, hr0, hr1, hall, hb⟩ := hrel
      have HA : Hid _ := hall
      clear hall
      by_cases hkn : k < l.length
      · have hkn' : (k : Int) < (l.length : Int) := by omega
        obtain ⟨b, off, rfl, hbB, hcell⟩ := HC.out (by omega)
        obtain ⟨x, c0, e2⟩ := hcell k hkn
        have hbw : b < w.heap.size := hS b hbB
        have d0 := (hb.cell (p := ⟨b, off + k, none⟩) hbw).trans c0
        have cs := szInsS (e2.keep (cells_below hS hb)) r hr0 (by omega)
        obtain ⟨xa, xc, rfl⟩ := e2.shape
        obtain ⟨n, hnx⟩ : ∃ n, l[k].length = n := ⟨_, rfl⟩
        rw [hnx] at d0 cs
        have HXK : Hid (l[k].length = n) := hnx
        clear hnx c0 hcell e2
        go_wp2_with (go_at_call 23; go_must (refine cs.mono ?_; rintro e w1 ⟨⟨r1, rfl, hr⟩, hb1⟩))
        · go_ret
          exact ⟨⟨-1, rfl, .inl rfl⟩, good_below hb hb1⟩
        · have hr2 : 0 ≤ r1 := by omega
          have hr3 : r1 ≤ r ∧ (n : Int) ≤ r := hr.elim (fun h => by omega) (fun h => h.2)
          refine ⟨⟨k + 1, r1, rfl, rfl, by omega, hr2, by omega, fun i hi hik => ?_, good_below hb hb1⟩, by simp [intOf]; omega⟩
          by_cases hik2 : i < k
          · exact HA.out i hi hik2
          · obtain rfl : i = k := by omega
            rw [HXK.out]
            omega
      · have hkn' : ¬ ((k : Int) < (l.length : Int)) := by omega
        go_wp2_with fail
        go_ret
        refine ⟨⟨r, rfl, .inr ⟨hr0, hr1, by omega, fun x hx => ?_⟩⟩, hb⟩
        obtain ⟨i, hi, rfl⟩ := List.getElem_of_mem hx
        exact HA.out i hi (by omega)
/-- How long the rows of a program are at most. -/
structure PLim (left : Int) (ini : List Int) (thr : List (List Ins)) : Prop where
  i : (ini.length : Int) ≤ left
  t : (thr.length : Int) ≤ left
  c : ∀ c ∈ thr, (c.length : Int) ≤ left
set_option maxRecDepth 100000 in
set_option maxHeartbeats 1000000 in
theorem szProg {S : Nat → Prop} {ini : List Int} {thr : List (List Ins)} {iv tv : Value} {w : World} (hS : ∀ b, S b → b < w.heap.size) (h : PAt S w iv tv ini thr) :
    Calls Tryz.prog 5 #[.agg #[iv, tv], .int .i64 1048576] w fun e w' => (∃ r : Int, e = .returned (.int .i64 r) ∧ (r = -1 ∨ (0 ≤ r ∧ PLim 1048576 ini thr))) ∧ Below w.heap.size w w' := by
  have hw1 : ∀ o, Below w.heap.size w (w.alloc o) := fun o => (Below.refl _ w).alloc (Nat.le_refl _) _
  have HI : Hid (∀ W, Below w.heap.size w W → ThrAt S W tv thr) := fun W hW => h.t.keep (cells_below hS hW)
  have kb : Blk (w.alloc (.cells #[iv, tv] 25)) w.heap.size 25 #[iv, tv] := heap_alloc_last w _
  have ci := szIntS (h.i.keep (cells_below hS (hw1 (.cells #[iv, tv] 25)))) 1048576 (by omega) (by omega)
  obtain ⟨a1, c1, rfl⟩ := h.i.shape
  obtain ⟨a2, c2, rfl⟩ := h.t.shape
  have HK : Hid (Blk (w.alloc (.cells #[.slice a1 ini.length c1, .slice a2 thr.length c2] 25)) w.heap.size 25 #[.slice a1 ini.length c1, .slice a2 thr.length c2]) := kb
  clear h kb
  go_enter Tryz.func5, Tryz.ntmps5
  go_upto_region 2 with (go_at_call 12; go_must (refine ci.mono ?_; rintro e w1 ⟨⟨r1, rfl, hr1⟩, hb1⟩))
  have hB1 : Below w.heap.size w w1 := good_below (hw1 _) hb1
  have k1 := HK.out.below hb1
  have m1 := k1.cell 1
  simp at m1
  rcases hr1 with rfl | ⟨q0, q1, q2⟩
  · go_wp2_with fail
    go_ret
    exact ⟨⟨-1, rfl, .inl rfl⟩, hB1⟩
  have hq0 : ¬ (r1 < 0) := by omega
  have cs := szInsSS (w := w1) (fun b hb => Nat.lt_of_lt_of_le (hS b hb) hB1.size) (HI.out w1 hB1) r1 q0 q1
  clear k1
  go_wp2_with (go_at_call 13; go_must (refine cs.mono ?_; rintro e w2 ⟨⟨r2, rfl, hr2⟩, hb2⟩))
  · go_ret
    exact ⟨⟨-1, rfl, .inl rfl⟩, good_below hB1 hb2⟩
  · go_ret
    rcases hr2 with h | ⟨p0, p1, p2, p3⟩
    · omega
    · exact ⟨⟨_, rfl, .inr ⟨by omega, ⟨by omega, by omega, fun c hc => by have := p3 c hc; omega⟩⟩⟩, good_below hB1 hb2⟩
end Go.Proofs.YthopmdfichfhdaaGreatDoor

namespace Go.Proofs.YthopmdfichfhdaaGreatDoor
open Go.ChangeShapes Go.WideShapes Go.ChangeAt Go.RowKit
set_option linter.unusedVariables false
set_option linter.unusedSimpArgs false

theorem cell_other {w : World} {p : Addr} {u : Value} {b : Nat} (i : Nat) (h : b ≠ p.block) : (w.setCell p u).cell? ⟨b, i, none⟩ = w.cell? ⟨b, i, none⟩ := by
  unfold World.cell?
  rw [Below.heap_setCell w p u b h]
theorem last30 (w : World) (o p q : Obj) : (((w.alloc o).alloc p).alloc q).heap[w.heap.size]? = some o := by
  have h1 := heap_alloc_last w o
  have hb : Below (w.alloc o).heap.size (w.alloc o) (((w.alloc o).alloc p).alloc q) := ((Below.refl _ _).alloc (Nat.le_refl _) _).alloc (by simp only [World.size_alloc]; omega) _
  have := hb.block w.heap.size (by simp only [World.size_alloc]; omega)
  rw [this]; exact h1
set_option maxRecDepth 100000 in
theorem toVal (x0 x1 : Int) (w : World) :
    Calls Tryz.prog 49 #[.agg #[.int .i64 x0, .int .i64 x1]] w fun e w' => e = .returned (.agg #[.int .i64 x0, .int .i64 x1]) ∧ Below w.heap.size w w' := by
  go_enter Tryz.func49, Tryz.ntmps49
  go_wp2_with fail
  refine bodyPost_ret (v := .agg #[.int .i64 x0, .int .i64 x1]) (results_cell_row rfl _ _ (w.heap.size + 1) 41 #[.int .i64 x0, .int .i64 x1] (0, 0) _ rfl (last3 w _ _ _) Tryz.underlying41 rfl (by kernel_rfl)) rfl ?_
  exact ⟨rfl, bel3 w _ _ _⟩
set_option maxRecDepth 100000 in
set_option maxHeartbeats 4000000 in
theorem toIns (x0 x1 x2 x3 x4 x5 x6 x7 x8 x9 : Int) (w : World) :
    Calls Tryz.prog 40 #[.agg #[.int .i64 x0, .int .i64 x1, .int .i64 x2, .int .i64 x3, .int .i64 x4, .int .i64 x5, .int .i64 x6, .int .i64 x7, .int .i64 x8, .int .i64 x9]] w fun e w' => e = .returned (.agg #[.int .i64 x0, .int .i64 x1, .int .i64 x2, .int .i64 x3, .int .i64 x4, .int .i64 x5, .int .i64 x6, .int .i64 x7, .int .i64 x8, .int .i64 x9]) ∧ Below w.heap.size w w' := by
  have c1 := fun W => toVal x3 x4 W
  have c2 := fun W => toVal x5 x6 W
  have K0 : Hid (∀ o p, Blk (((w.alloc (.cells #[.int .i64 x0, .int .i64 x1, .int .i64 x2, .int .i64 x3, .int .i64 x4, .int .i64 x5, .int .i64 x6, .int .i64 x7, .int .i64 x8, .int .i64 x9] 73)).alloc o).alloc p) w.heap.size 73 #[.int .i64 x0, .int .i64 x1, .int .i64 x2, .int .i64 x3, .int .i64 x4, .int .i64 x5, .int .i64 x6, .int .i64 x7, .int .i64 x8, .int .i64 x9]) := fun o p => last30 w _ _ _
  go_enter Tryz.func40, Tryz.ntmps40
  go_upto_region 5 with fail
  obtain ⟨wA, hwA⟩ : ∃ W, ((w.alloc (.cells #[.int .i64 x0, .int .i64 x1, .int .i64 x2, .int .i64 x3, .int .i64 x4, .int .i64 x5, .int .i64 x6, .int .i64 x7, .int .i64 x8, .int .i64 x9] 73)).alloc (.cells #[.int .i64 0, .int .i64 0, .int .i64 0, .int .i64 0, .int .i64 0, .int .i64 0, .int .i64 0, .int .i64 0, .int .i64 0, .int .i64 0] 43)).alloc (.cells #[.int .i64 x0, .int .i64 x1, .int .i64 x2, .int .i64 0, .int .i64 0, .int .i64 0, .int .i64 0, .int .i64 0, .int .i64 0, .int .i64 0] 43) = W := ⟨_, rfl⟩
  have hb : Below w.heap.size w wA := by rw [← hwA]; exact bel3 w _ _ _
  have k0 : Blk wA w.heap.size 73 #[.int .i64 x0, .int .i64 x1, .int .i64 x2, .int .i64 x3, .int .i64 x4, .int .i64 x5, .int .i64 x6, .int .i64 x7, .int .i64 x8, .int .i64 x9] := by rw [← hwA]; exact last30 w _ _ _
  have k1 : Blk wA (w.heap.size + 1) 43 #[.int .i64 0, .int .i64 0, .int .i64 0, .int .i64 0, .int .i64 0, .int .i64 0, .int .i64 0, .int .i64 0, .int .i64 0, .int .i64 0] := by rw [← hwA]; exact last3 w _ _ _
  have k2 : Blk wA (w.heap.size + 2) 43 #[.int .i64 x0, .int .i64 x1, .int .i64 x2, .int .i64 0, .int .i64 0, .int .i64 0, .int .i64 0, .int .i64 0, .int .i64 0, .int .i64 0] := by rw [← hwA]; exact last3' w _ _ _
  have HB : Hid (Below w.heap.size w wA) := hb
  rw [hwA]
  clear hwA hb
  obtain ⟨g, hg⟩ : ∃ g, w.heap.size = g := ⟨_, rfl⟩
  have HG : Hid (∀ W : World, Below w.heap.size w W → g < W.heap.size + 1) := fun W hW => by have := hW.size; omega
  have hgl : w.heap.size ≤ g + 1 + 1 := by omega
  have hgl1 : w.heap.size ≤ g + 1 := by omega
  rw [show w.heap.size + 2 = w.heap.size + 1 + 1 from rfl] at k2
  rw [hg] at k0 k1 k2 ⊢
  have s3 := k0.cell 3
  have s4 := k0.cell 4
  simp at s3 s4
  have HK : Hid (Blk wA g 73 #[.int .i64 x0, .int .i64 x1, .int .i64 x2, .int .i64 x3, .int .i64 x4, .int .i64 x5, .int .i64 x6, .int .i64 x7, .int .i64 x8, .int .i64 x9] ∧ Blk wA (g + 1) 43 #[.int .i64 0, .int .i64 0, .int .i64 0, .int .i64 0, .int .i64 0, .int .i64 0, .int .i64 0, .int .i64 0, .int .i64 0, .int .i64 0] ∧ Blk wA (g + 1 + 1) 43 #[.int .i64 x0, .int .i64 x1, .int .i64 x2, .int .i64 0, .int .i64 0, .int .i64 0, .int .i64 0, .int .i64 0, .int .i64 0, .int .i64 0]) := ⟨k0, k1, k2⟩
  clear k0 k1 k2
  go_upto_region 6 with (go_at_call 49; go_must (refine (c1 _).mono ?_; rintro e w1 ⟨rfl, hb1⟩; have q2 := HK.out.2.2.below hb1; have t3 := q2.cell 3; have t4 := q2.cell 4; simp at t3 t4; have f3 := q2.fro 3; have f4 := q2.fro 4; clear q2))
  obtain ⟨wB, hwB⟩ : ∃ W, (w1.setCell ⟨g + 1 + 1, 3, none⟩ (.int .i64 x3)).setCell ⟨g + 1 + 1, 4, none⟩ (.int .i64 x4) = W := ⟨_, rfl⟩
  have k0 : Blk wB g 73 #[.int .i64 x0, .int .i64 x1, .int .i64 x2, .int .i64 x3, .int .i64 x4, .int .i64 x5, .int .i64 x6, .int .i64 x7, .int .i64 x8, .int .i64 x9] := by rw [← hwB]; exact ((HK.out.1.below hb1).other (by omega) _ _).other (by omega) _ _
  have k1 : Blk wB (g + 1) 43 #[.int .i64 0, .int .i64 0, .int .i64 0, .int .i64 0, .int .i64 0, .int .i64 0, .int .i64 0, .int .i64 0, .int .i64 0, .int .i64 0] := by rw [← hwB]; exact ((HK.out.2.1.below hb1).other (by omega) _ _).other (by omega) _ _
  have k2 : Blk wB (g + 1 + 1) 43 #[.int .i64 x0, .int .i64 x1, .int .i64 x2, .int .i64 x3, .int .i64 x4, .int .i64 0, .int .i64 0, .int .i64 0, .int .i64 0, .int .i64 0] := by rw [← hwB]; exact ((HK.out.2.2.below hb1).set 3 _).set 4 _
  have HB2 : Hid (Below w.heap.size w wB) := by rw [← hwB]; exact ((HB.out.trans (hb1.mono HB.out.size)).setCell hgl _).setCell hgl _
  rw [hwB]
  clear hwB s3 s4 t3 t4 f3 f4
  have s5 := k0.cell 5
  have s6 := k0.cell 6
  simp at s5 s6
  have HK2 : Hid (Blk wB g 73 #[.int .i64 x0, .int .i64 x1, .int .i64 x2, .int .i64 x3, .int .i64 x4, .int .i64 x5, .int .i64 x6, .int .i64 x7, .int .i64 x8, .int .i64 x9] ∧ Blk wB (g + 1) 43 #[.int .i64 0, .int .i64 0, .int .i64 0, .int .i64 0, .int .i64 0, .int .i64 0, .int .i64 0, .int .i64 0, .int .i64 0, .int .i64 0] ∧ Blk wB (g + 1 + 1) 43 #[.int .i64 x0, .int .i64 x1, .int .i64 x2, .int .i64 x3, .int .i64 x4, .int .i64 0, .int .i64 0, .int .i64 0, .int .i64 0, .int .i64 0]) := ⟨k0, k1, k2⟩
  clear k0 k1 k2
  go_upto_region 7 with (go_at_call 49; go_must (refine (c2 _).mono ?_; rintro e w2 ⟨rfl, hb2⟩; have q2 := HK2.out.2.2.below hb2; have t5 := q2.cell 5; have t6 := q2.cell 6; simp at t5 t6; have f5 := q2.fro 5; have f6 := q2.fro 6; clear q2))
  obtain ⟨wC, hwC⟩ : ∃ W, (w2.setCell ⟨g + 1 + 1, 5, none⟩ (.int .i64 x5)).setCell ⟨g + 1 + 1, 6, none⟩ (.int .i64 x6) = W := ⟨_, rfl⟩
  have k0 : Blk wC g 73 #[.int .i64 x0, .int .i64 x1, .int .i64 x2, .int .i64 x3, .int .i64 x4, .int .i64 x5, .int .i64 x6, .int .i64 x7, .int .i64 x8, .int .i64 x9] := by rw [← hwC]; exact ((HK2.out.1.below hb2).other (by omega) _ _).other (by omega) _ _
  have k1 : Blk wC (g + 1) 43 #[.int .i64 0, .int .i64 0, .int .i64 0, .int .i64 0, .int .i64 0, .int .i64 0, .int .i64 0, .int .i64 0, .int .i64 0, .int .i64 0] := by rw [← hwC]; exact ((HK2.out.2.1.below hb2).other (by omega) _ _).other (by omega) _ _
  have k2 : Blk wC (g + 1 + 1) 43 #[.int .i64 x0, .int .i64 x1, .int .i64 x2, .int .i64 x3, .int .i64 x4, .int .i64 x5, .int .i64 x6, .int .i64 0, .int .i64 0, .int .i64 0] := by rw [← hwC]; exact ((HK2.out.2.2.below hb2).set 5 _).set 6 _
  have HB3 : Hid (Below w.heap.size w wC) := by rw [← hwC]; exact ((HB2.out.trans (hb2.mono HB2.out.size)).setCell hgl _).setCell hgl _
  rw [hwC]
  clear hwC s5 s6 t5 t6 f5 f6
  have s7 := k0.cell 7
  have s8 := k0.cell 8
  have s9 := k0.cell 9
  have t7 := k2.cell 7
  have t8 := k2.cell 8
  have t9 := k2.cell 9
  simp at s7 s8 s9 t7 t8 t9
  have f7 := k2.fro 7
  have f8 := k2.fro 8
  have f9 := k2.fro 9
  have HK3 : Hid (Blk wC (g + 1) 43 #[.int .i64 0, .int .i64 0, .int .i64 0, .int .i64 0, .int .i64 0, .int .i64 0, .int .i64 0, .int .i64 0, .int .i64 0, .int .i64 0] ∧ Blk wC (g + 1 + 1) 43 #[.int .i64 x0, .int .i64 x1, .int .i64 x2, .int .i64 x3, .int .i64 x4, .int .i64 x5, .int .i64 x6, .int .i64 0, .int .i64 0, .int .i64 0]) := ⟨k1, k2⟩
  clear k0 k1 k2
  go_upto_region 10 with fail
  obtain ⟨wD, hwD⟩ : ∃ W, ((wC.setCell ⟨g + 1 + 1, 7, none⟩ (.int .i64 x7)).setCell ⟨g + 1 + 1, 8, none⟩ (.int .i64 x8)).setCell ⟨g + 1 + 1, 9, none⟩ (.int .i64 x9) = W := ⟨_, rfl⟩
  have k1 : Blk wD (g + 1) 43 #[.int .i64 0, .int .i64 0, .int .i64 0, .int .i64 0, .int .i64 0, .int .i64 0, .int .i64 0, .int .i64 0, .int .i64 0, .int .i64 0] := by rw [← hwD]; exact (((HK3.out.1).other (by omega) _ _).other (by omega) _ _).other (by omega) _ _
  have k2 : Blk wD (g + 1 + 1) 43 #[.int .i64 x0, .int .i64 x1, .int .i64 x2, .int .i64 x3, .int .i64 x4, .int .i64 x5, .int .i64 x6, .int .i64 x7, .int .i64 x8, .int .i64 x9] := by rw [← hwD]; exact (((HK3.out.2).set 7 _).set 8 _).set 9 _
  have HB4 : Hid (Below w.heap.size w wD) := by rw [← hwD]; exact ((HB3.out.setCell hgl _).setCell hgl _).setCell hgl _
  rw [hwD]
  clear hwD s7 s8 s9 t7 t8 t9 f7 f8 f9
  have HK4 : Hid (Blk wD (g + 1) 43 #[.int .i64 0, .int .i64 0, .int .i64 0, .int .i64 0, .int .i64 0, .int .i64 0, .int .i64 0, .int .i64 0, .int .i64 0, .int .i64 0] ∧ Blk wD (g + 1 + 1) 43 #[.int .i64 x0, .int .i64 x1, .int .i64 x2, .int .i64 x3, .int .i64 x4, .int .i64 x5, .int .i64 x6, .int .i64 x7, .int .i64 x8, .int .i64 x9]) := ⟨k1, k2⟩
  clear k1 k2
  go_wp2_with (first
    | (refine wpList_load_row rfl 43 _ rfl (g + 1 + 1) rfl 43 #[.int .i64 x0, .int .i64 x1, .int .i64 x2, .int .i64 x3, .int .i64 x4, .int .i64 x5, .int .i64 x6, .int .i64 x7, .int .i64 x8, .int .i64 x9] (0, 0) _ HK4.out.2 Tryz.underlying43 rfl (by first | kernel_rfl | rfl) ?_)
    | (refine wpList_store_row rfl 43 _ _ rfl (g + 1) #[.int .i64 x0, .int .i64 x1, .int .i64 x2, .int .i64 x3, .int .i64 x4, .int .i64 x5, .int .i64 x6, .int .i64 x7, .int .i64 x8, .int .i64 x9] rfl rfl 43 _ HK4.out.1 (by first | kernel_rfl | rfl) (by first | kernel_rfl | rfl) (by first | kernel_rfl | rfl) ?_; simp only [Act.put]))
  refine bodyPost_ret (v := .agg #[.int .i64 x0, .int .i64 x1, .int .i64 x2, .int .i64 x3, .int .i64 x4, .int .i64 x5, .int .i64 x6, .int .i64 x7, .int .i64 x8, .int .i64 x9]) (results_cell_row rfl _ _ (g + 1) 43 #[.int .i64 x0, .int .i64 x1, .int .i64 x2, .int .i64 x3, .int .i64 x4, .int .i64 x5, .int .i64 x6, .int .i64 x7, .int .i64 x8, .int .i64 x9] (0, 0) _ rfl (setRow_heap _ _ _ _ _ _ HK4.out.1) Tryz.underlying43 rfl (by kernel_rfl)) rfl ?_
  exact ⟨rfl, below_setRow HB4.out hgl1 _⟩
end Go.Proofs.YthopmdfichfhdaaGreatDoor
