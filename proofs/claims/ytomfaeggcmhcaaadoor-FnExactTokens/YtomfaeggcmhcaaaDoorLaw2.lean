/-
  The contracts of the law's markTokenS and heldTokenS. No statement of the seat is proved here.
-/
import Derived.Test.YtomfaeggcmhcaaaDoorLaw1
namespace Go.Proofs.YtomfaeggcmhcaaaDoor
open Go.ChangeShapes Go.WideShapes Go.ChangeAt Go.RowKit
set_option linter.unusedVariables false

/-- The lexeme number m once it is marked. -/
def mkTok (m : Nat) : Tok := ⟨1 + 6 * m, markOf (2 + 6 * m), 3 + 6 * m, 4 + 6 * m, 5 + 6 * m, 6 + 6 * m⟩
/-- The first n lexemes of the cells are marked. -/
def MarkC (cur : Array Value) (n : Nat) : Prop := ∀ m, m < n → ∀ j, j < 6 → cur[m * 6 + j]? = (Tok.cells (mkTok m))[j]?
/-- The slice's n lexemes are marked. -/
def MarkedT (w : World) (v : Value) (n : Nat) : Prop := (v = .slice none 0 0 ∧ n = 0) ∨ ∃ g cap cur, v = .slice (some ⟨g, 0, none⟩) n cap ∧ Blk w g 37 cur ∧ MarkC cur n
theorem MarkedT.below {w w' : World} {v : Value} {n : Nat} (h : MarkedT w v n) (hb : Below w.heap.size w w') : MarkedT w' v n := by
  rcases h with h | ⟨g, cap, cur, h1, h2, h3⟩
  · exact .inl h
  · exact .inr ⟨g, cap, cur, h1, h2.below hb, h3⟩

theorem six {k n : Nat} (h : k < n) {j : Nat} (hj : j < 6) : k * 6 + j < n * 6 := by
  have := Nat.mul_le_mul_right 6 (Nat.succ_le_of_lt h)
  omega
theorem MarkC.step {cur : Array Value} {k : Nat} (h : MarkC cur k) (hc : k * 6 + 5 < cur.size) :
    MarkC ((((((cur.setIfInBounds (k * 6) (.int .i64 (1 + 6 * (k : Int)))).setIfInBounds (k * 6 + 1) (.string (markOf (2 + 6 * k)))).setIfInBounds (k * 6 + 2) (.int .i64 (1 + 6 * (k : Int) + 1 + 1))).setIfInBounds (k * 6 + 3) (.int .i64 (1 + 6 * (k : Int) + 1 + 1 + 1))).setIfInBounds (k * 6 + 4) (.int .i64 (1 + 6 * (k : Int) + 1 + 1 + 1 + 1))).setIfInBounds (k * 6 + 5) (.int .i64 (1 + 6 * (k : Int) + 1 + 1 + 1 + 1 + 1))) (k + 1) := by
  intro m hm j hj
  simp only [Array.getElem?_setIfInBounds, Array.size_setIfInBounds]
  by_cases hmk : m = k
  · subst hmk
    obtain rfl | rfl | rfl | rfl | rfl | rfl : j = 0 ∨ j = 1 ∨ j = 2 ∨ j = 3 ∨ j = 4 ∨ j = 5 := by omega
    all_goals
      simp [mkTok, Tok.cells]
      try omega
  · have := h m (by omega) j hj
    have := six (show m < k by omega) hj
    rw [if_neg (by omega), if_neg (by omega), if_neg (by omega), if_neg (by omega), if_neg (by omega), if_neg (by omega)]
    assumption

set_option maxRecDepth 100000 in
set_option maxHeartbeats 1000000 in
theorem lawMark {B : Nat} {v : Value} {l : List Tok} {w : World} (hl : l.length ≤ 20000) (h : OwnT B w v l) :
    Calls Tryd.prog 7 #[v, .int .i64 1] w fun e w' => e = .returned (.int .i64 (1 + 6 * l.length : Nat)) ∧ Below B w w' ∧ MarkedT w' v l.length := by
  obtain ⟨n, hn⟩ : ∃ n, l.length = n := ⟨_, rfl⟩
  rw [hn] at hl ⊢
  have e1 : ∃ g0 a1 c1 cu, v = .slice a1 n c1 ∧ ((n = 0 ∧ a1 = none ∧ c1 = 0) ∨ (a1 = some ⟨g0, 0, none⟩ ∧ B ≤ g0 ∧ Blk w g0 37 cu ∧ n * 6 ≤ cu.size)) := by
    rcases h.2 with ⟨rfl, h0⟩ | ⟨g, cap, cur, rfl, hB, hg, h1, h2, h3, h4⟩
    · exact ⟨0, none, 0, #[], by rw [← hn, h0], .inl ⟨by omega, rfl, rfl⟩⟩
    · exact ⟨g, _, cap, cur, by rw [hn], .inr ⟨rfl, hB, hg, by rw [h3]; exact Nat.mul_le_mul_right 6 (by omega)⟩⟩
  obtain ⟨g, a1, c1, cu, rfl, q⟩ := e1
  clear h
  go_enter Tryd.func7, Tryd.ntmps7
  go_wp2
  go_loopw [1, 5] (fun i1 i5 wr => ∃ k : Nat, i1 = .int .i64 (1 + 6 * k : Nat) ∧ i5 = .int .i64 (k : Int) ∧ k ≤ n ∧ Below B w wr ∧ ((n = 0 ∧ a1 = none ∧ c1 = 0) ∨ ∃ cur, a1 = some ⟨g, 0, none⟩ ∧ B ≤ g ∧ Blk wr g 37 cur ∧ n * 6 ≤ cur.size ∧ MarkC cur k)) (fun _ i5 _ => n - (intOf i5).toNat)
  case atStart =>
    refine ⟨0, rfl, rfl, by omega, Below.refl _ _, ?_⟩
    rcases q with q | ⟨q1, q2, q3, q4⟩
    · exact .inl q
    · exact .inr ⟨cu, q1, q2, q3, q4, fun m hm => by omega⟩
  case round =>
    obtain ⟨k, rfl, rfl, hk, hB, hq⟩ := hrel
    by_cases hkn : k < n
    · have hkn' : (k : Int) < (n : Int) := by omega
      rcases hq with ⟨h0, _⟩ | ⟨cur, rfl, hBg, hblk, hsz, hmc⟩
      · omega
      have HM : Hid (MarkC cur k) := hmc
      have HB : Hid (Blk wr g 37 cur) := hblk
      have s5 := six hkn (show 5 < 6 by omega)
      have z0 : k * 6 < cur.size := by omega
      have z1 : k * 6 + 1 < cur.size := by omega
      have z2 : k * 6 + 2 < cur.size := by omega
      have z3 : k * 6 + 3 < cur.size := by omega
      have z4 : k * 6 + 4 < cur.size := by omega
      have z5 : k * 6 + 5 < cur.size := by omega
      have c0 := hblk.cell (k * 6)
      rw [Array.getElem?_eq_getElem z0] at c0
      have f0 := hblk.fro (k * 6)
      have ct := lawText (2 + 6 * k) (by omega) (by omega)
      rw [show ((2 + 6 * k : Nat) : Int) = 1 + 6 * (k : Int) + 1 by omega] at ct
      obtain ⟨M, hM⟩ : ∃ M, markOf (2 + 6 * k) = M := ⟨_, rfl⟩
      rw [hM] at ct
      have HMM : Hid (markOf (2 + 6 * k) = M) := hM
      clear hM
      clear hmc hblk q
      go_wp2_with (go_at_call 13; go_must (refine (ct _).mono ?_; rintro e w1 ⟨rfl, hB1⟩; have hb1 : Blk w1 g 37 _ := (HB.out.set (k * 6) (.int .i64 (1 + 6 * (k : Int)))).below hB1; have d1 := hb1.cell (k * 6 + 1); have d2 := hb1.cell (k * 6 + 2); have d3 := hb1.cell (k * 6 + 3); have d4 := hb1.cell (k * 6 + 4); have d5 := hb1.cell (k * 6 + 5); simp [z1, z2, z3, z4, z5] at d1 d2 d3 d4 d5; have f1 := hb1.fro (k * 6 + 1); have f2 := hb1.fro (k * 6 + 2); have f3 := hb1.fro (k * 6 + 3); have f4 := hb1.fro (k * 6 + 4); have f5 := hb1.fro (k * 6 + 5)))
      have hB0 : Below B w (wr.setCell ⟨g, k * 6, none⟩ (.int .i64 (1 + 6 * (k : Int)))) := Below.setCell hB hBg _
      have hB2 : Below B w w1 := hB0.trans (hB1.mono (by simp only [World.size_setCell]; have := HB.out.lt; omega))
      refine ⟨⟨k + 1, by congr 1, rfl, by omega, ?_, .inr ⟨_, trivial, hBg, ((((hb1.set (k * 6 + 1) _).set (k * 6 + 2) _).set (k * 6 + 3) _).set (k * 6 + 4) _).set (k * 6 + 5) _, ?_, ?_⟩⟩, by simp [intOf]; omega⟩
      · exact ((((hB2.setCell hBg _).setCell hBg _).setCell hBg _).setCell hBg _).setCell hBg _
      · simpa using hsz
      · have := HM.out.step z5
        rw [HMM.out] at this
        exact this
    · have hkn' : ¬ ((k : Int) < (n : Int)) := by omega
      obtain rfl : k = n := by omega
      go_wp2_with fail
      go_ret
      refine ⟨by go_num, hB, ?_⟩
      rcases hq with ⟨h0, rfl, rfl⟩ | ⟨cur, rfl, hBg, hblk, hsz, hmc⟩
      · exact .inl ⟨by rw [h0], h0⟩
      · exact .inr ⟨g, c1, cur, rfl, hblk, hmc⟩

set_option maxRecDepth 100000 in
set_option maxHeartbeats 1000000 in
theorem lawHeld {v : Value} {n : Nat} {w : World} (hl : n ≤ 20000) (h : MarkedT w v n) :
    Calls Tryd.prog 8 #[v, .int .i64 1] w fun e w' => e = .returned (.int .i64 (1 + 6 * n : Nat)) ∧ Below w.heap.size w w' := by
  have e1 : ∃ g0 a1 c1 cu, v = .slice a1 n c1 ∧ (0 < n → a1 = some ⟨g0, 0, none⟩ ∧ Blk w g0 37 cu ∧ MarkC cu n) := by
    rcases h with ⟨rfl, rfl⟩ | ⟨g, cap, cur, rfl, hg, hm⟩
    · exact ⟨0, none, 0, #[], rfl, fun h => by omega⟩
    · exact ⟨g, _, cap, cur, rfl, fun _ => ⟨rfl, hg, hm⟩⟩
  obtain ⟨g, a1, c1, cu, rfl, q⟩ := e1
  clear h
  go_enter Tryd.func8, Tryd.ntmps8
  go_wp2
  go_loopw [1, 5] (fun i1 i5 wr => ∃ k : Nat, i1 = .int .i64 (1 + 6 * k : Nat) ∧ i5 = .int .i64 (k : Int) ∧ k ≤ n ∧ Below w.heap.size w wr) (fun _ i5 _ => n - (intOf i5).toNat)
  case atStart => exact ⟨0, rfl, rfl, by omega, Below.refl _ _⟩
  case round =>
    obtain ⟨k, rfl, rfl, hk, hB⟩ := hrel
    by_cases hkn : k < n
    · have hkn' : (k : Int) < (n : Int) := by omega
      obtain ⟨rfl, hblk, hmc⟩ := q (by omega)
      have x : ∀ N : GoodW (fun W => Below w.heap.size w W), ∀ j, j < 6 → N.W.cell? ⟨g, k * 6 + j, none⟩ = (Tok.cells (mkTok k))[j]? := fun N j hj => by
        rw [(hblk.below N.ok).cell, hmc k hkn j hj]
      have y1 := fun N => x N 1 (by omega)
      have c0 := x ⟨wr, hB⟩ 0 (by omega)
      obtain ⟨M, hM⟩ : ∃ M, markOf (2 + 6 * k) = M := ⟨_, rfl⟩
      have ct := lawText (2 + 6 * k) (by omega) (by omega)
      rw [show ((2 + 6 * k : Nat) : Int) = 1 + 6 * (k : Int) + 1 by omega, hM] at ct
      simp [Tok.cells, mkTok, hM] at y1 c0
      have HX : Hid _ := x
      clear x hM hblk hmc q
      have g1 : ((1 + 6 * (k : Int)) != (1 + 6 * (k : Int))) = false := by simp
      go_wp2_with fail
      haveI ne : Nonempty (GoodW (fun W => Below w.heap.size w W)) := ⟨⟨_, hB⟩⟩
      refine wp_region_calm (fun W => Below w.heap.size w W) (by kernel_rfl) (by kernel_rfl) hB.drew ?_
      repeat (go_big_quiet_step ((go_at_call 13; exact Calls.calm _ (fun w2 hb => good_below (GoodW.ok _) hb) (ct _))))
      refine wpQuiet_nil ?_
      rintro W2 ⟨⟨W3, hW3⟩, hE⟩
      have hW2 : Below w.heap.size w W2 := by rw [hE]; exact hW3
      clear hE hW3 W3
      have c2 := HX.out ⟨W2, hW2⟩ 2 (by omega)
      have c3 := HX.out ⟨W2, hW2⟩ 3 (by omega)
      have c4 := HX.out ⟨W2, hW2⟩ 4 (by omega)
      have c5 := HX.out ⟨W2, hW2⟩ 5 (by omega)
      simp [Tok.cells, mkTok] at c2 c3 c4 c5
      rw [show 3 + 6 * (k : Int) = 1 + 6 * (k : Int) + 1 + 1 by omega] at c2
      rw [show 4 + 6 * (k : Int) = 1 + 6 * (k : Int) + 1 + 1 + 1 by omega] at c3
      rw [show 5 + 6 * (k : Int) = 1 + 6 * (k : Int) + 1 + 1 + 1 + 1 by omega] at c4
      rw [show 6 + 6 * (k : Int) = 1 + 6 * (k : Int) + 1 + 1 + 1 + 1 + 1 by omega] at c5
      go_wp2_with fail
      exact ⟨⟨k + 1, by congr 1, rfl, by omega, hW2⟩, by simp [intOf]; omega⟩
    · have hkn' : ¬ ((k : Int) < (n : Int)) := by omega
      obtain rfl : k = n := by omega
      go_wp2_with fail
      go_ret
      exact ⟨by go_num, hB⟩
end Go.Proofs.YtomfaeggcmhcaaaDoor
