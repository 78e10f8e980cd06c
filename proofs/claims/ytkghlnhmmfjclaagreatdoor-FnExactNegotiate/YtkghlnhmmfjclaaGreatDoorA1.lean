/-
  What spec asks of asks and offers; the best offer for an ask. No statement of the seat is proved here.
-/
import Derived.Test.YtkghlnhmmfjclaaGreatDoorA0
import Derived.Test.YtkghlnhmmfjclaaGreatDoorG5
namespace Go.Proofs.YtkghlnhmmfjclaaGreatDoor
open Go.ChangeShapes Go.WideShapes Go.ChangeAt Go.RowKit
set_option linter.unusedVariables false

/-- What spec.NameOK answers, whatever it is. -/
def NameSpec (nameB : ByteArray → Bool) : Prop := ∀ (s : ByteArray) (w : World), Calls Tryz.prog 38 #[.string s] w fun e w' => e = .returned (.bool (nameB s)) ∧ Below w.heap.size w w'

set_option maxRecDepth 100000 in
theorem specNeed {nameB : ByteArray → Bool} (hN : NameSpec nameB) (nm : ByteArray) (mn mx : Int) (w : World) :
    Calls Tryz.prog 39 #[.agg #[.string nm, .int .i64 mn, .int .i64 mx]] w fun e w' => e = .returned (.bool (needB nameB ⟨nm, mn, mx⟩)) ∧ Below w.heap.size w w' := by
  have hw1 : ∀ o, Below w.heap.size w (w.alloc o) := fun o => (Below.refl _ w).alloc (Nat.le_refl _) _
  have cn := fun w => hN nm w
  have HN : Hid (NameSpec nameB) := hN
  clear hN
  unfold needB
  dsimp only
  obtain ⟨b, hb⟩ : ∃ b, nameB nm = b := ⟨_, rfl⟩
  rw [hb] at cn ⊢
  clear hb
  cases b
  · go_enter Tryz.func39, Tryz.ntmps39
    go_wp2_with (go_at_call 38; go_must (refine (cn _).mono ?_; rintro e w1 ⟨rfl, hb1⟩))
    go_ret
    exact ⟨by simp, good_below (hw1 _) hb1⟩
  · go_enter Tryz.func39, Tryz.ntmps39
    go_wp2_with (go_at_call 38; go_must (refine (cn _).mono ?_; rintro e w1 ⟨rfl, hb1⟩; have hk : Blk w1 w.heap.size 51 #[.string nm, .int .i64 mn, .int .i64 mx] := Blk.below (heap_alloc_last w _) hb1; have e1 := hk.cell 1; have e2 := hk.cell 2; simp at e1 e2))
    all_goals
      go_ret
      refine ⟨congrArg (fun b => Ending.returned (Value.bool b)) ?_, good_below (hw1 _) hb1⟩
      simp
      try omega

set_option maxRecDepth 100000 in
set_option maxHeartbeats 1000000 in
theorem specWishes {nameB : ByteArray → Bool} (hN : NameSpec nameB) {S : Nat → Prop} {l : List Imp} {v : Value} {w : World} (hS : ∀ b, S b → b < w.heap.size) (h : ImpsAt S w v l) :
    Calls Tryz.prog 23 #[v] w fun e w' => e = .returned (.bool (wishesB nameB l)) ∧ Below w.heap.size w w' := by
  obtain ⟨hlm, a, cap, rfl, hc⟩ := h
  have HC : Hid _ := hc
  have HN : Hid (NameSpec nameB) := hN
  have hlm' : (l.length : Int) ≤ 9223372036854775807 := by simp [maxLen] at hlm; omega
  clear hc hlm hN
  unfold wishesB
  by_cases h20 : 20 < l.length
  · rw [if_pos h20]
    have h20' : (20 : Int) < (l.length : Int) := by omega
    go_enter Tryz.func23, Tryz.ntmps23
    go_wp2_with fail
    go_ret
    exact ⟨rfl, Below.refl _ _⟩
  · rw [if_neg h20]
    have h20' : ¬ ((20 : Int) < (l.length : Int)) := by omega
    obtain ⟨F, hF⟩ : ∃ F, wishesFrom nameB l [] = F := ⟨_, rfl⟩
    have HF : Hid (wishesFrom nameB l [] = F) := hF
    rw [hF]
    clear hF
    go_enter Tryz.func23, Tryz.ntmps23
    go_wp2_with fail
    go_loopw [3, 4] (fun i3 i4 wr => ∃ (k : Nat) (seen : List ByteArray), i4 = .int .i64 (k : Int) ∧ k ≤ l.length ∧ seen.length = k ∧ OwnS w.heap.size wr i3 seen ∧ wishesFrom nameB (l.drop k) seen = F ∧ Below w.heap.size w wr) (fun _ i4 _ => l.length - (intOf i4).toNat)
    case atStart => exact ⟨0, [], rfl, by omega, rfl, ⟨rfl, .inr ⟨w.heap.size, 0, #[], rfl, Nat.le_refl _, heap_alloc_last w _, Nat.le_refl _, Nat.zero_le _, rfl, rfl⟩⟩, HF, (Below.refl _ w).alloc (Nat.le_refl _) _⟩
    case round =>
      obtain ⟨k, seen, rfl, hk, hsl, hown, hfrom, hb⟩ := hrel
      by_cases hkn : k < l.length
      · have hkn' : (k : Int) < (l.length : Int) := by omega
        obtain ⟨b, off, rfl, hbB, hcell⟩ := HC.out (by omega)
        obtain ⟨x1, x2, x3⟩ := hcell k hkn
        have hbw := hS b hbB
        rw [List.drop_eq_getElem_cons hkn] at hfrom
        obtain ⟨x, hx⟩ : ∃ x, l[k] = x := ⟨_, rfl⟩
        rw [hx] at x1 x2 x3 hfrom
        clear hx hcell
        obtain ⟨nm, mn, mx⟩ := x
        dsimp only at x1 x2 x3
        have d1 := (hb.cell (p := ⟨b, off + k * 3, none⟩) hbw).trans x1
        have d2 := (hb.cell (p := ⟨b, off + k * 3 + 1, none⟩) hbw).trans x2
        have d3 := (hb.cell (p := ⟨b, off + k * 3 + 2, none⟩) hbw).trans x3
        obtain ⟨a3, c3, hv3, hs3⟩ := hown.value
        rw [hsl] at hv3
        subst hv3
        have cn := fun w => specNeed HN.out nm mn mx w
        simp only [wishesFrom] at hfrom
        obtain ⟨B1, hB1⟩ : ∃ B1, needB nameB ⟨nm, mn, mx⟩ = B1 := ⟨_, rfl⟩
        rw [hB1] at cn hfrom
        clear hB1
        cases B1
        · simp at hfrom
          subst hfrom
          go_wp2_with (go_at_call 39; go_must (refine (cn _).mono ?_; rintro e w1 ⟨rfl, hb1⟩))
          go_ret
          exact ⟨rfl, good_below hb hb1⟩
        · have ch : ∀ w', Below wr.heap.size wr w' → Calls Tryz.prog 40 #[.slice a3 k c3, .string nm] w' fun e w2 => e = .returned (.bool (hasB seen nm)) ∧ w' = w2 := fun w' hbb => hsl ▸ specHas seen nm a3 c3 w' (by omega) (fun h0 => by
            obtain ⟨g, hg, hcc⟩ := hs3 h0
            have hgl : g < wr.heap.size := by
              have := hcc 0 h0
              cases hh : wr.heap[g]? with
              | none => simp [World.cell?, hh] at this
              | some o => exact (Array.getElem?_eq_some_iff.1 hh).1
            exact ⟨g, hg, fun j hj => (hbb.cell (p := ⟨g, j, none⟩) hgl).trans (hcc j hj)⟩)
          obtain ⟨B2, hB2⟩ : ∃ B2, hasB seen nm = B2 := ⟨_, rfl⟩
          rw [hB2] at ch hfrom
          clear hB2
          cases B2
          · simp at hfrom
            have HFR : Hid _ := hfrom
            have HOW : Hid (OwnS w.heap.size wr (.slice a3 k c3) seen) := hown
            have HSL : Hid (seen.length = k) := hsl
            clear hfrom hown hs3 hsl
            obtain ⟨ti, hti, ht0, ht1, ht2⟩ := info9
            go_wp2_with (first
              | (go_at_call 39; go_must (refine (cn _).mono ?_; rintro e w1 ⟨rfl, hb1⟩; have e1 := (hb1.cell (p := ⟨b, off + k * 3, none⟩) (Nat.lt_of_lt_of_le hbw hb.size)).trans d1))
              | (go_at_call 40; go_must (refine (ch _ hb1).mono ?_; rintro e w2 ⟨rfl, rfl⟩))
              | (at_builtin; go_must (refine wpList_appendS rfl (.tmp 30) (.tmp 36) 27 rfl Tryz.underlying27 ti hti ht0 ht1 ht2 w.heap.size (.slice a3 k c3) seen rfl (HOW.out.below (hb1.alloc hb1.size _)) ⟨w1.heap.size, 0, none⟩ 1 nm rfl (new_cell w1 nm) (by have := HSL.out; omega) (by have := hb.size; have := hb1.size; simp only [World.size_alloc]; omega) ?_; intro v4 w4 hown4 hB4 hgr4)))
            have hbb := good_below hb hb1
            exact ⟨⟨k + 1, seen ++ [nm], rfl, by omega, by simp [HSL.out], hown4, HFR.out, (hbb.alloc hbb.size _).trans hB4⟩, by simp [intOf]; omega⟩
          · simp at hfrom
            subst hfrom
            go_wp2_with (first
              | (go_at_call 39; go_must (refine (cn _).mono ?_; rintro e w1 ⟨rfl, hb1⟩; have e1 := (hb1.cell (p := ⟨b, off + k * 3, none⟩) (Nat.lt_of_lt_of_le hbw hb.size)).trans d1))
              | (go_at_call 40; go_must (refine (ch _ hb1).mono ?_; rintro e w2 ⟨rfl, rfl⟩)))
            go_ret
            exact ⟨rfl, good_below hb hb1⟩
      · have hkn' : ¬ ((k : Int) < (l.length : Int)) := by omega
        rw [List.drop_eq_nil_of_le (by omega)] at hfrom
        simp only [wishesFrom] at hfrom
        subst hfrom
        go_wp2_with fail
        go_ret
        exact ⟨rfl, hb⟩

theorem specName : NameSpec nameOK := fun s w => specNameOK s w
set_option maxRecDepth 100000 in
set_option maxHeartbeats 2000000 in
theorem specOffers {nameB : ByteArray → Bool} (hN : NameSpec nameB) {S : Nat → Prop} {l : List Off} {v : Value} {w : World} (hS : ∀ b, S b → b < w.heap.size) (h : OffsAt S w v l) :
    Calls Tryz.prog 22 #[v] w fun e w' => e = .returned (.bool (offersB nameB l)) ∧ Below w.heap.size w w' := by
  obtain ⟨hlm, a, cap, rfl, hc⟩ := h
  have HC : Hid _ := hc
  have HN : Hid (NameSpec nameB) := hN
  have hlm' : (l.length : Int) ≤ 9223372036854775807 := by simp [maxLen] at hlm; omega
  clear hc hlm hN
  unfold offersB
  by_cases h40 : 40 < l.length
  · rw [if_pos h40]
    have h40' : (40 : Int) < (l.length : Int) := by omega
    go_enter Tryz.func22, Tryz.ntmps22
    go_wp2_with fail
    go_ret
    exact ⟨rfl, Below.refl _ _⟩
  · rw [if_neg h40]
    have h40' : ¬ ((40 : Int) < (l.length : Int)) := by omega
    go_enter Tryz.func22, Tryz.ntmps22
    go_wp2_with fail
    go_loopw [3, 4] (fun i3 _ wr => ∃ k : Nat, i3 = .int .i64 (k : Int) ∧ k ≤ l.length ∧ (∀ i (hi : i < l.length), i < k → offB nameB l[i] = true ∧ (([] ++ l.take i).any fun q => sameK (offKey q) (offKey l[i])) = false) ∧ Below w.heap.size w wr) (fun i3 _ _ => l.length - (intOf i3).toNat)
    case atStart => exact ⟨0, rfl, by omega, fun i _ h => by omega, Below.refl _ _⟩
    case round =>
      obtain ⟨k, rfl, hk, hall, hb⟩ := hrel
      have HA : Hid (∀ i (hi : i < l.length), i < k → offB nameB l[i] = true ∧ (([] ++ l.take i).any fun q => sameK (offKey q) (offKey l[i])) = false) := hall
      clear hall
      by_cases hkn : k < l.length
      · have hkn' : (k : Int) < (l.length : Int) := by omega
        obtain ⟨b, off, rfl, hbB, hcell⟩ := HC.out (by omega)
        obtain ⟨x1, x2, x3⟩ := hcell k hkn
        have hbw := hS b hbB
        have d1 := (hb.cell (p := ⟨b, off + k * 3, none⟩) hbw).trans x1
        have d2 := (hb.cell (p := ⟨b, off + k * 3 + 1, none⟩) hbw).trans x2
        have d3 := (hb.cell (p := ⟨b, off + k * 3 + 2, none⟩) hbw).trans x3
        have hbad := fun h => offersFrom_no nameB l [] k hkn h
        obtain ⟨x, hx⟩ : ∃ x, l[k] = x := ⟨_, rfl⟩
        rw [hx] at d1 d2 d3 hbad
        have HXK : Hid (l[k] = x) := hx
        clear hx x1 x2 x3
        obtain ⟨nm, ve, li⟩ := x
        dsimp only at d1 d2 d3
        have HBAD : Hid _ := hbad
        have HCELL : Hid _ := hcell
        clear hbad hcell
        have cn := fun w => HN.out nm w
        obtain ⟨B1, hB1⟩ : ∃ B1, nameB nm = B1 := ⟨_, rfl⟩
        rw [hB1] at cn
        by_cases hfirst : B1 = true ∧ 1 ≤ ve ∧ ve ≤ 999999 ∧ 0 ≤ li
        · obtain ⟨rfl, hv1, hv2, hv3⟩ := hfirst
          have hv1' : ¬ ve < 1 := by omega
          have hv2' : ¬ 999999 < ve := by omega
          have hv3' : ¬ li < 0 := by omega
          go_wp2_with (go_at_call 38; go_must (refine (cn _).mono ?_; rintro e w1 ⟨rfl, hb1⟩; have hk4 : Blk w1 wr.heap.size 54 #[.string nm, .int .i64 ve, .int .i64 li] := Blk.below (heap_alloc_last wr _) hb1; have hb2 : Below wr.heap.size wr w1 := (((Below.refl _ wr).alloc (Nat.le_refl _) _).trans (hb1.mono (by simp))); have e1 := hk4.cell 1; have e2 := hk4.cell 2; simp at e1 e2))
          have HK5 : Hid (Blk w1 wr.heap.size 54 #[.string nm, .int .i64 ve, .int .i64 li]) := hk4
          have hbo : Below w.heap.size w w1 := good_below hb hb2
          clear hk4 e1 e2 cn d1 d2 d3
          go_loopw [5] (fun i5 wz => ∃ j : Nat, i5 = .int .i64 (j : Int) ∧ j ≤ k ∧ (∀ i (hi : i < l.length), i < j → (l[i].right.toList == nm.toList && l[i].ver == ve) = false) ∧ Below w1.heap.size w1 wz) (fun i5 _ => k - (intOf i5).toNat)
          case atStart => exact ⟨0, rfl, by omega, fun i _ h => by omega, Below.refl _ _⟩
          case round =>
            obtain ⟨m, rfl, hm, hma, hbm⟩ := hrel
            have HMA : Hid (∀ i (hi : i < l.length), i < m → (l[i].right.toList == nm.toList && l[i].ver == ve) = false) := hma
            clear hma
            have hk8 := HK5.out.below hbm
            have g0 := hk8.cell 0
            have g1 := hk8.cell 1
            simp at g0 g1
            have hb7 : Below w.heap.size w wr := good_below hbo hbm
            by_cases hmk : m < k
            · have hmk' : (m : Int) < (k : Int) := by omega
              have hml : m < l.length := by omega
              have hml' : (m : Int) < (l.length : Int) := by omega
              obtain ⟨y1, y2, _⟩ := HCELL.out m hml
              have f1 := (hb7.cell (p := ⟨b, off + m * 3, none⟩) hbw).trans y1
              have f2 := (hb7.cell (p := ⟨b, off + m * 3 + 1, none⟩) hbw).trans y2
              obtain ⟨zn, hzn⟩ : ∃ z, l[m].right = z := ⟨_, rfl⟩
              obtain ⟨zv, hzv⟩ : ∃ z, l[m].ver = z := ⟨_, rfl⟩
              rw [hzn] at f1
              rw [hzv] at f2
              have HZN : Hid (l[m].right = zn) := hzn
              have HZV : Hid (l[m].ver = zv) := hzv
              clear hzn hzv y1 y2
              cases hcn : zn.toList == nm.toList
              · go_wp2_with fail
                go_quiet (fail)
                go_wp2_with fail
                refine ⟨⟨m + 1, rfl, by omega, fun i hi him => ?_, bel_drewN hbm _⟩, by simp [intOf]; omega⟩
                by_cases him2 : i < m
                · exact HMA.out i hi him2
                · obtain rfl : i = m := by omega
                  rw [HZN.out, hcn]; rfl
              · cases hcv : zv == ve
                · go_wp2_with fail
                  go_quiet (fail)
                  go_wp2_with fail
                  refine ⟨⟨m + 1, rfl, by omega, fun i hi him => ?_, bel_drewN hbm _⟩, by simp [intOf]; omega⟩
                  by_cases him2 : i < m
                  · exact HMA.out i hi him2
                  · obtain rfl : i = m := by omega
                    rw [HZV.out, hcv]; simp
                · go_wp2_with fail
                  go_quiet (fail)
                  go_wp2_with fail
                  go_ret
                  refine ⟨?_, bel_drewN hb7 _⟩
                  rw [HBAD.out (.inr (List.any_eq_true.2 ⟨l[m], by rw [List.nil_append, List.mem_take_iff_getElem]; exact ⟨m, by omega, rfl⟩, by unfold sameK offKey; dsimp only; rw [HZN.out, HZV.out, hcn, hcv]; rfl⟩))]
                  rfl
            · have hmk' : ¬ ((m : Int) < (k : Int)) := by omega
              go_wp2_with fail
              refine ⟨⟨k + 1, rfl, by omega, fun i hi hik => ?_, hb7⟩, by simp [intOf]; omega⟩
              by_cases hik2 : i < k
              · exact HA.out i hi hik2
              · obtain rfl : i = k := by omega
                rw [HXK.out]
                refine ⟨?_, ?_⟩
                · unfold offB; dsimp only; rw [hB1, decide_eq_true hv1, decide_eq_true hv2, decide_eq_true hv3]; rfl
                · rw [List.any_eq_false]
                  intro q hq
                  rw [List.nil_append, List.mem_take_iff_getElem] at hq
                  obtain ⟨i', hi', rfl⟩ := hq
                  have := HMA.out i' (by omega) (by omega)
                  unfold sameK offKey
                  dsimp only
                  rw [this]
                  simp
        · have hbd : offersFrom nameB l [] = false := HBAD.out (.inl (by
            unfold offB
            dsimp only
            rw [hB1]
            rcases Bool.eq_false_or_eq_true B1 with rfl | rfl
            · have : ¬ (1 ≤ ve ∧ ve ≤ 999999 ∧ 0 ≤ li) := fun h => hfirst ⟨rfl, h.1, h.2.1, h.2.2⟩
              simp
              omega
            · simp))
          have HBD : Hid (offersFrom nameB l [] = false) := hbd
          clear hbd
          cases B1
          · go_wp2_with (go_at_call 38; go_must (refine (cn _).mono ?_; rintro e w1 ⟨rfl, hb1⟩; have hk4 : Blk w1 wr.heap.size 54 #[.string nm, .int .i64 ve, .int .i64 li] := Blk.below (heap_alloc_last wr _) hb1; have hb2 : Below wr.heap.size wr w1 := (((Below.refl _ wr).alloc (Nat.le_refl _) _).trans (hb1.mono (by simp))); have e1 := hk4.cell 1; have e2 := hk4.cell 2; simp at e1 e2))
            go_ret
            exact ⟨by rw [HBD.out]; rfl, good_below hb hb2⟩
          · by_cases hv1 : ve < 1
            · go_wp2_with (go_at_call 38; go_must (refine (cn _).mono ?_; rintro e w1 ⟨rfl, hb1⟩; have hk4 : Blk w1 wr.heap.size 54 #[.string nm, .int .i64 ve, .int .i64 li] := Blk.below (heap_alloc_last wr _) hb1; have hb2 : Below wr.heap.size wr w1 := (((Below.refl _ wr).alloc (Nat.le_refl _) _).trans (hb1.mono (by simp))); have e1 := hk4.cell 1; have e2 := hk4.cell 2; simp at e1 e2))
              go_ret
              exact ⟨by rw [HBD.out]; rfl, good_below hb hb2⟩
            · by_cases hv2 : 999999 < ve
              · go_wp2_with (go_at_call 38; go_must (refine (cn _).mono ?_; rintro e w1 ⟨rfl, hb1⟩; have hk4 : Blk w1 wr.heap.size 54 #[.string nm, .int .i64 ve, .int .i64 li] := Blk.below (heap_alloc_last wr _) hb1; have hb2 : Below wr.heap.size wr w1 := (((Below.refl _ wr).alloc (Nat.le_refl _) _).trans (hb1.mono (by simp))); have e1 := hk4.cell 1; have e2 := hk4.cell 2; simp at e1 e2))
                go_ret
                exact ⟨by rw [HBD.out]; rfl, good_below hb hb2⟩
              · have hv3 : li < 0 := by
                  by_cases h0 : li < 0
                  · exact h0
                  · exact absurd ⟨rfl, by omega, by omega, by omega⟩ hfirst
                go_wp2_with (go_at_call 38; go_must (refine (cn _).mono ?_; rintro e w1 ⟨rfl, hb1⟩; have hk4 : Blk w1 wr.heap.size 54 #[.string nm, .int .i64 ve, .int .i64 li] := Blk.below (heap_alloc_last wr _) hb1; have hb2 : Below wr.heap.size wr w1 := (((Below.refl _ wr).alloc (Nat.le_refl _) _).trans (hb1.mono (by simp))); have e1 := hk4.cell 1; have e2 := hk4.cell 2; simp at e1 e2))
                go_ret
                exact ⟨by rw [HBD.out]; rfl, good_below hb hb2⟩
      · have hkn' : ¬ ((k : Int) < (l.length : Int)) := by omega
        go_wp2_with fail
        go_ret
        exact ⟨by rw [offersFrom_yes nameB l [] (fun i hi => HA.out i hi (by omega))]; rfl, hb⟩

/-- The best among the first k. -/
def BestIn (offs : List Off) (a : Imp) (k : Nat) (r : Int) : Prop := (r = -1 ∧ ∀ i (hi : i < offs.length), i < k → fitsB a offs[i] = false) ∨ ∃ (b : Nat) (hb : b < offs.length), b < k ∧ r = (b : Int) ∧ fitsB a offs[b] = true ∧ ∀ i (hi : i < offs.length), i < k → fitsB a offs[i] = true → offs[i].ver ≤ offs[b].ver
theorem BestIn.skip {offs : List Off} {a : Imp} {k : Nat} {r : Int} (h : BestIn offs a k r) (hk : k < offs.length) (hf : fitsB a offs[k] = false) : BestIn offs a (k + 1) r := by
  rcases h with ⟨rfl, h⟩ | ⟨b, hb, hbk, rfl, h1, h2⟩
  · refine .inl ⟨rfl, fun i hi hik => ?_⟩
    by_cases e : i < k
    · exact h i hi e
    · obtain rfl : i = k := by omega
      exact hf
  · refine .inr ⟨b, hb, by omega, rfl, h1, fun i hi hik hfi => ?_⟩
    by_cases e : i < k
    · exact h2 i hi e hfi
    · obtain rfl : i = k := by omega
      rw [hf] at hfi; cases hfi
theorem BestIn.first {offs : List Off} {a : Imp} {k : Nat} (h : BestIn offs a k (-1)) (hk : k < offs.length) (hf : fitsB a offs[k] = true) : BestIn offs a (k + 1) (k : Int) := by
  rcases h with ⟨_, h⟩ | ⟨b, hb, hbk, h0, h1, h2⟩
  · refine .inr ⟨k, hk, by omega, rfl, hf, fun i hi hik hfi => ?_⟩
    by_cases e : i < k
    · rw [h i hi e] at hfi; cases hfi
    · obtain rfl : i = k := by omega
      omega
  · omega
theorem BestIn.low {offs : List Off} {a : Imp} {k b : Nat} (h : BestIn offs a k (b : Int)) (hk : k < offs.length) (hb : b < offs.length) (hv : ¬ offs[b].ver < offs[k].ver) : BestIn offs a (k + 1) (b : Int) := by
  rcases h with ⟨h0, h⟩ | ⟨b', hb', hbk, h0, h1, h2⟩
  · omega
  · obtain rfl : b = b' := by omega
    refine .inr ⟨b, hb, by omega, rfl, h1, fun i hi hik hfi => ?_⟩
    by_cases e : i < k
    · exact h2 i hi e hfi
    · obtain rfl : i = k := by omega
      omega
theorem BestIn.more {offs : List Off} {a : Imp} {k b : Nat} (h : BestIn offs a k (b : Int)) (hk : k < offs.length) (hb : b < offs.length) (hf : fitsB a offs[k] = true) (hv : offs[b].ver < offs[k].ver) : BestIn offs a (k + 1) (k : Int) := by
  rcases h with ⟨h0, h⟩ | ⟨b', hb', hbk, h0, h1, h2⟩
  · omega
  · obtain rfl : b = b' := by omega
    refine .inr ⟨k, hk, by omega, rfl, hf, fun i hi hik hfi => ?_⟩
    by_cases e : i < k
    · have := h2 i hi e hfi; omega
    · obtain rfl : i = k := by omega
      omega
theorem BestIn.done {offs : List Off} {a : Imp} {r : Int} (h : BestIn offs a offs.length r) : BestAt offs a r := by
  rcases h with ⟨rfl, h⟩ | ⟨b, hb, hbk, rfl, h1, h2⟩
  · refine .inl ⟨rfl, fun o ho => ?_⟩
    obtain ⟨i, hi, rfl⟩ := List.getElem_of_mem ho
    exact h i hi hi
  · refine .inr ⟨b, hb, rfl, h1, fun o ho => ?_⟩
    obtain ⟨i, hi, rfl⟩ := List.getElem_of_mem ho
    exact h2 i hi hi
theorem BestIn.range {offs : List Off} {a : Imp} {k : Nat} {r : Int} (h : BestIn offs a k r) : r = -1 ∨ ∃ b : Nat, b < offs.length ∧ b < k ∧ r = (b : Int) := by
  rcases h with ⟨rfl, _⟩ | ⟨b, hb, hbk, rfl, _⟩
  · exact .inl rfl
  · exact .inr ⟨b, hb, hbk, rfl⟩

set_option maxRecDepth 100000 in
set_option maxHeartbeats 4000000 in
theorem specBest {S : Nat → Prop} {l : List Off} {v : Value} {w : World} (hS : ∀ b, S b → b < w.heap.size) (h : OffsAt S w v l) (hl : l.length ≤ 1000000) (an : ByteArray) (mn mx : Int) :
    Calls Tryz.prog 25 #[v, .agg #[.string an, .int .i64 mn, .int .i64 mx]] w fun e w' => (∃ r : Int, e = .returned (.int .i64 r) ∧ BestAt l ⟨an, mn, mx⟩ r) ∧ Below w.heap.size w w' := by
  obtain ⟨hlm, a, cap, rfl, hc⟩ := h
  have HC : Hid _ := hc
  have hl' : (l.length : Int) ≤ 1000000 := by omega
  clear hc hlm
  have hw1 : ∀ o, Below w.heap.size w (w.alloc o) := fun o => (Below.refl _ w).alloc (Nat.le_refl _) _
  have HA0 : Hid (Blk (w.alloc (.cells #[.string an, .int .i64 mn, .int .i64 mx] 51)) w.heap.size 51 #[.string an, .int .i64 mn, .int .i64 mx]) := heap_alloc_last w _
  go_enter Tryz.func25, Tryz.ntmps25
  go_wp2_with fail
  go_loopw [5, 6, 7] (fun i5 i6 _ wr => ∃ (k : Nat) (r : Int), i6 = .int .i64 (k : Int) ∧ i5 = .int .i64 r ∧ k ≤ l.length ∧ BestIn l ⟨an, mn, mx⟩ k r ∧ Blk wr w.heap.size 51 #[.string an, .int .i64 mn, .int .i64 mx] ∧ Below w.heap.size w wr) (fun _ i6 _ _ => l.length - (intOf i6).toNat)
  case atStart => exact ⟨0, -1, rfl, rfl, by omega, .inl ⟨rfl, fun i _ h => by omega⟩, HA0.out, hw1 _⟩
  case round =>
    obtain ⟨k, r, rfl, rfl, hk, hbest, hblk, hb⟩ := hrel
    have HB : Hid (BestIn l ⟨an, mn, mx⟩ k r) := hbest
    have HBK : Hid (Blk wr w.heap.size 51 #[.string an, .int .i64 mn, .int .i64 mx]) := hblk
    clear hbest hblk
    by_cases hkn : k < l.length
    · have hkn' : (k : Int) < (l.length : Int) := by omega
      obtain ⟨b, off, rfl, hbB, hcell⟩ := HC.out (by omega)
      obtain ⟨x1, x2, x3⟩ := hcell k hkn
      have hbw := hS b hbB
      have d1 := (hb.cell (p := ⟨b, off + k * 3, none⟩) hbw).trans x1
      have d2 := (hb.cell (p := ⟨b, off + k * 3 + 1, none⟩) hbw).trans x2
      have d3 := (hb.cell (p := ⟨b, off + k * 3 + 2, none⟩) hbw).trans x3
      obtain ⟨x, hx⟩ : ∃ x, l[k] = x := ⟨_, rfl⟩
      rw [hx] at d1 d2 d3
      have HXK : Hid (l[k] = x) := hx
      clear hx x1 x2 x3
      obtain ⟨nm, ve, li⟩ := x
      dsimp only at d1 d2 d3
      have hwz : ∀ o, Below wr.heap.size wr (wr.alloc o) := fun o => (Below.refl _ wr).alloc (Nat.le_refl _) _
      have bA : Blk (wr.alloc (.cells #[.string nm, .int .i64 ve, .int .i64 li] 54)) w.heap.size 51 #[.string an, .int .i64 mn, .int .i64 mx] := HBK.out.below (hwz _)
      have bO : Blk (wr.alloc (.cells #[.string nm, .int .i64 ve, .int .i64 li] 54)) wr.heap.size 54 #[.string nm, .int .i64 ve, .int .i64 li] := heap_alloc_last wr _
      have HN : Hid (Blk (wr.alloc (.cells #[.string nm, .int .i64 ve, .int .i64 li] 54)) w.heap.size 51 #[.string an, .int .i64 mn, .int .i64 mx]) := bA
      have a0 := bA.cell 0
      have a1 := bA.cell 1
      have a2 := bA.cell 2
      have o0 := bO.cell 0
      have o1 := bO.cell 1
      simp at a0 a1 a2 o0 o1
      clear bA bO
      have hb2 : Below w.heap.size w (wr.alloc (.cells #[.string nm, .int .i64 ve, .int .i64 li] 54)) := good_below hb (hwz _)
      have HB2 : Hid (Below w.heap.size w (wr.alloc (.cells #[.string nm, .int .i64 ve, .int .i64 li] 54))) := hb2
      go_wp2_with fail
      have hend : ∀ (r' : Int), BestIn l ⟨an, mn, mx⟩ (k + 1) r' → True := fun _ _ => trivial
      clear hend
      have fits_def : fitsB ⟨an, mn, mx⟩ l[k] = (nm.toList == an.toList && decide (mn ≤ ve) && decide (ve ≤ mx)) := by rw [HXK.out]; rfl
      have HFD : Hid _ := fits_def
      clear fits_def
      have hrng := HB.out.range
      cases hcn : nm.toList == an.toList
      · go_quiet (fail)
        go_wp2_with fail
        exact ⟨⟨k + 1, r, rfl, rfl, by omega, HB.out.skip hkn (by rw [HFD.out, hcn]; rfl), HN.out.below (bel_drewN (Below.refl _ _) _), bel_drewN HB2.out _⟩, by simp [intOf]; omega⟩
      · by_cases h1 : mn ≤ ve
        · by_cases h2 : ve ≤ mx
          · have hfit : fitsB ⟨an, mn, mx⟩ l[k] = true := by rw [HFD.out, hcn, decide_eq_true h1, decide_eq_true h2]; rfl
            have HF : Hid (fitsB ⟨an, mn, mx⟩ l[k] = true) := hfit
            clear hfit
            rcases hrng with rfl | ⟨bb, hbb, hbk, rfl⟩
            · go_quiet (fail)
              go_wp2_with fail
              exact ⟨⟨k + 1, k, rfl, rfl, by omega, HB.out.first hkn HF.out, HN.out.below (bel_drewN (Below.refl _ _) _), bel_drewN HB2.out _⟩, by simp [intOf]; omega⟩
            · have hbb' : (bb : Int) < (l.length : Int) := by omega
              have hnn : ¬ ((bb : Int) < 0) := by omega
              obtain ⟨_, y2, _⟩ := hcell bb hbb
              have f2 := (hb2.cell (p := ⟨b, off + bb * 3 + 1, none⟩) hbw).trans y2
              obtain ⟨zv, hzv⟩ : ∃ z, l[bb].ver = z := ⟨_, rfl⟩
              rw [hzv] at f2
              have HZV : Hid (l[bb].ver = zv) := hzv
              clear hzv y2
              by_cases hgt : zv < ve
              · go_quiet (fail)
                go_wp2_with fail
                exact ⟨⟨k + 1, k, rfl, rfl, by omega, HB.out.more hkn hbb HF.out (by rw [HZV.out, HXK.out]; exact hgt), HN.out.below (bel_drewN (Below.refl _ _) _), bel_drewN HB2.out _⟩, by simp [intOf]; omega⟩
              · go_quiet (fail)
                go_wp2_with fail
                exact ⟨⟨k + 1, bb, rfl, rfl, by omega, HB.out.low hkn hbb (by rw [HZV.out, HXK.out]; exact hgt), HN.out.below (bel_drewN (Below.refl _ _) _), bel_drewN HB2.out _⟩, by simp [intOf]; omega⟩
          · go_quiet (fail)
            go_wp2_with fail
            exact ⟨⟨k + 1, r, rfl, rfl, by omega, HB.out.skip hkn (by rw [HFD.out, decide_eq_false h2]; simp), HN.out.below (bel_drewN (Below.refl _ _) _), bel_drewN HB2.out _⟩, by simp [intOf]; omega⟩
        · go_quiet (fail)
          go_wp2_with fail
          exact ⟨⟨k + 1, r, rfl, rfl, by omega, HB.out.skip hkn (by rw [HFD.out, decide_eq_false h1]; simp), HN.out.below (bel_drewN (Below.refl _ _) _), bel_drewN HB2.out _⟩, by simp [intOf]; omega⟩
    · have hkn' : ¬ ((k : Int) < (l.length : Int)) := by omega
      obtain rfl : k = l.length := by omega
      go_wp2_with fail
      go_ret
      exact ⟨⟨r, rfl, HB.out.done⟩, hb⟩
end Go.Proofs.YtkghlnhmmfjclaaGreatDoor
