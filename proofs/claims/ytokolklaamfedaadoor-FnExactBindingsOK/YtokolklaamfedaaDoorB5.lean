/-
  spec.BindingsOK. No statement of the seat is proved here.
-/
import Derived.Test.YtokolklaamfedaaDoorB4
namespace Go.Proofs.YtokolklaamfedaaDoor
open Go.ChangeShapes Go.WideShapes Go.ChangeAt Go.RowKit
set_option linter.unusedVariables false

theorem bel_drewN {w W : World} (h : Below w.heap.size w W) (n : Nat) : Below w.heap.size w (W.drewN n) := ⟨h.1, h.2, h.3, h.4, h.5⟩
set_option maxRecDepth 100000 in
set_option maxHeartbeats 4000000 in
theorem specBindings {nameB : ByteArray → Bool} (hN : NameSpec nameB) {S : Nat → Prop} {l : List Bnd} {v : Value} {w : World} (hS : ∀ b, S b → b < w.heap.size) (h : BndsAt S w v l) (hok : ∀ x ∈ l, BndOK 1048576 x) :
    Calls Tryd.prog 5 #[v] w fun e w' => e = .returned (.bool (bindsB nameB l)) ∧ Below w.heap.size w w' := by
  obtain ⟨hlm, a, cap, rfl, hc⟩ := h
  have HC : Hid _ := hc
  have HN : Hid (NameSpec nameB) := hN
  have HZ : Hid _ := hok
  have hlm' : (l.length : Int) ≤ 9223372036854775807 := by simp [maxLen] at hlm; omega
  clear hc hlm hN hok
  by_cases h60 : 60 < l.length
  · have e : bindsB nameB l = false := by unfold bindsB; rw [decide_eq_false (by omega)]; rfl
    rw [e]
    have h60' : (60 : Int) < (l.length : Int) := by omega
    go_enter Tryd.func5, Tryd.ntmps5
    go_wp2_with fail
    go_ret
    exact ⟨rfl, Below.refl _ _⟩
  · have h60' : ¬ ((60 : Int) < (l.length : Int)) := by omega
    go_enter Tryd.func5, Tryd.ntmps5
    go_wp2_with fail
    go_loopw [3, 4] (fun i3 _ wr => ∃ k : Nat, i3 = .int .i64 (k : Int) ∧ k ≤ l.length ∧ (∀ i (hi : i < l.length), i < k → (bndB nameB l[i] && !((l.take i).any fun q => q.name.toList == l[i].name.toList)) = true) ∧ Below w.heap.size w wr) (fun i3 _ _ => l.length - (intOf i3).toNat)
    case atStart => exact ⟨0, rfl, by omega, fun i _ h => by omega, Below.refl _ _⟩
    case round =>
      obtain ⟨k, rfl, hk, hall, hb⟩ := hrel
      have HA : Hid _ := hall
      clear hall
      by_cases hkn : k < l.length
      · have hkn' : (k : Int) < (l.length : Int) := by omega
        obtain ⟨b, off, rfl, hbB, hcell⟩ := HC.out (by omega)
        obtain ⟨d0, d1, d2, d3, d5, d6, d7, nv, d4, x4⟩ := (hcell k hkn).keep hbB (cells_below hS hb)
        have hbw := hS b hbB
        have hbad := fun h => binds_bad (nameB := nameB) hkn h
        have hzx := HZ.out _ (List.getElem_mem hkn)
        obtain ⟨x, hx⟩ : ∃ x, l[k] = x := ⟨_, rfl⟩
        rw [hx] at d0 d1 d2 d3 d5 d6 d7 x4 hbad hzx
        have HXK : Hid (l[k] = x) := hx
        clear hx
        obtain ⟨nm, ky, tg, sc, ns, cd, rk, wp⟩ := x
        dsimp only at d0 d1 d2 d3 d5 d6 d7 x4
        have HBAD : Hid _ := hbad
        have HCELL : Hid _ := hcell
        clear hbad hcell
        have cn := fun s w => HN.out s w
        have ct := fun w => specTag HN.out tg w
        have cw := fun w => specWhen HN.out cd (by have := hzx.2.2; dsimp only at this; omega) w
        clear hzx
        obtain ⟨a4, c4, hv4⟩ := x4.shape
        subst hv4
        have HX4 : Hid (WntsAt S wr (.slice a4 ns.length c4) ns) := x4
        have hnsl := x4.1
        have hnsl' : (ns.length : Int) ≤ 9223372036854775807 := by simp [maxLen] at hnsl; omega
        clear x4 hnsl
        obtain ⟨B3, hB3⟩ : ∃ B3, tagB nameB tg = B3 := ⟨_, rfl⟩
        obtain ⟨B6, hB6⟩ : ∃ B6, whenB nameB cd = B6 := ⟨_, rfl⟩
        have HB3 : Hid _ := hB3
        have HB6 : Hid _ := hB6
        rw [hB3] at ct
        rw [hB6] at cw
        clear hB3 hB6
        have hbndB : bndB nameB ⟨nm, ky, tg, sc, ns, cd, rk, wp⟩ = (nameB nm && nameB ky && B3 && (decide (1 ≤ sc) && decide (sc ≤ 3)) && decide (ns.length ≤ 8) && ns.all (wantB nameB) && B6) := by unfold bndB; dsimp only; rw [HB3.out, HB6.out]
        have HBND : Hid _ := hbndB
        clear hbndB
        have hbf : bndB nameB ⟨nm, ky, tg, sc, ns, cd, rk, wp⟩ = false → bindsB nameB l = false := fun h => HBAD.out (by rw [h]; rfl)
        have HBF : Hid _ := hbf
        clear hbf
        cases q1 : nameB nm
        · go_wp2_with (first
            | (go_at_call 10; have hchk := hk1; refine (cn _ _).mono ?_; rintro e w2 ⟨rfl, hb2⟩; have hk2 := hk1.below hb2; have b2 := good_below b1 hb2; have g2 := hk2.cell 2; simp at g2)
            | (go_at_call 10; go_must (refine (cn _ _).mono ?_; rintro e w1 ⟨rfl, hb1⟩; have hk1 : Blk w1 wr.heap.size 35 #[.string nm, .string ky, .string tg, .int .i64 sc, .slice a4 ns.length c4, .string cd, .int .i64 rk, .bool wp] := Blk.below (heap_alloc_last wr _) hb1; have b1 : Below wr.heap.size wr w1 := ((Below.refl _ wr).alloc (Nat.le_refl _) _).trans (hb1.mono (by simp)); have f1 := hk1.cell 1; simp at f1))
            | (go_at_call 11; go_must (refine (ct _).mono ?_; rintro e w3 ⟨rfl, hb3⟩; have hk3 := hk2.below hb3; have b3 := good_below b2 hb3; have i3 := hk3.cell 3; have i4 := hk3.cell 4; have i5 := hk3.cell 5; simp at i3 i4 i5))
            | (go_at_call 12; go_must (refine (cw _).mono ?_; rintro e w4 ⟨rfl, hb4⟩; have hk4 := hk3.below hb4; have b4 := good_below b3 hb4)))
          go_ret
          exact ⟨by rw [HBF.out (by rw [HBND.out, q1]; simp)]; rfl, good_below hb b1⟩
        cases q2 : nameB ky
        · go_wp2_with (first
            | (go_at_call 10; have hchk := hk1; refine (cn _ _).mono ?_; rintro e w2 ⟨rfl, hb2⟩; have hk2 := hk1.below hb2; have b2 := good_below b1 hb2; have g2 := hk2.cell 2; simp at g2)
            | (go_at_call 10; go_must (refine (cn _ _).mono ?_; rintro e w1 ⟨rfl, hb1⟩; have hk1 : Blk w1 wr.heap.size 35 #[.string nm, .string ky, .string tg, .int .i64 sc, .slice a4 ns.length c4, .string cd, .int .i64 rk, .bool wp] := Blk.below (heap_alloc_last wr _) hb1; have b1 : Below wr.heap.size wr w1 := ((Below.refl _ wr).alloc (Nat.le_refl _) _).trans (hb1.mono (by simp)); have f1 := hk1.cell 1; simp at f1))
            | (go_at_call 11; go_must (refine (ct _).mono ?_; rintro e w3 ⟨rfl, hb3⟩; have hk3 := hk2.below hb3; have b3 := good_below b2 hb3; have i3 := hk3.cell 3; have i4 := hk3.cell 4; have i5 := hk3.cell 5; simp at i3 i4 i5))
            | (go_at_call 12; go_must (refine (cw _).mono ?_; rintro e w4 ⟨rfl, hb4⟩; have hk4 := hk3.below hb4; have b4 := good_below b3 hb4)))
          go_ret
          exact ⟨by rw [HBF.out (by rw [HBND.out, q2]; simp)]; rfl, good_below hb b2⟩
        cases B3
        · go_wp2_with (first
            | (go_at_call 10; have hchk := hk1; refine (cn _ _).mono ?_; rintro e w2 ⟨rfl, hb2⟩; have hk2 := hk1.below hb2; have b2 := good_below b1 hb2; have g2 := hk2.cell 2; simp at g2)
            | (go_at_call 10; go_must (refine (cn _ _).mono ?_; rintro e w1 ⟨rfl, hb1⟩; have hk1 : Blk w1 wr.heap.size 35 #[.string nm, .string ky, .string tg, .int .i64 sc, .slice a4 ns.length c4, .string cd, .int .i64 rk, .bool wp] := Blk.below (heap_alloc_last wr _) hb1; have b1 : Below wr.heap.size wr w1 := ((Below.refl _ wr).alloc (Nat.le_refl _) _).trans (hb1.mono (by simp)); have f1 := hk1.cell 1; simp at f1))
            | (go_at_call 11; go_must (refine (ct _).mono ?_; rintro e w3 ⟨rfl, hb3⟩; have hk3 := hk2.below hb3; have b3 := good_below b2 hb3; have i3 := hk3.cell 3; have i4 := hk3.cell 4; have i5 := hk3.cell 5; simp at i3 i4 i5))
            | (go_at_call 12; go_must (refine (cw _).mono ?_; rintro e w4 ⟨rfl, hb4⟩; have hk4 := hk3.below hb4; have b4 := good_below b3 hb4)))
          go_ret
          exact ⟨by rw [HBF.out (by rw [HBND.out]; simp)]; rfl, good_below hb b3⟩
        by_cases s1 : sc < 1
        · go_wp2_with (first
            | (go_at_call 10; have hchk := hk1; refine (cn _ _).mono ?_; rintro e w2 ⟨rfl, hb2⟩; have hk2 := hk1.below hb2; have b2 := good_below b1 hb2; have g2 := hk2.cell 2; simp at g2)
            | (go_at_call 10; go_must (refine (cn _ _).mono ?_; rintro e w1 ⟨rfl, hb1⟩; have hk1 : Blk w1 wr.heap.size 35 #[.string nm, .string ky, .string tg, .int .i64 sc, .slice a4 ns.length c4, .string cd, .int .i64 rk, .bool wp] := Blk.below (heap_alloc_last wr _) hb1; have b1 : Below wr.heap.size wr w1 := ((Below.refl _ wr).alloc (Nat.le_refl _) _).trans (hb1.mono (by simp)); have f1 := hk1.cell 1; simp at f1))
            | (go_at_call 11; go_must (refine (ct _).mono ?_; rintro e w3 ⟨rfl, hb3⟩; have hk3 := hk2.below hb3; have b3 := good_below b2 hb3; have i3 := hk3.cell 3; have i4 := hk3.cell 4; have i5 := hk3.cell 5; simp at i3 i4 i5))
            | (go_at_call 12; go_must (refine (cw _).mono ?_; rintro e w4 ⟨rfl, hb4⟩; have hk4 := hk3.below hb4; have b4 := good_below b3 hb4)))
          go_ret
          exact ⟨by rw [HBF.out (by rw [HBND.out, decide_eq_false (show ¬ 1 ≤ sc by omega)]; simp)]; rfl, good_below hb b3⟩
        by_cases s2 : 3 < sc
        · go_wp2_with (first
            | (go_at_call 10; have hchk := hk1; refine (cn _ _).mono ?_; rintro e w2 ⟨rfl, hb2⟩; have hk2 := hk1.below hb2; have b2 := good_below b1 hb2; have g2 := hk2.cell 2; simp at g2)
            | (go_at_call 10; go_must (refine (cn _ _).mono ?_; rintro e w1 ⟨rfl, hb1⟩; have hk1 : Blk w1 wr.heap.size 35 #[.string nm, .string ky, .string tg, .int .i64 sc, .slice a4 ns.length c4, .string cd, .int .i64 rk, .bool wp] := Blk.below (heap_alloc_last wr _) hb1; have b1 : Below wr.heap.size wr w1 := ((Below.refl _ wr).alloc (Nat.le_refl _) _).trans (hb1.mono (by simp)); have f1 := hk1.cell 1; simp at f1))
            | (go_at_call 11; go_must (refine (ct _).mono ?_; rintro e w3 ⟨rfl, hb3⟩; have hk3 := hk2.below hb3; have b3 := good_below b2 hb3; have i3 := hk3.cell 3; have i4 := hk3.cell 4; have i5 := hk3.cell 5; simp at i3 i4 i5))
            | (go_at_call 12; go_must (refine (cw _).mono ?_; rintro e w4 ⟨rfl, hb4⟩; have hk4 := hk3.below hb4; have b4 := good_below b3 hb4)))
          go_ret
          exact ⟨by rw [HBF.out (by rw [HBND.out, decide_eq_false (show ¬ sc ≤ 3 by omega)]; simp)]; rfl, good_below hb b3⟩
        by_cases s3 : 8 < ns.length
        · have s3' : (8 : Int) < (ns.length : Int) := by omega
          go_wp2_with (first
            | (go_at_call 10; have hchk := hk1; refine (cn _ _).mono ?_; rintro e w2 ⟨rfl, hb2⟩; have hk2 := hk1.below hb2; have b2 := good_below b1 hb2; have g2 := hk2.cell 2; simp at g2)
            | (go_at_call 10; go_must (refine (cn _ _).mono ?_; rintro e w1 ⟨rfl, hb1⟩; have hk1 : Blk w1 wr.heap.size 35 #[.string nm, .string ky, .string tg, .int .i64 sc, .slice a4 ns.length c4, .string cd, .int .i64 rk, .bool wp] := Blk.below (heap_alloc_last wr _) hb1; have b1 : Below wr.heap.size wr w1 := ((Below.refl _ wr).alloc (Nat.le_refl _) _).trans (hb1.mono (by simp)); have f1 := hk1.cell 1; simp at f1))
            | (go_at_call 11; go_must (refine (ct _).mono ?_; rintro e w3 ⟨rfl, hb3⟩; have hk3 := hk2.below hb3; have b3 := good_below b2 hb3; have i3 := hk3.cell 3; have i4 := hk3.cell 4; have i5 := hk3.cell 5; simp at i3 i4 i5))
            | (go_at_call 12; go_must (refine (cw _).mono ?_; rintro e w4 ⟨rfl, hb4⟩; have hk4 := hk3.below hb4; have b4 := good_below b3 hb4)))
          go_ret
          exact ⟨by rw [HBF.out (by rw [HBND.out, decide_eq_false (show ¬ ns.length ≤ 8 by omega)]; simp)]; rfl, good_below hb b3⟩
        have s3' : ¬ ((8 : Int) < (ns.length : Int)) := by omega
        cases B6
        · go_wp2_with (first
            | (go_at_call 10; have hchk := hk1; refine (cn _ _).mono ?_; rintro e w2 ⟨rfl, hb2⟩; have hk2 := hk1.below hb2; have b2 := good_below b1 hb2; have g2 := hk2.cell 2; simp at g2)
            | (go_at_call 10; go_must (refine (cn _ _).mono ?_; rintro e w1 ⟨rfl, hb1⟩; have hk1 : Blk w1 wr.heap.size 35 #[.string nm, .string ky, .string tg, .int .i64 sc, .slice a4 ns.length c4, .string cd, .int .i64 rk, .bool wp] := Blk.below (heap_alloc_last wr _) hb1; have b1 : Below wr.heap.size wr w1 := ((Below.refl _ wr).alloc (Nat.le_refl _) _).trans (hb1.mono (by simp)); have f1 := hk1.cell 1; simp at f1))
            | (go_at_call 11; go_must (refine (ct _).mono ?_; rintro e w3 ⟨rfl, hb3⟩; have hk3 := hk2.below hb3; have b3 := good_below b2 hb3; have i3 := hk3.cell 3; have i4 := hk3.cell 4; have i5 := hk3.cell 5; simp at i3 i4 i5))
            | (go_at_call 12; go_must (refine (cw _).mono ?_; rintro e w4 ⟨rfl, hb4⟩; have hk4 := hk3.below hb4; have b4 := good_below b3 hb4)))
          go_ret
          exact ⟨by rw [HBF.out (by rw [HBND.out]; simp)]; rfl, good_below hb b4⟩
        go_wp2_with (first
            | (go_at_call 10; have hchk := hk1; refine (cn _ _).mono ?_; rintro e w2 ⟨rfl, hb2⟩; have hk2 := hk1.below hb2; have b2 := good_below b1 hb2; have g2 := hk2.cell 2; simp at g2)
            | (go_at_call 10; go_must (refine (cn _ _).mono ?_; rintro e w1 ⟨rfl, hb1⟩; have hk1 : Blk w1 wr.heap.size 35 #[.string nm, .string ky, .string tg, .int .i64 sc, .slice a4 ns.length c4, .string cd, .int .i64 rk, .bool wp] := Blk.below (heap_alloc_last wr _) hb1; have b1 : Below wr.heap.size wr w1 := ((Below.refl _ wr).alloc (Nat.le_refl _) _).trans (hb1.mono (by simp)); have f1 := hk1.cell 1; simp at f1))
            | (go_at_call 11; go_must (refine (ct _).mono ?_; rintro e w3 ⟨rfl, hb3⟩; have hk3 := hk2.below hb3; have b3 := good_below b2 hb3; have i3 := hk3.cell 3; have i4 := hk3.cell 4; have i5 := hk3.cell 5; simp at i3 i4 i5))
            | (go_at_call 12; go_must (refine (cw _).mono ?_; rintro e w4 ⟨rfl, hb4⟩; have hk4 := hk3.below hb4; have b4 := good_below b3 hb4)))
        have hwa : ∀ x : Bool, ns.all (wantB nameB) = x → bndB nameB ⟨nm, ky, tg, sc, ns, cd, rk, wp⟩ = x := fun x hx => by
          rw [HBND.out, q1, q2, decide_eq_true (show 1 ≤ sc by omega), decide_eq_true (show sc ≤ 3 by omega), decide_eq_true (show ns.length ≤ 8 by omega), hx]; simp
        have HWA : Hid _ := hwa
        have HK4 : Hid (Blk w4 wr.heap.size 35 #[.string nm, .string ky, .string tg, .int .i64 sc, .slice a4 ns.length c4, .string cd, .int .i64 rk, .bool wp]) := hk4
        obtain ⟨_, a5, c5, hv5, hq5⟩ := (show WntsAt S wr (.slice a4 ns.length c4) ns from HX4.out)
        simp only [Value.slice.injEq, true_and] at hv5
        obtain ⟨rfl, rfl⟩ := hv5
        have HQ : Hid _ := hq5
        have hbw4 := good_below hb b4
        clear hk1 hk2 hk3 hk4 hq5 f1 g2 i3 i4 i5 cw ct hwa b1 b2 b3 hb1 hb2 hb3 hb4
        have hs8 : (ns.length : Int) ≤ 8 := by omega
        have cwt := fun w ky tg md => specWant HN.out ky tg md w
        clear cn
        go_loopw [5] (fun i5 wz => ∃ j : Nat, i5 = .int .i64 (j : Int) ∧ j ≤ ns.length ∧ (∀ i (hi : i < ns.length), i < j → wantB nameB ns[i] = true) ∧ Below w4.heap.size w4 wz) (fun i5 _ => ns.length - (intOf i5).toNat)
        case atStart => exact ⟨0, rfl, by omega, fun i _ h => by omega, Below.refl _ _⟩
        case round =>
          obtain ⟨j, rfl, hj, hja, hbz⟩ := hrel
          have HJA : Hid _ := hja
          clear hja
          have hk6 := HK4.out.below hbz
          have e0 := hk6.cell 0
          have e4 := hk6.cell 4
          simp at e0 e4
          by_cases hjn : j < ns.length
          · have hjn' : (j : Int) < (ns.length : Int) := by omega
            obtain ⟨b4', o4, rfl, hb4B, hc4⟩ := HQ.out (by omega)
            obtain ⟨y1, y2, y3⟩ := hc4 j hjn
            have hb5 := good_below b4 hbz
            have hbx := good_below hb hb5
            have hlt := Nat.lt_of_lt_of_le (hS _ hb4B) hb.size
            have f1 := (hb5.cell (p := ⟨b4', o4 + j * 3, none⟩) hlt).trans y1
            have f2 := (hb5.cell (p := ⟨b4', o4 + j * 3 + 1, none⟩) hlt).trans y2
            have f3 := (hb5.cell (p := ⟨b4', o4 + j * 3 + 2, none⟩) hlt).trans y3
            obtain ⟨z, hz⟩ : ∃ z, ns[j] = z := ⟨_, rfl⟩
            rw [hz] at f1 f2 f3
            have HZZ : Hid (ns[j] = z) := hz
            clear hz y1 y2 y3 hc4
            obtain ⟨zk, zt, zm⟩ := z
            dsimp only at f1 f2 f3
            have cw2 := fun w => cwt w zk zt zm
            cases hcmp : wantB nameB ⟨zk, zt, zm⟩
            · rw [hcmp] at cw2
              go_wp2_with (go_at_call 13; go_must (refine (cw2 _).mono ?_; rintro e w5 ⟨rfl, hb6⟩))
              go_ret
              refine ⟨?_, good_below hbx hb6⟩
              rw [HBF.out (HWA.out false (by rw [List.all_eq_false]; exact ⟨_, List.getElem_mem hjn, by rw [HZZ.out, hcmp]; simp⟩))]
              rfl
            · rw [hcmp] at cw2
              go_wp2_with (go_at_call 13; go_must (refine (cw2 _).mono ?_; rintro e w5 ⟨rfl, hb6⟩))
              refine ⟨⟨j + 1, rfl, by omega, fun i hi hij => ?_, good_below hbz hb6⟩, by simp [intOf]; omega⟩
              by_cases hij2 : i < j
              · exact HJA.out i hi hij2
              · obtain rfl : i = j := by omega
                rw [HZZ.out]; exact hcmp
          · have hjn' : ¬ ((j : Int) < (ns.length : Int)) := by omega
            have hyes : bndB nameB ⟨nm, ky, tg, sc, ns, cd, rk, wp⟩ = true := HWA.out true (by
              rw [List.all_eq_true]
              intro x hx
              obtain ⟨i, hi, rfl⟩ := List.getElem_of_mem hx
              exact HJA.out i hi (by omega))
            have HYES : Hid _ := hyes
            have hb6 := good_below hbw4 hbz
            have HK7 : Hid (Blk _ _ 35 #[.string nm, .string ky, .string tg, .int .i64 sc, .slice a4 ns.length c4, .string cd, .int .i64 rk, .bool wp]) := hk6
            clear hyes hk6
            go_wp2_with fail
            go_loopw [6] (fun i6 wz => ∃ j : Nat, i6 = .int .i64 (j : Int) ∧ j ≤ k ∧ (∀ i (hi : i < l.length), i < j → (l[i].name.toList == nm.toList) = false) ∧ Below wr.heap.size wr wz) (fun i6 _ => k - (intOf i6).toNat)
            case atStart => exact ⟨0, rfl, by omega, fun i _ h => by omega, Below.refl _ _⟩
            case round =>
              obtain ⟨m, rfl, hm, hma, hbm⟩ := hrel
              have HMA : Hid _ := hma
              clear hma
              have hk8 := HK7.out.below hbm
              have g0 := hk8.cell 0
              simp at g0
              have hb7 := good_below hb6 hbm
              by_cases hmk : m < k
              · have hmk' : (m : Int) < (k : Int) := by omega
                have hml : m < l.length := by omega
                have hml' : (m : Int) < (l.length : Int) := by omega
                obtain ⟨y1, _⟩ := HCELL.out m hml
                have f1 := (hb7.cell (p := ⟨b, off + m * 8, none⟩) hbw).trans y1
                obtain ⟨zn, hzn⟩ : ∃ z, l[m].name = z := ⟨_, rfl⟩
                rw [hzn] at f1
                have HZN : Hid (l[m].name = zn) := hzn
                clear hzn y1
                cases hcn : zn.toList == nm.toList
                · go_wp2_with fail
                  go_quiet (fail)
                  go_wp2_with fail
                  refine ⟨⟨m + 1, rfl, by omega, fun i hi him => ?_, bel_drewN hbm _⟩, by simp [intOf]; omega⟩
                  by_cases him2 : i < m
                  · exact HMA.out i hi him2
                  · obtain rfl : i = m := by omega
                    rw [HZN.out, hcn]
                · go_wp2_with fail
                  go_quiet (fail)
                  go_wp2_with fail
                  go_ret
                  refine ⟨?_, bel_drewN hb7 _⟩
                  rw [HBAD.out (by
                    have : ((l.take k).any fun q => q.name.toList == nm.toList) = true := List.any_eq_true.2 ⟨l[m], by rw [List.mem_take_iff_getElem]; exact ⟨m, by omega, rfl⟩, by rw [HZN.out]; exact hcn⟩
                    rw [this]; simp)]
                  rfl
              · have hmk' : ¬ ((m : Int) < (k : Int)) := by omega
                go_wp2_with fail
                refine ⟨⟨k + 1, rfl, by omega, fun i hi hik => ?_, hb7⟩, by simp [intOf]; omega⟩
                by_cases hik2 : i < k
                · exact HA.out i hi hik2
                · obtain rfl : i = k := by omega
                  rw [HXK.out, HYES.out]
                  have : ((l.take i).any fun q => q.name.toList == nm.toList) = false := List.any_eq_false.2 (fun q hq => by
                    rw [List.mem_take_iff_getElem] at hq
                    obtain ⟨i', hi', rfl⟩ := hq
                    rw [HMA.out i' (by omega) (by omega)]; simp)
                  dsimp only
                  rw [this]; rfl
      · have hkn' : ¬ ((k : Int) < (l.length : Int)) := by omega
        go_wp2_with fail
        go_ret
        exact ⟨by rw [binds_good (by omega) (fun i hi => HA.out i hi (by omega))]; rfl, hb⟩
end Go.Proofs.YtokolklaamfedaaDoor
