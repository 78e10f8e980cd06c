/-
  What impl asks of asks and offers; the best version for an ask. No statement of the seat is proved here.
-/
import Derived.Test.YtkghlnhmmfjclaaGreatDoorA3
namespace Go.Proofs.YtkghlnhmmfjclaaGreatDoor
open Go.ChangeShapes Go.WideShapes Go.ChangeAt Go.RowKit
set_option linter.unusedVariables false

set_option maxRecDepth 100000 in
theorem implNeed (nm : ByteArray) (mn mx : Int) (w : World) (hT : Lib.Utf8Tabs 0 1 w) :
    Calls Tryz.prog 45 #[.agg #[.string nm, .int .i64 mn, .int .i64 mx]] w fun e w' => e = .returned (.bool (needB nameOK ⟨nm, mn, mx⟩)) ∧ Below w.heap.size w w' := by
  have hw1 : ∀ o, Below w.heap.size w (w.alloc o) := fun o => (Below.refl _ w).alloc (Nat.le_refl _) _
  have cn := fun w' (hb : Below w.heap.size w w') => implNameOK nm w' (Utf8Tabs_below hT hb)
  clear hT
  unfold needB
  dsimp only
  obtain ⟨b, hb⟩ : ∃ b, nameOK nm = b := ⟨_, rfl⟩
  rw [hb] at cn ⊢
  clear hb
  cases b
  · go_enter Tryz.func45, Tryz.ntmps45
    go_wp2_with (go_at_call 42; go_must (refine (cn _ (hw1 _)).mono ?_; rintro e w1 ⟨rfl, hb1⟩))
    go_ret
    exact ⟨by simp, good_below (hw1 _) hb1⟩
  · go_enter Tryz.func45, Tryz.ntmps45
    go_wp2_with (go_at_call 42; go_must (refine (cn _ (hw1 _)).mono ?_; rintro e w1 ⟨rfl, hb1⟩; have hk : Blk w1 w.heap.size 51 #[.string nm, .int .i64 mn, .int .i64 mx] := Blk.below (heap_alloc_last w _) hb1; have e1 := hk.cell 1; have e2 := hk.cell 2; simp at e1 e2))
    all_goals
      go_ret
      refine ⟨congrArg (fun b => Ending.returned (Value.bool b)) ?_, good_below (hw1 _) hb1⟩
      simp
      try omega

set_option maxRecDepth 100000 in
theorem implBetween (r lo hi : Int) (w : World) : Calls Tryz.prog 43 #[.int .i64 r, .int .i64 lo, .int .i64 hi] w fun e w' => e = .returned (.bool (decide (lo ≤ r) && decide (r ≤ hi))) ∧ w' = w := by
  go_enter Tryz.func43, Tryz.ntmps43
  go_wp2_with fail
  all_goals
    go_ret
    refine ⟨congrArg (fun b => Ending.returned (Value.bool b)) ?_, rfl⟩
    simp
    try omega

set_option maxRecDepth 100000 in
set_option maxHeartbeats 1000000 in
theorem implWishes {S : Nat → Prop} {l : List Imp} {v : Value} {w : World} (hS : ∀ b, S b → b < w.heap.size) (h : ImpsAt S w v l) (hsz : ∀ x ∈ l, x.name.size ≤ 1048576) (hT : Lib.Utf8Tabs 0 1 w) :
    Calls Tryz.prog 30 #[v] w fun e w' => e = .returned (.bool (wishesB nameOK l)) ∧ Below w.heap.size w w' := by
  obtain ⟨hlm, a, cap, rfl, hc⟩ := h
  have HC : Hid _ := hc
  have HT : Hid (Lib.Utf8Tabs 0 1 w) := hT
  have HZ : Hid _ := hsz
  have hlm' : (l.length : Int) ≤ 9223372036854775807 := by simp [maxLen] at hlm; omega
  clear hc hlm hT hsz
  unfold wishesB
  by_cases h20 : 20 < l.length
  · rw [if_pos h20]
    have h20' : (20 : Int) < (l.length : Int) := by omega
    go_enter Tryz.func30, Tryz.ntmps30
    go_wp2_with fail
    go_ret
    exact ⟨rfl, Below.refl _ _⟩
  · rw [if_neg h20, wishes_split]
    have h20' : ¬ ((20 : Int) < (l.length : Int)) := by omega
    obtain ⟨F, hF⟩ : ∃ F, (l.all (needB nameOK) && !dupFrom (l.map Imp.name) []) = F := ⟨_, rfl⟩
    rw [hF]
    have HF : Hid _ := hF
    clear hF
    go_enter Tryz.func30, Tryz.ntmps30
    go_wp2_with fail
    go_loopw [3, 11] (fun i3 i11 wr => ∃ (k : Nat), i11 = .int .i64 (k : Int) ∧ k ≤ l.length ∧ OwnS w.heap.size wr i3 ((l.take k).map Imp.name) ∧ (l.take k).all (needB nameOK) = true ∧ Below w.heap.size w wr) (fun _ i11 _ => l.length - (intOf i11).toNat)
    case atStart => exact ⟨0, rfl, by omega, ⟨rfl, .inl ⟨rfl, rfl⟩⟩, by simp, Below.refl _ _⟩
    case round =>
      obtain ⟨k, rfl, hk, hown, hall, hb⟩ := hrel
      have HAL : Hid _ := hall
      clear hall
      by_cases hkn : k < l.length
      · have hkn' : (k : Int) < (l.length : Int) := by omega
        obtain ⟨b, off, rfl, hbB, hcell⟩ := HC.out (by omega)
        obtain ⟨x1, x2, x3⟩ := hcell k hkn
        have hbw := hS b hbB
        have htk : l.take (k + 1) = l.take k ++ [l[k]] := List.take_succ_eq_append_getElem hkn
        have hmem := List.getElem_mem hkn
        obtain ⟨x, hx⟩ : ∃ x, l[k] = x := ⟨_, rfl⟩
        rw [hx] at x1 x2 x3 htk hmem
        have HTK : Hid _ := htk
        have HM : Hid _ := hmem
        clear hx hcell htk hmem
        obtain ⟨nm, mn, mx⟩ := x
        dsimp only at x1 x2 x3
        have d1 := (hb.cell (p := ⟨b, off + k * 3, none⟩) hbw).trans x1
        have d2 := (hb.cell (p := ⟨b, off + k * 3 + 1, none⟩) hbw).trans x2
        have d3 := (hb.cell (p := ⟨b, off + k * 3 + 2, none⟩) hbw).trans x3
        obtain ⟨a3, c3, hv3, hs3⟩ := hown.value
        have hlen : ((l.take k).map Imp.name).length = k := by simp; omega
        rw [hlen] at hv3
        have HLN : Hid _ := hlen
        subst hv3
        clear hs3 hlen
        have HOW : Hid (OwnS w.heap.size wr (.slice a3 k c3) ((l.take k).map Imp.name)) := hown
        clear hown x1 x2 x3
        have cn := fun w' (hbb : Below w.heap.size w w') => implNeed nm mn mx w' (Utf8Tabs_below HT.out hbb)
        obtain ⟨B1, hB1⟩ : ∃ B1, needB nameOK ⟨nm, mn, mx⟩ = B1 := ⟨_, rfl⟩
        rw [hB1] at cn
        have HB1 : Hid _ := hB1
        clear hB1
        cases B1
        · have hno : l.all (needB nameOK) = false := by
            rw [List.all_eq_false]
            exact ⟨_, HM.out, by rw [HB1.out]; simp⟩
          have hF := HF.out
          rw [hno, Bool.false_and] at hF
          subst hF
          clear hno
          go_wp2_with (go_at_call 45; go_must (refine (cn _ (hb.alloc hb.size _)).mono ?_; rintro e w1 ⟨rfl, hb1⟩))
          go_ret
          exact ⟨by simp, (hb.alloc hb.size _).trans (hb1.mono (by have := hb.size; simp only [World.size_alloc]; omega))⟩
        · obtain ⟨ti, hti, ht0, ht1, ht2⟩ := info9
          go_wp2_with (first
            | (go_at_call 45; go_must (refine (cn _ (hb.alloc hb.size _)).mono ?_; rintro e w1 ⟨rfl, hb1⟩; have hk1 : Blk w1 wr.heap.size 51 #[.string nm, .int .i64 mn, .int .i64 mx] := Blk.below (heap_alloc_last wr _) hb1; have e1 := hk1.cell 0; simp at e1))
            | (at_builtin; go_must (refine wpList_appendS rfl (.tmp 18) (.tmp 21) 27 rfl Tryz.underlying27 ti hti ht0 ht1 ht2 w.heap.size (.slice a3 k c3) ((l.take k).map Imp.name) rfl ((HOW.out.below ((Below.refl _ wr).alloc (Nat.le_refl _) _)).below hb1 |>.below ((Below.refl _ w1).alloc (Nat.le_refl _) _)) ⟨w1.heap.size, 0, none⟩ 1 nm rfl (new_cell w1 nm) (by have := HLN.out; omega) (by have := hb.size; have := hb1.size; simp only [World.size_alloc] at *; omega) ?_; intro v4 w4 hown4 hB4 hgr4)))
          have hbb := (hb.alloc hb.size (.cells #[.string nm, .int .i64 mn, .int .i64 mx] 51)).trans (hb1.mono (by have := hb.size; simp only [World.size_alloc]; omega))
          refine ⟨⟨k + 1, rfl, by omega, ?_, ?_, (hbb.alloc hbb.size _).trans hB4⟩, by simp [intOf]; omega⟩
          · rw [HTK.out, List.map_append]; exact hown4
          · rw [HTK.out, List.all_append, HAL.out]; simp [HB1.out]
      · have hkl : k = l.length := by omega
        subst hkl
        have hall := HAL.out
        simp only [List.take_length] at hown hall
        have hkn' : ¬ ((l.length : Int) < (l.length : Int)) := by omega
        obtain ⟨a3, c3, hv3, hs3⟩ := hown.value
        subst hv3
        have hF := HF.out
        rw [hall, Bool.true_and] at hF
        have ct := implSingle (l.map Imp.name) a3 c3 wr (by simp; omega) (fun s hs => by
          obtain ⟨x, hx, rfl⟩ := List.mem_map.1 hs
          exact HZ.out x hx) (fun h0 => by
            obtain ⟨g, hg, hcc⟩ := hs3 h0
            exact ⟨g, hg, cell_lt (hcc 0 h0), hcc⟩)
        obtain ⟨D, hD⟩ : ∃ D, dupFrom (l.map Imp.name) [] = D := ⟨_, rfl⟩
        rw [hD] at ct hF
        rw [List.length_map] at ct
        clear hD hall hown hs3
        subst hF
        go_wp2_with (go_at_call 46; go_must (refine ct.mono ?_; rintro e w1 ⟨rfl, hb1⟩))
        go_ret
        exact ⟨rfl, good_below hb hb1⟩


theorem map_key_take (l : List Off) (k : Nat) (hk : k < l.length) : (l.map offKey).take (k + 1) = (l.map offKey).take k ++ [offKey l[k]] := by
  rw [List.take_succ_eq_append_getElem (by simpa using hk)]
  simp
set_option maxRecDepth 100000 in
set_option maxHeartbeats 4000000 in
theorem implOffers {S : Nat → Prop} {l : List Off} {v : Value} {w : World} (hS : ∀ b, S b → b < w.heap.size) (h : OffsAt S w v l) (hsz : ∀ x ∈ l, x.right.size ≤ 1048576) (hT : Lib.Utf8Tabs 0 1 w) :
    Calls Tryz.prog 29 #[v] w fun e w' => e = .returned (.bool (offersB nameOK l)) ∧ Below w.heap.size w w' := by
  obtain ⟨hlm, a, cap, rfl, hc⟩ := h
  have HC : Hid _ := hc
  have HT : Hid (Lib.Utf8Tabs 0 1 w) := hT
  have HZ : Hid (∀ x ∈ l, x.right.size ≤ 1048576) := hsz
  have hlm' : (l.length : Int) ≤ 9223372036854775807 := by simp [maxLen] at hlm; omega
  clear hc hlm hT hsz
  unfold offersB
  by_cases h40 : 40 < l.length
  · rw [if_pos h40]
    have h40' : (40 : Int) < (l.length : Int) := by omega
    go_enter Tryz.func29, Tryz.ntmps29
    go_wp2_with fail
    go_ret
    exact ⟨rfl, Below.refl _ _⟩
  · rw [if_neg h40, offers_split]
    have h40' : ¬ ((40 : Int) < (l.length : Int)) := by omega
    obtain ⟨F, hF⟩ : ∃ F, (l.all (offB nameOK) && !dupK (l.map offKey) (List.map offKey [])) = F := ⟨_, rfl⟩
    rw [hF]
    have HF : Hid ((l.all (offB nameOK) && !dupK (l.map offKey) []) = F) := hF
    clear hF
    go_enter Tryz.func29, Tryz.ntmps29
    go_wp2_with fail
    go_loopw [3, 11] (fun i3 i11 wr => ∃ (k : Nat) (pa : Option Addr) (pc : Nat), i11 = .int .i64 (k : Int) ∧ i3 = .slice pa k pc ∧ k ≤ l.length ∧ OwnPks w.heap.size wr (.slice pa k pc) ((l.map offKey).take k) ∧ (∀ i (hi : i < l.length), i < k → offB nameOK l[i] = true) ∧ Below w.heap.size w wr) (fun _ i11 _ => l.length - (intOf i11).toNat)
    case atStart => exact ⟨0, none, 0, rfl, rfl, by omega, OwnPks.nil _ _, fun i _ h => by omega, Below.refl _ _⟩
    case round =>
      obtain ⟨k, pa, pc, rfl, rfl, hk, hop, hall, hb⟩ := hrel
      have hbs := hb.size
      have HA : Hid (∀ i (hi : i < l.length), i < k → offB nameOK l[i] = true) := hall
      have HOP : Hid (OwnPks w.heap.size wr (.slice pa k pc) ((l.map offKey).take k)) := hop
      clear hall hop
      by_cases hkn : k < l.length
      · have hkn' : (k : Int) < (l.length : Int) := by omega
        obtain ⟨b, off, rfl, hbB, hcell⟩ := HC.out (by omega)
        obtain ⟨x1, x2, x3⟩ := hcell k hkn
        have hbw := hS b hbB
        have d1 := (hb.cell (p := ⟨b, off + k * 3, none⟩) hbw).trans x1
        have d2 := (hb.cell (p := ⟨b, off + k * 3 + 1, none⟩) hbw).trans x2
        have d3 := (hb.cell (p := ⟨b, off + k * 3 + 2, none⟩) hbw).trans x3
        have htk := map_key_take l k hkn
        have hmem := List.getElem_mem hkn
        obtain ⟨x, hx⟩ : ∃ x, l[k] = x := ⟨_, rfl⟩
        rw [hx] at d1 d2 d3 htk hmem
        have HXK : Hid (l[k] = x) := hx
        clear hx x1 x2 x3 hcell
        obtain ⟨nm, ve, li⟩ := x
        dsimp only at d1 d2 d3
        have HTK : Hid ((l.map offKey).take (k + 1) = (l.map offKey).take k ++ [⟨nm, ve⟩]) := htk
        have HM : Hid ((⟨nm, ve, li⟩ : Off) ∈ l) := hmem
        clear htk hmem
        have cn := fun w' (hb : Below w.heap.size w w') => implNameOK nm w' (Utf8Tabs_below HT.out hb)
        have cb := fun w' => implBetween ve 1 999999 w'
        obtain ⟨B1, hB1⟩ : ∃ B1, nameOK nm = B1 := ⟨_, rfl⟩
        obtain ⟨B2, hB2⟩ : ∃ B2, (decide (1 ≤ ve) && decide (ve ≤ 999999)) = B2 := ⟨_, rfl⟩
        have hob : offB nameOK ⟨nm, ve, li⟩ = (B1 && B2 && decide (0 ≤ li)) := by unfold offB; dsimp only; rw [hB1, Bool.and_assoc B1, hB2]
        rw [hB1] at cn
        rw [hB2] at cb
        have HOB : Hid (offB nameOK ⟨nm, ve, li⟩ = (B1 && B2 && decide (0 ≤ li))) := hob
        clear hob hB1 hB2
        have hbad : offB nameOK ⟨nm, ve, li⟩ = false → F = false := fun hno => by
          have : l.all (offB nameOK) = false := by
            rw [List.all_eq_false]
            exact ⟨_, HM.out, by rw [hno]; simp⟩
          rw [← HF.out, this, Bool.false_and]
        have HBAD : Hid (offB nameOK ⟨nm, ve, li⟩ = false → F = false) := hbad
        clear hbad
        cases B1
        · have hF := HBAD.out (by rw [HOB.out]; rfl)
          subst hF
          go_wp2_with (go_at_call 42; go_must (refine (cn _ (hb.alloc hbs _)).mono ?_; rintro e w1 ⟨rfl, hb1⟩; have hk4 : Blk w1 wr.heap.size 54 #[.string nm, .int .i64 ve, .int .i64 li] := Blk.below (heap_alloc_last wr _) hb1; have hb2 : Below wr.heap.size wr w1 := (((Below.refl _ wr).alloc (Nat.le_refl _) _).trans (hb1.mono (by simp))); have e0 := hk4.cell 0; have e1 := hk4.cell 1; have e2 := hk4.cell 2; simp at e0 e1 e2))
          go_ret
          exact ⟨rfl, good_below hb hb2⟩
        cases B2
        · have hF := HBAD.out (by rw [HOB.out]; rfl)
          subst hF
          go_wp2_with (first
            | (go_at_call 42; go_must (refine (cn _ (hb.alloc hbs _)).mono ?_; rintro e w1 ⟨rfl, hb1⟩; have hk4 : Blk w1 wr.heap.size 54 #[.string nm, .int .i64 ve, .int .i64 li] := Blk.below (heap_alloc_last wr _) hb1; have hb2 : Below wr.heap.size wr w1 := (((Below.refl _ wr).alloc (Nat.le_refl _) _).trans (hb1.mono (by simp))); have e0 := hk4.cell 0; have e1 := hk4.cell 1; have e2 := hk4.cell 2; simp at e0 e1 e2))
            | (go_at_call 43; go_must (refine (cb _).mono ?_; rintro e w2 ⟨rfl, rfl⟩)))
          go_ret
          exact ⟨rfl, good_below hb hb2⟩
        by_cases hli : li < 0
        · have hF := HBAD.out (by rw [HOB.out, decide_eq_false (by omega)]; rfl)
          subst hF
          go_wp2_with (first
            | (go_at_call 42; go_must (refine (cn _ (hb.alloc hbs _)).mono ?_; rintro e w1 ⟨rfl, hb1⟩; have hk4 : Blk w1 wr.heap.size 54 #[.string nm, .int .i64 ve, .int .i64 li] := Blk.below (heap_alloc_last wr _) hb1; have hb2 : Below wr.heap.size wr w1 := (((Below.refl _ wr).alloc (Nat.le_refl _) _).trans (hb1.mono (by simp))); have e0 := hk4.cell 0; have e1 := hk4.cell 1; have e2 := hk4.cell 2; simp at e0 e1 e2))
            | (go_at_call 43; go_must (refine (cb _).mono ?_; rintro e w2 ⟨rfl, rfl⟩)))
          go_ret
          exact ⟨rfl, good_below hb hb2⟩
        · have hyes : offB nameOK ⟨nm, ve, li⟩ = true := by rw [HOB.out, decide_eq_true (by omega)]; rfl
          have HY : Hid (offB nameOK ⟨nm, ve, li⟩ = true) := hyes
          clear hyes
          go_upto_region 9 with (first
            | (go_at_call 42; go_must (refine (cn _ (hb.alloc hbs _)).mono ?_; rintro e w1 ⟨rfl, hb1⟩; have hk4 : Blk w1 wr.heap.size 54 #[.string nm, .int .i64 ve, .int .i64 li] := Blk.below (heap_alloc_last wr _) hb1; have hb2 : Below wr.heap.size wr w1 := (((Below.refl _ wr).alloc (Nat.le_refl _) _).trans (hb1.mono (by simp))); have e0 := hk4.cell 0; have e1 := hk4.cell 1; have e2 := hk4.cell 2; simp at e0 e1 e2))
            | (go_at_call 43; go_must (refine (cb _).mono ?_; rintro e w2 ⟨rfl, rfl⟩)))
          have hbW := good_below hb hb2
          have hbWs := hbW.size
          have HPA : Hid (OwnPks w.heap.size (w2.alloc (.cells #[.string nm, .int .i64 ve] 56)) (.slice pa k pc) ((l.map offKey).take k)) := OwnPks.below (OwnPks.below HOP.out hb2) ((Below.refl _ w2).alloc (Nat.le_refl _) _)
          go_wp2_with (at_builtin; go_must (refine wpList_appendPks rfl (.tmp 30) (.tmp 36) rfl w.heap.size (.slice pa k pc) ((l.map offKey).take k) rfl HPA.out _ [⟨nm, ve⟩] rfl (PksAt.newAt _ nm ve _ (by simp)) (by simp <;> omega) (by simp only [World.size_alloc]; omega) ?_; intro v9 w9 hown9 hB9 hgr9 hnil9; obtain ⟨a9, c9, e9, -⟩ := hown9.value; have hl9 : ((l.map offKey).take k ++ [(⟨nm, ve⟩ : Pk)]).length = k + 1 := (by simp <;> omega); rw [hl9] at e9; subst e9))
          refine ⟨⟨k + 1, a9, c9, by go_num, rfl, by omega, by rw [HTK.out]; exact hown9, fun i hi hik => ?_, (hbW.alloc hbWs _).trans hB9⟩, by simp [intOf]; omega⟩
          by_cases hik2 : i < k
          · exact HA.out i hi hik2
          · obtain rfl : i = k := by omega
            rw [HXK.out]; exact HY.out
      · obtain rfl : k = l.length := by omega
        have hkn' : ¬ ((l.length : Int) < (l.length : Int)) := by omega
        have hop := HOP.out
        rw [List.take_of_length_le (by simp)] at hop
        have hall : l.all (offB nameOK) = true := by
          rw [List.all_eq_true]
          intro x hx
          obtain ⟨i, hi, rfl⟩ := List.getElem_of_mem hx
          exact HA.out i hi hi
        have hF := HF.out
        rw [hall, Bool.true_and] at hF
        have hkept : Kept (l.map offKey) := fun x hx => by
          obtain ⟨y, hy, rfl⟩ := List.mem_map.1 hx
          have h1 := HZ.out y hy
          have h2 := List.all_eq_true.1 hall y hy
          unfold offB at h2
          simp at h2
          exact ⟨h1, WalkArith.wf_i64 (by have := h2.1.1.2; have := h2.1.2; simp only [offKey]; omega)⟩
        have ct := implSingleK (fun b hb => hb.2) hop.at (by simp; omega) hkept
        rw [hF] at ct
        clear hF hall hkept hop
        go_wp2_with (go_at_call 44; go_must (refine ct.mono ?_; rintro e w1 ⟨rfl, hb1⟩))
        go_ret
        exact ⟨rfl, good_below hb hb1⟩

/-- The greatest version among the first k. -/
def verIn (l : List Off) (a : Imp) (k : Nat) : Int := (l.take k).foldl (fun v o => if fitsB a o then max v o.ver else v) 0
theorem verIn_step (l : List Off) (a : Imp) (k : Nat) (hk : k < l.length) : verIn l a (k + 1) = if fitsB a l[k] then max (verIn l a k) l[k].ver else verIn l a k := by
  unfold verIn
  rw [List.take_succ_eq_append_getElem hk, List.foldl_append]
  rfl
set_option maxRecDepth 100000 in
set_option maxHeartbeats 4000000 in
theorem implBest {S : Nat → Prop} {l : List Off} {v : Value} {w : World} (hS : ∀ b, S b → b < w.heap.size) (h : OffsAt S w v l) (hl : l.length ≤ 1000000) (an : ByteArray) (mn mx : Int) :
    Calls Tryz.prog 47 #[v, .agg #[.string an, .int .i64 mn, .int .i64 mx]] w fun e w' => e = .returned (.int .i64 (verOf l ⟨an, mn, mx⟩)) ∧ Below w.heap.size w w' := by
  obtain ⟨hlm, a, cap, rfl, hc⟩ := h
  have HC : Hid _ := hc
  have hl' : (l.length : Int) ≤ 1000000 := by omega
  clear hc hlm
  have hw1 : ∀ o, Below w.heap.size w (w.alloc o) := fun o => (Below.refl _ w).alloc (Nat.le_refl _) _
  have HA0 : Hid (Blk (w.alloc (.cells #[.string an, .int .i64 mn, .int .i64 mx] 51)) w.heap.size 51 #[.string an, .int .i64 mn, .int .i64 mx]) := heap_alloc_last w _
  go_enter Tryz.func47, Tryz.ntmps47
  go_wp2_with fail
  go_loopw [5, 10] (fun i5 i10 wr => ∃ (k : Nat) (r : Int), i10 = .int .i64 (k : Int) ∧ i5 = .int .i64 r ∧ k ≤ l.length ∧ verIn l ⟨an, mn, mx⟩ k = r ∧ Blk wr w.heap.size 51 #[.string an, .int .i64 mn, .int .i64 mx] ∧ Below w.heap.size w wr) (fun _ i10 _ => l.length - (intOf i10).toNat)
  case atStart => exact ⟨0, 0, rfl, rfl, by omega, rfl, HA0.out, hw1 _⟩
  case round =>
    obtain ⟨k, r, rfl, rfl, hk, hv, hblk, hb⟩ := hrel
    have HV : Hid (verIn l ⟨an, mn, mx⟩ k = r) := hv
    have HBK : Hid (Blk wr w.heap.size 51 #[.string an, .int .i64 mn, .int .i64 mx]) := hblk
    clear hv hblk
    by_cases hkn : k < l.length
    · have hkn' : (k : Int) < (l.length : Int) := by omega
      obtain ⟨b, off, rfl, hbB, hcell⟩ := HC.out (by omega)
      obtain ⟨x1, x2, x3⟩ := hcell k hkn
      have hbw := hS b hbB
      have d1 := (hb.cell (p := ⟨b, off + k * 3, none⟩) hbw).trans x1
      have d2 := (hb.cell (p := ⟨b, off + k * 3 + 1, none⟩) hbw).trans x2
      have d3 := (hb.cell (p := ⟨b, off + k * 3 + 2, none⟩) hbw).trans x3
      have hst := verIn_step l ⟨an, mn, mx⟩ k hkn
      rw [HV.out] at hst
      obtain ⟨x, hx⟩ : ∃ x, l[k] = x := ⟨_, rfl⟩
      rw [hx] at d1 d2 d3 hst
      clear hx x1 x2 x3 hcell
      obtain ⟨nm, ve, li⟩ := x
      dsimp only at d1 d2 d3
      have hwz : ∀ o, Below wr.heap.size wr (wr.alloc o) := fun o => (Below.refl _ wr).alloc (Nat.le_refl _) _
      have bA : Blk (wr.alloc (.cells #[.string nm, .int .i64 ve, .int .i64 li] 54)) w.heap.size 51 #[.string an, .int .i64 mn, .int .i64 mx] := HBK.out.below (hwz _)
      have bO : Blk (wr.alloc (.cells #[.string nm, .int .i64 ve, .int .i64 li] 54)) wr.heap.size 54 #[.string nm, .int .i64 ve, .int .i64 li] := heap_alloc_last wr _
      have HN : Hid (Blk (wr.alloc (.cells #[.string nm, .int .i64 ve, .int .i64 li] 54)) w.heap.size 51 #[.string an, .int .i64 mn, .int .i64 mx]) := bA
      have a0 := bA.cell 0
      have a1 := bA.cell 1
      have a2 := bA.cell 2
      have o0 := bO.cell 0
      have o1 := bO.cell 1
      simp at a0 a1 a2 o0 o1
      clear bA bO
      have HB2 : Hid (Below w.heap.size w (wr.alloc (.cells #[.string nm, .int .i64 ve, .int .i64 li] 54))) := good_below hb (hwz _)
      have cb := fun w' => implBetween ve mn mx w'
      obtain ⟨B2, hB2⟩ : ∃ B2, (decide (mn ≤ ve) && decide (ve ≤ mx)) = B2 := ⟨_, rfl⟩
      have hfd : fitsB ⟨an, mn, mx⟩ ⟨nm, ve, li⟩ = ((nm.toList == an.toList) && B2) := by rw [← hB2, ← Bool.and_assoc]; rfl
      rw [hB2] at cb
      rw [hfd] at hst
      clear hfd hB2
      cases hcn : nm.toList == an.toList
      · rw [hcn, Bool.false_and, if_neg (by simp)] at hst
        have HST : Hid (verIn l ⟨an, mn, mx⟩ (k + 1) = r) := hst
        clear hst
        go_wp2_with fail
        exact ⟨⟨k + 1, r, by go_num, rfl, by omega, HST.out, HN.out, HB2.out⟩, by simp [intOf]; omega⟩
      · rw [hcn, Bool.true_and] at hst
        cases B2
        · rw [if_neg (by simp)] at hst
          have HST : Hid (verIn l ⟨an, mn, mx⟩ (k + 1) = r) := hst
          clear hst
          go_wp2_with (go_at_call 43; go_must (refine (cb _).mono ?_; rintro e w2 ⟨rfl, rfl⟩))
          exact ⟨⟨k + 1, r, by go_num, rfl, by omega, HST.out, HN.out, HB2.out⟩, by simp [intOf]; omega⟩
        · rw [if_pos rfl] at hst
          have HST : Hid (verIn l ⟨an, mn, mx⟩ (k + 1) = max r ve) := hst
          clear hst
          go_wp2_with (go_at_call 43; go_must (refine (cb _).mono ?_; rintro e w2 ⟨rfl, rfl⟩))
          exact ⟨⟨k + 1, _, by go_num, rfl, by omega, HST.out, HN.out, HB2.out⟩, by simp [intOf]; omega⟩
    · have hkn' : ¬ ((k : Int) < (l.length : Int)) := by omega
      have hv := HV.out
      unfold verIn at hv
      rw [List.take_of_length_le (by omega)] at hv
      have HV2 : Hid (verOf l ⟨an, mn, mx⟩ = r) := hv
      clear hv
      go_wp2_with fail
      go_ret
      exact ⟨by rw [HV2.out]; rfl, hb⟩
end Go.Proofs.YtkghlnhmmfjclaaGreatDoor
