/-
  What impl.BindingsOK answers. No statement of the seat is proved here.
-/
import Derived.Test.YtokolklaamfedaaDoorB7
namespace Go.Proofs.YtokolklaamfedaaDoor
open Go.ChangeShapes Go.WideShapes Go.ChangeAt Go.RowKit
set_option linter.unusedVariables false

set_option maxRecDepth 100000 in
set_option maxHeartbeats 2000000 in
theorem implBinding {S : Nat → Prop} (x : Bnd) (nv : Value) (w : World) (hS : ∀ b, S b → b < w.heap.size) (h : WntsAt S w nv x.needs) (hz : x.cond.size ≤ 1048576) (hT : Lib.Utf8Tabs 0 1 w) :
    Calls Tryd.prog 15 #[.agg #[.string x.name, .string x.key, .string x.tag, .int .i64 x.scope, nv, .string x.cond, .int .i64 x.rank, .bool x.wraps]] w fun e w' => e = .returned (.bool (bndB nameOK x)) ∧ Below w.heap.size w w' := by
  obtain ⟨nm, ky, tg, sc, ns, cd, rk, wp⟩ := x
  dsimp only at h hz ⊢
  have hw2 : ∀ o p, Below w.heap.size w ((w.alloc o).alloc p) := fun o p => ((Below.refl _ w).alloc (Nat.le_refl _) _).alloc (by simp) _
  have cn : ∀ o, Calls Tryd.prog 22 #[.slice (some ⟨w.heap.size + 1, 0, none⟩) 2 2] ((w.alloc o).alloc (.cells #[.string nm, .string ky] 9)) fun e w' => e = .returned (.bool (nameOK nm && nameOK ky)) ∧ Below ((w.alloc o).alloc (.cells #[.string nm, .string ky] 9)).heap.size ((w.alloc o).alloc (.cells #[.string nm, .string ky] 9)) w' := fun o => by
    have hbk : Blk ((w.alloc o).alloc (.cells #[.string nm, .string ky] 9)) (w.heap.size + 1) 9 #[.string nm, .string ky] := by
      have := heap_alloc_last (w.alloc o) (.cells #[.string nm, .string ky] 9)
      rwa [World.size_alloc] at this
    exact implNames nm ky (w.heap.size + 1) _ hbk.lt (hbk.cell 0) (hbk.cell 1) (Utf8Tabs_below hT (hw2 _ _))
  have ct := fun w' (hb : Below w.heap.size w w') => implTag tg w' (Utf8Tabs_below hT hb)
  have cb := fun w' => implBetween sc 1 3 w'
  have cs := fun w' (hb : Below w.heap.size w w') => implWants (fun b hbs => Nat.lt_of_lt_of_le (hS b hbs) hb.size) (h.keep (cells_below hS hb)) (Utf8Tabs_below hT hb)
  have cw := fun w' (hb : Below w.heap.size w w') => implWhen cd hz w' (Utf8Tabs_below hT hb)
  have hl1 : ∀ o p W, Below ((w.alloc o).alloc p).heap.size ((w.alloc o).alloc p) W → W.heap[w.heap.size]? = some o := fun o p W hb => by
    rw [hb.block _ (by simp only [World.size_alloc]; omega)]
    have b1 : Below (w.alloc o).heap.size (w.alloc o) ((w.alloc o).alloc p) := (Below.refl _ _).alloc (Nat.le_refl _) _
    rw [b1.block _ (by simp only [World.size_alloc]; omega)]
    exact heap_alloc_last w o
  obtain ⟨na, nc, rfl⟩ := h.shape
  have e0 : bndB nameOK ⟨nm, ky, tg, sc, ns, cd, rk, wp⟩ = ((nameOK nm && nameOK ky) && tagB nameOK tg && (decide (1 ≤ sc) && decide (sc ≤ 3)) && (decide (ns.length ≤ 8) && ns.all (wantB nameOK)) && whenB nameOK cd) := by
    unfold bndB
    dsimp only
    simp only [Bool.and_assoc]
  rw [e0]
  obtain ⟨B1, hB1⟩ : ∃ B1, (nameOK nm && nameOK ky) = B1 := ⟨_, rfl⟩
  obtain ⟨B2, hB2⟩ : ∃ B2, tagB nameOK tg = B2 := ⟨_, rfl⟩
  obtain ⟨B3, hB3⟩ : ∃ B3, (decide (1 ≤ sc) && decide (sc ≤ 3)) = B3 := ⟨_, rfl⟩
  obtain ⟨B4, hB4⟩ : ∃ B4, (decide (ns.length ≤ 8) && ns.all (wantB nameOK)) = B4 := ⟨_, rfl⟩
  obtain ⟨B5, hB5⟩ : ∃ B5, whenB nameOK cd = B5 := ⟨_, rfl⟩
  rw [hB1, hB2, hB3, hB4, hB5]
  rw [hB1] at cn
  rw [hB2] at ct
  rw [hB3] at cb
  rw [hB4] at cs
  rw [hB5] at cw
  clear hB1 hB2 hB3 hB4 hB5 h hT e0
  go_enter Tryd.func15, Tryd.ntmps15
  cases B1
  · go_wp2_with (go_at_call 22; go_must (refine (cn _).mono ?_; rintro e w1 ⟨rfl, hb1⟩))
    go_ret
    exact ⟨by simp, good_below (hw2 _ _) hb1⟩
  cases B2
  · go_wp2_with (first
      | (go_at_call 22; go_must (refine (cn _).mono ?_; rintro e w1 ⟨rfl, hb1⟩; have b1 := good_below (hw2 _ _) hb1; have hk1 : Blk w1 w.heap.size 35 #[.string nm, .string ky, .string tg, .int .i64 sc, .slice na ns.length nc, .string cd, .int .i64 rk, .bool wp] := hl1 _ _ _ hb1; have e2 := hk1.cell 2; simp at e2))
      | (go_at_call 23; go_must (refine (ct _ b1).mono ?_; rintro e w2 ⟨rfl, hb2⟩)))
    go_ret
    exact ⟨by simp, good_below b1 hb2⟩
  cases B3
  · go_wp2_with (first
      | (go_at_call 22; go_must (refine (cn _).mono ?_; rintro e w1 ⟨rfl, hb1⟩; have b1 := good_below (hw2 _ _) hb1; have hk1 : Blk w1 w.heap.size 35 #[.string nm, .string ky, .string tg, .int .i64 sc, .slice na ns.length nc, .string cd, .int .i64 rk, .bool wp] := hl1 _ _ _ hb1; have e2 := hk1.cell 2; simp at e2))
      | (go_at_call 23; go_must (refine (ct _ b1).mono ?_; rintro e w2 ⟨rfl, hb2⟩; have b2 := good_below b1 hb2; have hk2 := hk1.below hb2; have e3 := hk2.cell 3; have e4 := hk2.cell 4; simp at e3 e4))
      | (go_at_call 24; go_must (refine (cb _).mono ?_; rintro e w3 ⟨rfl, rfl⟩)))
    go_ret
    exact ⟨by simp, b2⟩
  cases B4
  · go_wp2_with (first
      | (go_at_call 22; go_must (refine (cn _).mono ?_; rintro e w1 ⟨rfl, hb1⟩; have b1 := good_below (hw2 _ _) hb1; have hk1 : Blk w1 w.heap.size 35 #[.string nm, .string ky, .string tg, .int .i64 sc, .slice na ns.length nc, .string cd, .int .i64 rk, .bool wp] := hl1 _ _ _ hb1; have e2 := hk1.cell 2; simp at e2))
      | (go_at_call 23; go_must (refine (ct _ b1).mono ?_; rintro e w2 ⟨rfl, hb2⟩; have b2 := good_below b1 hb2; have hk2 := hk1.below hb2; have e3 := hk2.cell 3; have e4 := hk2.cell 4; simp at e3 e4))
      | (go_at_call 24; go_must (refine (cb _).mono ?_; rintro e w3 ⟨rfl, rfl⟩))
      | (go_at_call 25; go_must (refine (cs _ b2).mono ?_; rintro e w4 ⟨rfl, hb4⟩)))
    go_ret
    exact ⟨by simp, good_below b2 hb4⟩
  · go_wp2_with (first
      | (go_at_call 22; go_must (refine (cn _).mono ?_; rintro e w1 ⟨rfl, hb1⟩; have b1 := good_below (hw2 _ _) hb1; have hk1 : Blk w1 w.heap.size 35 #[.string nm, .string ky, .string tg, .int .i64 sc, .slice na ns.length nc, .string cd, .int .i64 rk, .bool wp] := hl1 _ _ _ hb1; have e2 := hk1.cell 2; simp at e2))
      | (go_at_call 23; go_must (refine (ct _ b1).mono ?_; rintro e w2 ⟨rfl, hb2⟩; have b2 := good_below b1 hb2; have hk2 := hk1.below hb2; have e3 := hk2.cell 3; have e4 := hk2.cell 4; simp at e3 e4))
      | (go_at_call 24; go_must (refine (cb _).mono ?_; rintro e w3 ⟨rfl, rfl⟩))
      | (go_at_call 25; go_must (refine (cs _ b2).mono ?_; rintro e w4 ⟨rfl, hb4⟩; have b4 := good_below b2 hb4; have hk4 := hk2.below hb4; have e5 := hk4.cell 5; simp at e5))
      | (go_at_call 26; go_must (refine (cw _ b4).mono ?_; rintro e w5 ⟨rfl, hb5⟩)))
    go_ret
    exact ⟨by simp, good_below b4 hb5⟩

theorem dup_iff : ∀ (ss seen : List ByteArray), dupFrom ss seen = true ↔ ∃ (i : Nat) (hi : i < ss.length), hasB (seen ++ ss.take i) ss[i] = true
  | [], seen => by simp [dupFrom]
  | x :: l, seen => by
    unfold dupFrom
    cases hx : hasB seen x
    · rw [if_neg (by simp), dup_iff l (seen ++ [x])]
      constructor
      · rintro ⟨i, hi, h⟩
        exact ⟨i + 1, by simpa using hi, by simpa using h⟩
      · rintro ⟨i, hi, h⟩
        cases i with
        | zero => simp [hx] at h
        | succ i => exact ⟨i, by simpa using hi, by simpa using h⟩
    · rw [if_pos rfl]
      exact ⟨fun _ => ⟨0, by simp, by simpa using hx⟩, fun _ => rfl⟩
theorem has_names (l : List Bnd) (i : Nat) (t : ByteArray) : hasB ((l.map Bnd.name).take i) t = (l.take i).any fun q => q.name.toList == t.toList := by
  unfold hasB
  rw [← List.map_take, List.any_map]
  rfl
theorem binds_split (nameB : ByteArray → Bool) {l : List Bnd} (hl : l.length ≤ 60) : bindsB nameB l = (l.all (bndB nameB) && !dupFrom (l.map Bnd.name) []) := by
  cases ha : l.all (bndB nameB)
  · rw [List.all_eq_false] at ha
    obtain ⟨x, hx, hb⟩ := ha
    obtain ⟨i, hi, rfl⟩ := List.getElem_of_mem hx
    exact binds_bad hi (by rw [Bool.eq_false_iff.2 hb]; rfl)
  · cases hd : dupFrom (l.map Bnd.name) []
    · refine binds_good hl (fun i hi => ?_)
      rw [List.all_eq_true] at ha
      rw [ha _ (List.getElem_mem hi), Bool.true_and, ← has_names, Bool.not_eq_true']
      cases hh : hasB ((l.map Bnd.name).take i) l[i].name
      · rfl
      · have := (dup_iff (l.map Bnd.name) []).2 ⟨i, by simpa using hi, by simpa using hh⟩
        rw [hd] at this; cases this
    · obtain ⟨i, hi, h⟩ := (dup_iff (l.map Bnd.name) []).1 hd
      have hi' : i < l.length := by simpa using hi
      refine binds_bad hi' ?_
      rw [← has_names]
      simp at h
      rw [h]; simp

set_option maxRecDepth 100000 in
set_option maxHeartbeats 2000000 in
theorem implBindings {S : Nat → Prop} {l : List Bnd} {v : Value} {w : World} (hS : ∀ b, S b → b < w.heap.size) (h : BndsAt S w v l) (hok : ∀ x ∈ l, BndOK 1048576 x) (hT : Lib.Utf8Tabs 0 1 w) :
    Calls Tryd.prog 7 #[v] w fun e w' => e = .returned (.bool (bindsB nameOK l)) ∧ Below w.heap.size w w' := by
  obtain ⟨hlm, a, cap, rfl, hc⟩ := h
  have HC : Hid _ := hc
  have HT : Hid (Lib.Utf8Tabs 0 1 w) := hT
  have HZ : Hid _ := hok
  have hlm' : (l.length : Int) ≤ 9223372036854775807 := by simp [maxLen] at hlm; omega
  clear hc hlm hT hok
  by_cases h60 : 60 < l.length
  · have e : bindsB nameOK l = false := by unfold bindsB; rw [decide_eq_false (by omega)]; rfl
    rw [e]
    have h60' : (60 : Int) < (l.length : Int) := by omega
    go_enter Tryd.func7, Tryd.ntmps7
    go_wp2_with fail
    go_ret
    exact ⟨rfl, Below.refl _ _⟩
  · rw [binds_split nameOK (by omega)]
    have h60' : ¬ ((60 : Int) < (l.length : Int)) := by omega
    obtain ⟨F, hF⟩ : ∃ F, (l.all (bndB nameOK) && !dupFrom (l.map Bnd.name) []) = F := ⟨_, rfl⟩
    rw [hF]
    have HF : Hid _ := hF
    clear hF
    go_enter Tryd.func7, Tryd.ntmps7
    go_wp2_with fail
    go_loopw [3, 13] (fun i3 i13 wr => ∃ (k : Nat), i13 = .int .i64 (k : Int) ∧ k ≤ l.length ∧ OwnS w.heap.size wr i3 ((l.take k).map Bnd.name) ∧ (l.take k).all (bndB nameOK) = true ∧ Below w.heap.size w wr) (fun _ i13 _ => l.length - (intOf i13).toNat)
    case atStart => exact ⟨0, rfl, by omega, ⟨rfl, .inl ⟨rfl, rfl⟩⟩, by simp, Below.refl _ _⟩
    case round =>
      obtain ⟨k, rfl, hk, hown, hall, hb⟩ := hrel
      have HAL : Hid _ := hall
      clear hall
      by_cases hkn : k < l.length
      · have hkn' : (k : Int) < (l.length : Int) := by omega
        obtain ⟨b, off, rfl, hbB, hcell⟩ := HC.out (by omega)
        obtain ⟨d0, d1, d2, d3, d5, d6, d7, nv, d4, x4⟩ := (hcell k hkn).keep hbB (cells_below hS hb)
        have htk : l.take (k + 1) = l.take k ++ [l[k]] := List.take_succ_eq_append_getElem hkn
        have hmem := List.getElem_mem hkn
        have hzx := (HZ.out _ hmem).2.2
        have cr := fun w' (hbb : Below wr.heap.size wr w') => implBinding (S := S) l[k] nv w' (fun c hc => Nat.lt_of_lt_of_le (hS c hc) (good_below hb hbb).size) (x4.keep (cells_below (fun c hc => Nat.lt_of_lt_of_le (hS c hc) hb.size) hbb)) (by omega) (Utf8Tabs_below HT.out (good_below hb hbb))
        obtain ⟨x, hx⟩ : ∃ x, l[k] = x := ⟨_, rfl⟩
        rw [hx] at d0 d1 d2 d3 d5 d6 d7 x4 htk hmem cr
        have HTK : Hid _ := htk
        have HM : Hid _ := hmem
        clear hx hcell htk hmem hzx
        obtain ⟨na, nc, hnv⟩ := x4.shape
        subst hnv
        clear x4
        obtain ⟨B1, hB1⟩ : ∃ B1, bndB nameOK x = B1 := ⟨_, rfl⟩
        rw [hB1] at cr
        have HB1 : Hid _ := hB1
        clear hB1
        obtain ⟨nm, ky, tg, sc, ns, cd, rk, wp⟩ := x
        dsimp only at d0 d1 d2 d3 d4 d5 d6 d7 cr
        obtain ⟨a3, c3, hv3, hs3⟩ := hown.value
        have hlen : ((l.take k).map Bnd.name).length = k := by simp; omega
        rw [hlen] at hv3
        have HLN : Hid _ := hlen
        subst hv3
        clear hs3 hlen
        have HOW : Hid (OwnS w.heap.size wr (.slice a3 k c3) ((l.take k).map Bnd.name)) := hown
        clear hown
        have hwA : ∀ o, Below wr.heap.size wr (wr.alloc o) := fun o => (Below.refl _ wr).alloc (Nat.le_refl _) _
        cases B1
        · have hno : l.all (bndB nameOK) = false := by
            rw [List.all_eq_false]
            exact ⟨_, HM.out, by rw [HB1.out]; simp⟩
          have hF := HF.out
          rw [hno, Bool.false_and] at hF
          subst hF
          clear hno
          go_wp2_with (go_at_call 15; go_must (refine (cr _ (hwA _)).mono ?_; rintro e w1 ⟨rfl, hb1⟩))
          go_ret
          exact ⟨by simp, good_below hb (good_below (hwA _) hb1)⟩
        · obtain ⟨ti, hti, ht0, ht1, ht2⟩ := info9
          go_wp2_with (first
            | (go_at_call 15; go_must (refine (cr _ (hwA _)).mono ?_; rintro e w1 ⟨rfl, hb1⟩; have hk1 : Blk w1 wr.heap.size 35 #[.string nm, .string ky, .string tg, .int .i64 sc, .slice na ns.length nc, .string cd, .int .i64 rk, .bool wp] := Blk.below (heap_alloc_last wr _) hb1; have e1 := hk1.cell 0; simp at e1))
            | (at_builtin; go_must (refine wpList_appendS rfl (.tmp 20) (.tmp 23) 41 rfl Tryd.underlying41 ti hti ht0 ht1 ht2 w.heap.size (.slice a3 k c3) ((l.take k).map Bnd.name) rfl ((HOW.out.below ((Below.refl _ wr).alloc (Nat.le_refl _) _)).below hb1 |>.below ((Below.refl _ w1).alloc (Nat.le_refl _) _)) ⟨w1.heap.size, 0, none⟩ 1 nm rfl (new_cell w1 nm) (by have := HLN.out; omega) (by have := hb.size; have := hb1.size; simp only [World.size_alloc] at *; omega) ?_; intro v4 w4 hown4 hB4 hgr4)))
          have hbb := good_below hb (good_below (hwA _) hb1)
          refine ⟨⟨k + 1, rfl, by omega, ?_, ?_, (hbb.alloc hbb.size _).trans hB4⟩, by simp [intOf]; omega⟩
          · rw [HTK.out, List.map_append]; exact hown4
          · rw [HTK.out, List.all_append, HAL.out]; simp [HB1.out]
      · have hkl : k = l.length := by omega
        subst hkl
        have hall := HAL.out
        simp only [List.take_length] at hown hall
        have hkn' : ¬ ((l.length : Int) < (l.length : Int)) := by omega
        obtain ⟨a3, c3, hv3, hs3⟩ := hown.value
        subst hv3
        have hF := HF.out
        rw [hall, Bool.true_and] at hF
        have ct := implTwice (l.map Bnd.name) a3 c3 wr (by simp; omega) (fun s hs => by
          obtain ⟨x, hx, rfl⟩ := List.mem_map.1 hs
          have := (HZ.out x hx).1
          omega) (fun h0 => by
            obtain ⟨g, hg, hcc⟩ := hs3 h0
            exact ⟨g, hg, cell_lt (hcc 0 h0), hcc⟩)
        obtain ⟨D, hD⟩ : ∃ D, dupFrom (l.map Bnd.name) [] = D := ⟨_, rfl⟩
        rw [hD] at ct hF
        rw [List.length_map] at ct
        clear hD hall hown hs3
        subst hF
        go_wp2_with (go_at_call 16; go_must (refine ct.mono ?_; rintro e w1 ⟨⟨t, rfl⟩, hb1⟩))
        go_ret
        exact ⟨rfl, good_below hb hb1⟩
end Go.Proofs.YtokolklaamfedaaDoor
