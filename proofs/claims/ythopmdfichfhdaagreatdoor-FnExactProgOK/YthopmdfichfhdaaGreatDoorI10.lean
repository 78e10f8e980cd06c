/-
  A line of cells, as the program reads it. No statement of the seat is proved here.
-/
import Derived.Test.YthopmdfichfhdaaGreatDoorI9
namespace Go.Proofs.YthopmdfichfhdaaGreatDoor
open Go.ChangeShapes Go.WideShapes Go.ChangeAt Go.RowKit
set_option linter.unusedVariables false
set_option linter.unusedSimpArgs false

/-- A line of cells. -/
def cellsR (s : Rd) (ws : List ByteArray) : Int × Rd := if 0 < s.ini.length ∨ ws.length < 1 ∨ 8 < ws.length then (4, s) else if ws.all numB then (0, { s with ini := s.ini ++ ws.map numV }) else (4, s)
theorem all_take {ws : List ByteArray} {f : ByteArray → Bool} {k : Nat} (hk : k < ws.length) (h : ∀ t ∈ ws.take k, f t = true) (hx : f (ws.getD k ⟨#[]⟩) = true) : ∀ t ∈ ws.take (k + 1), f t = true := by
  intro t ht
  rw [List.take_add_one, List.mem_append] at ht
  rcases ht with ht | ht
  · exact h t ht
  · rw [List.getElem?_eq_getElem hk] at ht
    simp at ht
    rw [List.getD_eq_getElem?_getD, List.getElem?_eq_getElem hk] at hx
    rw [ht]; exact hx
theorem map_take {ws : List ByteArray} {k : Nat} (hk : k < ws.length) : (ws.take (k + 1)).map numV = (ws.take k).map numV ++ [numV (ws.getD k ⟨#[]⟩)] := by
  rw [List.take_add_one, List.getElem?_eq_getElem hk, List.getD_eq_getElem?_getD, List.getElem?_eq_getElem hk, List.map_append]
  rfl
section
variable {B g : Nat} {iv tv jv : Value} {tvs : List Value} {w : World} {s : Rd}
set_option maxRecDepth 100000 in
set_option maxHeartbeats 4000000 in
theorem implCells (h : RdAt B g iv tv jv tvs w s) (ws : List ByteArray) (wa : Option Addr) (wq : Nat) (hw : WdsAt w wa ws) (hlen : ws.length ≤ 70000) (hsz : ∀ t ∈ ws, t.size ≤ 65536) (hi : s.ini.length ≤ 8) :
    Calls Tryz.prog 61 #[.pointer (some ⟨g, 0, none⟩), .slice wa ws.length wq] w fun e w' => e = .returned (.int .i64 (cellsR s ws).1) ∧ Chg B g w w' ∧ ((cellsR s ws).1 = 0 → ∃ iv', RdAt B g iv' tv jv tvs w' (cellsR s ws).2) := by
  have c0 := h.blk.cell 0
  simp at c0
  obtain ⟨ia, ic, rfl, -⟩ := h.ini.value
  have hlen' : (ws.length : Int) ≤ 70000 := by omega
  have h18 : (s.ini.length : Int) ≤ 8 := by omega
  have HR : Hid (RdAt B g (.slice ia s.ini.length ic) tv jv tvs w s) := h
  have HW : Hid (WdsAt w wa ws) := hw
  have HSZ : Hid (∀ t ∈ ws, t.size ≤ 65536) := hsz
  have cb := fun w => implBetween (ws.length : Int) 1 8 w
  have hR : cellsR s ws = if 0 < s.ini.length ∨ ws.length < 1 ∨ 8 < ws.length then (4, s) else if ws.all numB then (0, { s with ini := s.ini ++ ws.map numV }) else (4, s) := rfl
  obtain ⟨R, hRR⟩ : ∃ R, cellsR s ws = R := ⟨_, rfl⟩
  rw [hRR] at hR ⊢
  have HRR : Hid (R = if 0 < s.ini.length ∨ ws.length < 1 ∨ 8 < ws.length then (4, s) else if ws.all numB then (0, { s with ini := s.ini ++ ws.map numV }) else (4, s)) := hR
  clear h hw hsz hR hRR
  go_enter Tryz.func61, Tryz.ntmps61
  go_upto_region 1 with fail
  by_cases hbad : 0 < s.ini.length ∨ ws.length < 1 ∨ 8 < ws.length
  · have hr := HRR.out
    rw [if_pos hbad] at hr
    clear HRR
    subst hr
    by_cases h1 : 0 < s.ini.length
    · have h1' : 0 < (s.ini.length : Int) := by omega
      go_wp2_with fail
      go_ret
      first
        | exact ⟨rfl, Chg.refl _⟩
        | exact ⟨rfl, Chg.refl _, fun h => absurd h (by decide)⟩
    · have h1' : ¬ (0 < (s.ini.length : Int)) := by omega
      have hb2 : (decide ((1 : Int) ≤ (ws.length : Int)) && decide ((ws.length : Int) ≤ 8)) = false := by
        rw [Bool.and_eq_false_iff, decide_eq_false_iff_not, decide_eq_false_iff_not]; omega
      simp only [hb2] at cb
      go_wp2_with (go_at_call 54; go_must (refine (cb _).mono ?_; rintro e w2 ⟨rfl, ew2⟩; subst w2))
      go_ret
      first
        | exact ⟨rfl, Chg.refl _⟩
        | exact ⟨rfl, Chg.refl _, fun h => absurd h (by decide)⟩
  · have HBAD : Hid (¬ (0 < s.ini.length ∨ ws.length < 1 ∨ 8 < ws.length)) := hbad
    have h1n : ¬ (0 < s.ini.length) := by omega
    have h1' : ¬ (0 < (s.ini.length : Int)) := by omega
    have hw0 : 0 < ws.length := by omega
    have hw8 : ws.length ≤ 8 := by omega
    have hb2 : (decide ((1 : Int) ≤ (ws.length : Int)) && decide ((ws.length : Int) ≤ 8)) = true := by
      rw [Bool.and_eq_true, decide_eq_true_iff, decide_eq_true_iff]; omega
    simp only [hb2] at cb
    clear hbad hb2
    go_upto_region 4 with (go_at_call 54; go_must (refine (cb _).mono ?_; rintro e w2 ⟨rfl, ew2⟩; subst w2))
    have e0 : s.ini = [] := List.eq_nil_of_length_eq_zero (by omega)
    have HE0 : Hid (s.ini = []) := e0
    have HC0 : Hid (w.cell? ⟨g, 0, none⟩ = some (.slice ia s.ini.length ic)) := c0
    clear c0 cb h1' h1n h18 e0
    go_loopw [24] (fun i24 wr => ∃ (k : Nat) (iv' : Value), i24 = .int .i64 (k : Int) ∧ k ≤ ws.length ∧ (∀ t ∈ ws.take k, numB t = true) ∧ RdAt B g iv' tv jv tvs wr { s with ini := (ws.take k).map numV } ∧ WdsAt wr wa ws ∧ Chg B g w wr) (fun i24 _ => ws.length - (intOf i24).toNat)
    case atStart =>
      refine ⟨0, .slice ia s.ini.length ic, rfl, by omega, by simp, ?_, HW.out, Chg.refl _⟩
      have h := HR.out
      obtain ⟨a1, a2, a3, a4, a5, a6, a7⟩ := h
      refine ⟨a1, ?_, a3, a4, a5, a6, a7⟩
      rw [HE0.out] at a2 ⊢
      exact a2
    case round =>
      obtain ⟨k, iv1, rfl, hk, hall, h1, hw1, hb1⟩ := hrel
      have HALL : Hid (∀ t ∈ ws.take k, numB t = true) := hall
      have H1 : Hid (RdAt B g iv1 tv jv tvs wr { s with ini := (ws.take k).map numV }) := h1
      have HW1 : Hid (WdsAt wr wa ws) := hw1
      have HB1 : Hid (Chg B g w wr) := hb1
      clear hall h1 hw1 hb1
      by_cases hkn : k < ws.length
      · have hkn' : (k : Int) < (ws.length : Int) := by omega
        obtain ⟨wb, wo, cs, rfl, hkb, hcs⟩ := HW1.out hw0
        have x1 : wr.cell? ⟨wb, wo + k, none⟩ = some (.string (ws.getD k ⟨#[]⟩)) := (hkb.cell _).trans (hcs k hkn)
        have hxs : (ws.getD k ⟨#[]⟩).size ≤ 65536 := by
          rw [List.getD_eq_getElem?_getD, List.getElem?_eq_getElem hkn]
          exact HSZ.out _ (List.getElem_mem hkn)
        have cn := implNumber (ws.getD k ⟨#[]⟩) hxs wr
        obtain ⟨x, hx⟩ : ∃ x, ws.getD k ⟨#[]⟩ = x := ⟨_, rfl⟩
        have HX : Hid (ws.getD k ⟨#[]⟩ = x) := hx
        rw [hx] at x1 cn
        clear hx hkb hcs hxs
        obtain ⟨NB, hNB⟩ : ∃ b, numB x = b := ⟨_, rfl⟩
        obtain ⟨NV, hNV⟩ : ∃ b, numV x = b := ⟨_, rfl⟩
        rw [hNB, hNV] at cn
        have HNB : Hid (numB x = NB) := hNB
        have HNV : Hid (numV x = NV) := hNV
        clear hNB hNV
        cases NB
        · go_wp2_with (go_at_call 76; go_must (refine cn.mono ?_; rintro e w2 ⟨rfl, hb2⟩))
          go_ret
          have hr := HRR.out
          rw [if_neg HBAD.out, if_neg (fun h => by
            have := List.all_eq_true.1 h (ws.getD k ⟨#[]⟩) (by rw [List.getD_eq_getElem?_getD, List.getElem?_eq_getElem hkn]; exact List.getElem_mem hkn)
            rw [HX.out, HNB.out] at this
            exact absurd this (by decide))] at hr
          subst hr
          exact ⟨rfl, HB1.out.trans (Chg.of hb2), fun h => absurd h (show ¬ ((4 : Int) = 0) by decide)⟩
        · go_upto_region 9 with (go_at_call 76; go_must (refine cn.mono ?_; rintro e w2 ⟨rfl, hb2⟩))
          have H2 := H1.out.go hb2
          have HW2 : Hid (WdsAt w2 (some ⟨wb, wo, none⟩) ws) := HW1.out.below hb2
          have hb3 : Below w2.heap.size w2 (w2.alloc (.cells #[.int .i64 NV] 3)) := (Below.refl _ w2).alloc (Nat.le_refl _) _
          have H5 : Hid (RdAt B g iv1 tv jv tvs (w2.alloc (.cells #[.int .i64 NV] 3)) { s with ini := (ws.take k).map numV }) := H2.go hb3
          have HK5 : Hid (Blk (w2.alloc (.cells #[.int .i64 NV] 3)) w2.heap.size 3 #[.int .i64 NV]) := heap_alloc_last w2 _
          have HW5 : Hid (WdsAt (w2.alloc (.cells #[.int .i64 NV] 3)) (some ⟨wb, wo, none⟩) ws) := HW2.out.below hb3
          have HB5 : Hid (Chg B g w (w2.alloc (.cells #[.int .i64 NV] 3))) := (HB1.out.trans (Chg.of hb2)).trans (Chg.of hb3)
          have c0 := H2.blk.cell 0
          simp at c0
          obtain ⟨ia1, ic1, rfl, -⟩ := H2.ini.value
          have hml : ((ws.take k).map numV).length = k := by simp; omega
          simp only [hml] at c0 H5 HB5
          clear H2 hb3 hb2 cn
          go_wp2_with (at_builtin; go_must (refine wpList_appendNumR rfl (.tmp 40) (.tmp 42) rfl B (.slice ia1 k ic1) ((ws.take k).map numV) rfl H5.out.ini (b := w2.heap.size) NV rfl HK5.out (by rw [hml]; omega) H5.out.size ?_; intro v9 w9 hown9 hB9 hgr9 _; have HW9 : Hid (WdsAt w9 (some ⟨wb, wo, none⟩) ws) := HW5.out.kept H5.out.ini (by decide) hgr9; obtain ⟨a9, k9, e9⟩ := row_shape hown9; rw [List.length_append, hml] at e9; subst e9; obtain ⟨hbk, H6⟩ := H5.out.growI hown9 hgr9; have g1 := hbk.cell 0; have f1 := hbk.fro 0; simp at g1))
          refine ⟨⟨k + 1, .slice a9 (k + 1) k9, rfl, by omega, all_take hkn HALL.out (by rw [HX.out]; exact HNB.out), ?_, HW9.out.set hbk (by decide) _, (HB5.out.trans (Chg.grow hgr9 H5.out.ini (by decide))).setG _ (by decide) _⟩, by simp [intOf]; omega⟩
          rw [map_take hkn, HX.out, HNV.out]
          exact H6
      · have hkn' : ¬ ((k : Int) < (ws.length : Int)) := by omega
        go_wp2_with fail
        go_ret
        have hA := HALL.out
        have h6 := H1.out
        rw [List.take_of_length_le (by omega)] at hA h6
        have hr := HRR.out
        rw [if_neg HBAD.out, if_pos (List.all_eq_true.2 hA)] at hr
        subst hr
        rw [HE0.out, List.nil_append]
        exact ⟨rfl, HB1.out, fun _ => ⟨_, h6⟩⟩
end
end Go.Proofs.YthopmdfichfhdaaGreatDoor
