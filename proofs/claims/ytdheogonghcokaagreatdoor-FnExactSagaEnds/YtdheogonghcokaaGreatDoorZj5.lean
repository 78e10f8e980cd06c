/-
  What the program's goForward, goBack and goOn do. What the program's undoLast, goBack, goOn and sagaRunOf do. What the program's sagaRunOf and its moves do. What the program's hear does. What the program's hear does. What the program's names and RunSaga answer. A saga that is answered ends: plain. A saga that is not over has a step that is asked or undoing: plain. How a saga ends that is answered always: plain. The done ones, sorted, are the steps whose state is done, in order: plain. What the program's areSteps and nextAnswer answer. No statement of the seat is proved here.
-/
import Derived.Test.YtdheogonghcokaaGreatDoorZj4
namespace Go.Proofs.YtdheogonghcokaaGreatDoor
open Go.ChangeShapes Go.WideShapes Go.ChangeAt Go.RowKit
set_option linter.unusedVariables false
set_option linter.unusedSimpArgs false

section
variable {S : Nat → Prop} {B : Nat} {l : List Step} {a : Option Addr} {cap g gp : Nat} {rv : Value} {reps : List Int} {dv cv : Value} {w0 w : World} {s : Sg}
set_option maxRecDepth 100000 in
set_option maxHeartbeats 4000000 in
theorem implForward (h : RunI S B l a cap g gp rv reps dv cv w0 w s) (hc : s.cmds.length ≤ 800000) :
    Calls Tryz.prog 57 #[.pointer (some ⟨g, 0, none⟩)] w fun e w' => e = .returned (.tuple #[]) ∧ ∃ cv', RunI S B l a cap g gp rv reps dv cv' w0 w' (fwd l s) := by
  have hl : l.length ≤ 20 := h.saga.len.2
  have hl' : (l.length : Int) ≤ 20 := by omega
  have hdl := done_len h.ok
  have c0 := h.blk.cell 0
  simp at c0
  have HR : Hid (RunI S B l a cap g gp rv reps dv cv w0 w s) := h
  have HC : Hid (s.cmds.length ≤ 800000) := hc
  clear h hc
  go_enter Tryz.func57, Tryz.ntmps57
  go_wp2_with fail
  go_loopw [8] (fun i8 wr => ∃ (k : Nat) (cv' : Value), i8 = .int .i64 (k : Int) ∧ k ≤ l.length ∧ RunI S B l a cap g gp rv reps dv cv' w0 wr (asks l s k)) (fun i8 _ => l.length - (intOf i8).toNat)
  case atStart => exact ⟨0, cv, rfl, by omega, HR.out⟩
  case round =>
    clear c0
    obtain ⟨k, cv', rfl, hk, hR⟩ := hrel
    by_cases hkn : k < l.length
    case neg =>
      obtain rfl : k = l.length := by omega
      have hkn' : ¬ ((l.length : Int) < (l.length : Int)) := by omega
      obtain ⟨da, dc, hdv, -⟩ := hR.done.natCells
      rw [asks_done] at hdv
      have c0 := hR.blk.cell 0
      have c3 := hR.blk.cell 3
      have c1 := hR.blk.cell 1
      have f1 := hR.blk.fro 1
      simp at c0 c1 c3
      rw [hdv] at c3
      by_cases hd : s.done.length = l.length
      · rw [hd] at c3
        have hfw : fwd l s = setSt (asks l s l.length) 3 := by unfold fwd; rw [asks_done, if_pos hd]
        have HFW : Hid (fwd l s = setSt (asks l s l.length) 3) := hfw
        have HH9 : Hid (∀ n, RunI S B l a cap g gp rv reps dv cv' w0 ((wr.drewN n).setCell ⟨g, 1, none⟩ (.int .i64 3)) (setSt (asks l s l.length) 3)) := fun n => (hR.drewN n).putSt 3
        clear hR hfw hd hdv
        go_upto_region 6 with fail
        go_quiet (fail)
        go_wp2_with fail
        go_end0
        refine ⟨rfl, cv', ?_⟩
        rw [HFW.out]; exact HH9.out _
      · have hd' : ¬ ((s.done.length : Int) = (l.length : Int)) := by omega
        have hfw : fwd l s = asks l s l.length := by unfold fwd; rw [asks_done, if_neg hd]
        have HFW : Hid (fwd l s = asks l s l.length) := hfw
        have HH9 : Hid (∀ n, RunI S B l a cap g gp rv reps dv cv' w0 (wr.drewN n) (asks l s l.length)) := fun n => hR.drewN n
        clear hR hfw hdv
        go_upto_region 6 with fail
        go_quiet (fail)
        go_wp2_with fail
        go_end0
        refine ⟨rfl, cv', ?_⟩
        rw [HFW.out]; exact HH9.out _
    have hkn' : (k : Int) < (l.length : Int) := by omega
    have hnx := asks_succ l s k
    have hcl := asks_cmds l s k
    obtain ⟨t, ht⟩ : ∃ t, asks l s k = t := ⟨_, rfl⟩
    rw [ht] at hR hnx hcl
    have HR2 : Hid (RunI S B l a cap g gp rv reps dv cv' w0 wr t) := hR
    have HCL : Hid (t.cmds.length ≤ 900000) := by have := HC.out; show _ ≤ _; omega
    have c2 := hR.blk.cell 2
    simp at c2
    have d1 := (hR.isCell k hkn).1
    have crd := implReady hR k hkn
    have haskB : askB l t k = (readyB l t k && decide (isAt t k = 0)) := rfl
    obtain ⟨iv, hiv⟩ : ∃ iv, isAt t k = iv := ⟨_, rfl⟩
    obtain ⟨R1, hR1⟩ : ∃ R1, readyB l t k = R1 := ⟨_, rfl⟩
    rw [hiv] at d1
    rw [hR1] at crd
    rw [hiv, hR1] at haskB
    clear hR ht hcl hR1
    by_cases hi0 : iv = 0
    case neg =>
      have hi0' : (iv == 0) = false := by simp [hi0]
      rw [decide_eq_false hi0, Bool.and_false] at haskB
      rw [ask_false haskB] at hnx
      have HNX : Hid (asks l s (k + 1) = t) := hnx
      clear hnx haskB crd hiv hi0
      go_wp2_with fail
      refine ⟨⟨k + 1, cv', rfl, by omega, ?_⟩, by simp [intOf]; omega⟩
      rw [HNX.out]; exact HR2.out
    subst hi0
    rw [decide_eq_true rfl, Bool.and_true] at haskB
    cases R1
    case false =>
      rw [ask_false haskB] at hnx
      have HNX : Hid (asks l s (k + 1) = t) := hnx
      clear hnx haskB hiv
      go_wp2_with (go_at_call 91; go_must (refine crd.mono ?_; rintro e w1 ⟨rfl, hb1⟩))
      refine ⟨⟨k + 1, cv', rfl, by omega, ?_⟩, by simp [intOf]; omega⟩
      rw [HNX.out]; exact HR2.out.go hb1
    case true =>
      have hnot : k ∉ t.done := HR2.out.ok.not (by omega)
      have HNX : Hid (asks l s (k + 1) = beg l t 1 1 k) := by rw [hnx, ask_true haskB]; rfl
      have HNOT : Hid (k ∉ t.done) := hnot
      clear hnx haskB hnot hiv
      go_upto_region 4 with (go_at_call 91; go_must (refine crd.mono ?_; rintro e w1 ⟨rfl, hb1⟩))
      have cb := implBegin (HR2.out.go hb1) 1 1 k hkn (by omega) (by omega) HNOT.out HCL.out
      clear crd c2 d1
      go_wp2_with (go_at_call 92; go_must (refine cb.mono ?_; rintro e w5 ⟨rfl, cv5, H5⟩))
      refine ⟨⟨k + 1, cv5, rfl, by omega, ?_⟩, by simp [intOf]; omega⟩
      rw [HNX.out]; exact H5
set_option maxRecDepth 100000 in
theorem implBusy1 (x y : Int) (w : World) :
    Calls Tryz.prog 67 #[.agg #[.int .i64 x, .int .i64 y]] w fun e w' => e = .returned (.bool (decide (x = 1) || decide (x = 3))) ∧ Below w.heap.size w w' := by
  have hb := (Below.refl _ w).alloc (Nat.le_refl _) (.cells #[.int .i64 x, .int .i64 y] 79)
  have HB : Hid _ := hb
  clear hb
  by_cases h1 : x = 1
  · subst h1
    go_enter Tryz.func67, Tryz.ntmps67
    go_wp2_with fail
    go_ret
    exact ⟨by simp, HB.out⟩
  · have h1' : (x == 1) = false := by simp [h1]
    have hd : decide (x = 1) = false := decide_eq_false h1
    rw [hd]
    go_enter Tryz.func67, Tryz.ntmps67
    go_wp2_with fail
    go_ret
    refine ⟨?_, HB.out⟩
    by_cases h3 : x = 3 <;> simp [h3]
theorem busy_any (s : Sg) : busy s = s.is.any (fun y => decide (y = 1) || decide (y = 3)) := by
  unfold busy anyB
  induction s.is with
  | nil => rfl
  | cons x xs ih =>
    simp only [List.any_cons]
    rw [← ih]
    cases decide (x = 1) <;> cases decide (x = 3) <;> cases xs.any (fun y => decide (y = 1)) <;> cases xs.any (fun y => decide (y = 3)) <;> rfl
set_option maxRecDepth 100000 in
set_option maxHeartbeats 2000000 in
theorem implIndexP (h : RunI S B l a cap g gp rv reps dv cv w0 w s) :
    Calls Tryz.prog 66 #[.slice (some ⟨gp, 0, none⟩) l.length l.length, .func (.func 67) #[] #[]] w fun e w' => (∃ r : Int, e = .returned (.int .i64 r) ∧ decide (0 ≤ r) = busy s) ∧ Below w.heap.size w w' := by
  have HR : Hid (RunI S B l a cap g gp rv reps dv cv w0 w s) := h
  have hl : l.length ≤ 20 := h.saga.len.2
  have hl' : (l.length : Int) ≤ 20 := by omega
  have hil := h.ok.il
  have HIL : Hid (s.is.length = l.length) := hil
  rw [busy_any]
  clear h hil
  go_enter Tryz.func66, Tryz.ntmps66
  go_wp2_with fail
  go_loopw [8] (fun i8 wr => ∃ (k : Nat), i8 = .int .i64 (k : Int) ∧ k ≤ l.length ∧ (s.is.take k).any (fun y => decide (y = 1) || decide (y = 3)) = false ∧ Below w.heap.size w wr) (fun i8 _ => l.length - (intOf i8).toNat)
  case atStart => exact ⟨0, rfl, by omega, by simp, Below.refl _ _⟩
  case round =>
    obtain ⟨k, rfl, hk, hany, hb⟩ := hrel
    have HA : Hid ((s.is.take k).any (fun y => decide (y = 1) || decide (y = 3)) = false) := hany
    clear hany
    by_cases hkn : k < l.length
    · have hkn' : (k : Int) < (l.length : Int) := by omega
      have hR := HR.out.go hb
      have d1 := (hR.isCell k hkn).1
      have d2 := (hR.trCell k hkn).1
      have hks : k < s.is.length := by rw [HIL.out]; exact hkn
      have hie := isAt_eq hks
      obtain ⟨x, hx⟩ : ∃ x, isAt s k = x := ⟨_, rfl⟩
      obtain ⟨y, hy⟩ : ∃ y, trAt s k = y := ⟨_, rfl⟩
      rw [hx] at d1 hie
      rw [hy] at d2
      have cx := implBusy1 x y wr
      have HX : Hid (x = s.is[k]) := hie
      have HBW : Hid (Below w.heap.size w wr) := hb
      clear hx hy hR hb hie
      obtain ⟨B1, hB1⟩ : ∃ B1, (decide (x = 1) || decide (x = 3)) = B1 := ⟨_, rfl⟩
      rw [hB1] at cx
      have HB1 : Hid ((decide (x = 1) || decide (x = 3)) = B1) := hB1
      clear hB1
      cases B1
      · go_wp2_with (go_at_call 67; go_must (refine cx.mono ?_; rintro e w1 ⟨rfl, hb1⟩))
        exact ⟨⟨k + 1, rfl, by omega, any_takeA s.is _ k hks HA.out (by rw [← HX.out]; exact HB1.out), good_below HBW.out hb1⟩, by simp [intOf]; omega⟩
      · go_wp2_with (go_at_call 67; go_must (refine cx.mono ?_; rintro e w1 ⟨rfl, hb1⟩))
        go_ret
        refine ⟨⟨_, rfl, ?_⟩, good_below HBW.out hb1⟩
        rw [List.any_eq_true.2 ⟨s.is[k], List.getElem_mem hks, by rw [← HX.out]; exact HB1.out⟩]
        simp
    · have hkn' : ¬ ((k : Int) < (l.length : Int)) := by omega
      have hA := HA.out
      rw [List.take_of_length_le (by rw [HIL.out]; omega)] at hA
      go_wp2_with fail
      go_ret
      refine ⟨⟨_, rfl, ?_⟩, hb⟩
      first
        | (rw [hA]; rfl)
        | omega
set_option maxRecDepth 100000 in
theorem implFirstBusy (h : RunI S B l a cap g gp rv reps dv cv w0 w s) :
    Calls Tryz.prog 45 #[.pointer (some ⟨g, 0, none⟩)] w fun e w' => (∃ r : Int, e = .returned (.int .i64 r) ∧ decide (0 ≤ r) = busy s) ∧ Below w.heap.size w w' := by
  have c := implIndexP h
  have c2 := h.blk.cell 2
  simp at c2
  clear h
  go_enter Tryz.func45, Tryz.ntmps45
  go_wp2_with (go_at_call 66; go_must (refine c.mono ?_; rintro e w1 ⟨⟨r, rfl, hr⟩, hb1⟩))
  go_ret
  exact ⟨⟨r, rfl, hr⟩, hb1⟩
end
end Go.Proofs.YtdheogonghcokaaGreatDoor

namespace Go.Proofs.YtdheogonghcokaaGreatDoor
open Go.ChangeShapes Go.WideShapes Go.ChangeAt Go.RowKit
set_option linter.unusedVariables false
set_option linter.unusedSimpArgs false

section
variable {S : Nat → Prop} {B : Nat} {l : List Step} {a : Option Addr} {cap g gp : Nat} {rv : Value} {reps : List Int} {dv cv : Value} {w0 w : World} {s : Sg}
theorem nums_drop (d : List Nat) {m : Nat} (h : d.length = m + 1) : (nums d).take m = nums d.dropLast := by
  unfold nums
  rw [← List.map_take, List.dropLast_eq_take, h]
  rfl
set_option maxRecDepth 100000 in
set_option maxHeartbeats 4000000 in
theorem implUndo (h : RunI S B l a cap g gp rv reps dv cv w0 w s) (h0 : 0 < s.done.length) (hc : s.cmds.length ≤ 900000) :
    Calls Tryz.prog 93 #[.pointer (some ⟨g, 0, none⟩)] w fun e w' => e = .returned (.tuple #[]) ∧ ∃ dv' cv', RunI S B l a cap g gp rv reps dv' cv' w0 w' (undoS l s (lastOf s)) := by
  have hl : l.length ≤ 20 := h.saga.len.2
  have hl' : (l.length : Int) ≤ 20 := by omega
  have hdl := done_len h.ok
  obtain ⟨m, hm⟩ : ∃ m, s.done.length = m + 1 := ⟨s.done.length - 1, by omega⟩
  obtain ⟨da, dc, hdv, hdc⟩ := h.done.natCells
  obtain ⟨dg, hda, hdB, hdg, hcell⟩ := hdc h0
  subst hda
  subst hdv
  have hla := last_at hm
  have d1 := hcell m (by omega)
  rw [hla] at d1
  have hin := (h.ok.dk _ (last_in h0)).1
  have hout := h.ok.last_out h0
  have htk := OwnNums.take h.done m (by rw [nums_len]; omega)
  rw [nums_drop _ hm] at htk
  obtain ⟨hbk, H1⟩ := h.growD htk (Below.refl _ _) (grown_of (Below.refl _ _) _) (.inl rfl) h.ok.drop
  have hlt := OwnNums.lt h.done
  have hmc : m + 1 ≤ dc := by rw [← hm]; exact hlt.2.2.1
  have hus : undoS l s (lastOf s) = if (stepOf l (lastOf s)).undo then beg l { s with done := s.done.dropLast } 3 2 (lastOf s) else setIs { s with done := s.done.dropLast } (lastOf s) 4 := rfl
  rw [hus]
  obtain ⟨x, hx⟩ : ∃ x, lastOf s = x := ⟨_, rfl⟩
  rw [hx] at d1 hin hout ⊢
  have c3 := h.blk.cell 3
  have f3 := h.blk.fro 3
  simp at c3
  rw [hm] at c3
  have hm20 : (m : Int) < 20 := by omega
  have hm1 : ((m + 1 : Nat) : Int) - 1 = (m : Int) := by omega
  have hxl : (x : Int) < (l.length : Int) := by omega
  have HH1 : Hid (RunI S B l a cap g gp rv reps (.slice (some ⟨dg, 0, none⟩) m dc) cv w0 (w.setCell ⟨g, 3, none⟩ (.slice (some ⟨dg, 0, none⟩) m dc)) { s with done := s.done.dropLast }) := H1
  have HIN : Hid (x < l.length) := hin
  have HOUT : Hid (x ∉ s.done.dropLast) := hout
  have HC : Hid (s.cmds.length ≤ 900000) := hc
  have hdm : (dc : Int) ≤ 9223372036854775807 := by have := hlt.2.2.2.1; simp [maxLen] at this; omega
  have hmc' : (m : Int) + 1 ≤ (dc : Int) := by omega
  clear h hcell hdc htk hbk H1 hlt hla hx hin hout hc h0 hm hus
  cases hu : (stepOf l x).undo
  case false =>
    rw [if_neg (by simp)]
    go_enter Tryz.func93, Tryz.ntmps93
    go_upto_region 3 with fail
    obtain ⟨wA, hwA⟩ : ∃ wA, w.setCell ⟨g, 3, none⟩ (.slice (some ⟨dg, 0, none⟩) m dc) = wA := ⟨_, rfl⟩
    rw [hwA] at HH1 ⊢
    clear hwA c3 f3 d1
    obtain ⟨b, off, rfl, hbB, hst⟩ := HH1.out.stepCell
    have e2 := (hst x HIN.out).2.1
    rw [hu] at e2
    have c0 := HH1.out.blk.cell 0
    simp at c0
    have ct := implTakeBack HH1.out x HIN.out HOUT.out
    clear hst hu
    go_wp2_with (go_at_call 64; go_must (refine ct.mono ?_; rintro e w5 ⟨rfl, H5⟩))
    go_end0
    exact ⟨rfl, _, _, H5⟩
  case true =>
    rw [if_pos rfl]
    go_enter Tryz.func93, Tryz.ntmps93
    go_upto_region 3 with fail
    obtain ⟨wA, hwA⟩ : ∃ wA, w.setCell ⟨g, 3, none⟩ (.slice (some ⟨dg, 0, none⟩) m dc) = wA := ⟨_, rfl⟩
    rw [hwA] at HH1 ⊢
    clear hwA c3 f3 d1
    obtain ⟨b, off, rfl, hbB, hst⟩ := HH1.out.stepCell
    have e2 := (hst x HIN.out).2.1
    rw [hu] at e2
    have c0 := HH1.out.blk.cell 0
    simp at c0
    have cb := implBegin HH1.out 3 2 x HIN.out (by omega) (by omega) HOUT.out HC.out
    clear hst hu
    go_wp2_with (go_at_call 92; go_must (refine cb.mono ?_; rintro e w5 ⟨rfl, cv5, H5⟩))
    (try simp only [Exit.inBlock, Exit.then])
    refine bodyPost_ret (results_none rfl _ _ _) rfl ?_
    exact ⟨rfl, _, _, H5⟩
set_option maxRecDepth 100000 in
set_option maxHeartbeats 4000000 in
theorem implBack (h : RunI S B l a cap g gp rv reps dv cv w0 w s) (hc : s.cmds.length ≤ 800000) :
    Calls Tryz.prog 58 #[.pointer (some ⟨g, 0, none⟩)] w fun e w' => e = .returned (.tuple #[]) ∧ ∃ dv' cv', RunI S B l a cap g gp rv reps dv' cv' w0 w' (back l s.done.length s) := by
  have hl : l.length ≤ 20 := h.saga.len.2
  have hdl := done_len h.ok
  have HR : Hid (RunI S B l a cap g gp rv reps dv cv w0 w s) := h
  have HC : Hid (s.cmds.length ≤ 800000) := hc
  obtain ⟨R, hRr⟩ : ∃ R, back l s.done.length s = R := ⟨_, rfl⟩
  rw [hRr]
  have HRR : Hid (back l s.done.length s = R) := hRr
  clear h hc hRr
  go_enter Tryz.func58, Tryz.ntmps58
  go_wp2_with fail
  go_loopw [2] (fun i2 wr => ∃ (dv' cv' : Value) (t : Sg), RunI S B l a cap g gp rv reps dv' cv' w0 wr t ∧ back l t.done.length t = R ∧ t.cmds.length + t.done.length ≤ 800020) (fun _ wr => lenIn wr ⟨g, 3, none⟩)
  case atStart => exact ⟨dv, cv, s, HR.out, HRR.out, by have := HC.out; omega⟩
  case round =>
    obtain ⟨dv', cv', t, hR, hbk, hcl⟩ := hrel
    have HR1 : Hid (RunI S B l a cap g gp rv reps dv' cv' w0 wr t) := hR
    have HBK : Hid (back l t.done.length t = R) := hbk
    have HCL : Hid (t.cmds.length + t.done.length ≤ 800020) := hcl
    have cf := implFirstBusy hR
    obtain ⟨da, dc, hdv, -⟩ := hR.done.natCells
    clear hbk hcl
    cases hbz : busy t
    case true =>
      have hr : R = t := by rw [← HBK.out]; exact back_busy hbz _
      subst hr
      rw [hbz] at cf
      clear hR hdv
      go_wp2_with (go_at_call 45; go_must (refine cf.mono ?_; rintro e w1 ⟨⟨r, rfl, hr⟩, hb1⟩; have hr' : ¬ (r < 0) := (by have := of_decide_eq_true hr; omega); clear hr))
      go_end0
      exact ⟨rfl, _, _, HR1.out.go hb1⟩
    case false =>
      rw [hbz] at cf
      by_cases h0 : t.done.length = 0
      · have hr : R = setSt t 4 := by rw [← HBK.out, h0]; exact back_zero hbz
        subst hr
        clear hR hbz
        go_upto_region 1 with (go_at_call 45; go_must (refine cf.mono ?_; rintro e w1 ⟨⟨r, rfl, hr⟩, hb1⟩; have hr' : r < 0 := (by have := of_decide_eq_false hr; omega); clear hr))
        have H1 := HR1.out.go hb1
        have c3 := H1.blk.cell 3
        have c1 := H1.blk.cell 1
        have f1 := H1.blk.fro 1
        simp at c3 c1
        rw [hdv, h0] at c3
        have H9 := H1.putSt 4
        have HH9 : Hid (RunI S B l a cap g gp rv reps dv' cv' w0 (w1.setCell ⟨g, 1, none⟩ (.int .i64 4)) (setSt t 4)) := H9
        clear H9 H1 cf hdv h0
        go_wp2_with fail
        (try simp only [Exit.inBlock, Exit.then])
        refine bodyPost_ret (results_none rfl _ _ _) rfl ?_
        exact ⟨rfl, _, _, HH9.out⟩
      · obtain ⟨m, hm⟩ : ∃ m, t.done.length = m + 1 := ⟨t.done.length - 1, by omega⟩
        have hund := back_succ (l := l) hbz m
        rw [← hm, HBK.out] at hund
        have hul := undo_len l t (lastOf t)
        have huc := undo_cmds l t (lastOf t)
        have c3r := hR.blk.cell 3
        simp at c3r
        rw [hdv, hm] at c3r
        have HSLEN : Hid (lenIn wr ⟨g, 3, none⟩ = m + 1) := lenIn_eq c3r
        have HUND : Hid (R = back l m (undoS l t (lastOf t))) := hund
        have HUL : Hid ((undoS l t (lastOf t)).done = t.done.dropLast) := hul
        have HUC : Hid ((undoS l t (lastOf t)).cmds.length ≤ t.cmds.length + 1) := huc
        have HM : Hid (t.done.length = m + 1) := hm
        have hm20 : m < 20 := by have := done_len HR1.out.ok; omega
        clear hund hul huc hR hbz c3r hm h0
        go_upto_region 1 with (go_at_call 45; go_must (refine cf.mono ?_; rintro e w1 ⟨⟨r, rfl, hr⟩, hb1⟩; have hr' : r < 0 := (by have := of_decide_eq_false hr; omega); clear hr))
        have H1 := HR1.out.go hb1
        have c3 := H1.blk.cell 3
        simp at c3
        rw [hdv, HM.out] at c3
        have cu := implUndo H1 (by rw [HM.out]; omega) (by have := HCL.out; omega)
        clear cf hdv H1
        have hne : ¬ (((m + 1 : Nat) : Int) = 0) := by omega
        go_wp2_with (go_at_call 93; go_must (refine cu.mono ?_; rintro e w5 ⟨rfl, dv5, cv5, H5⟩))
        have hlen : (undoS l t (lastOf t)).done.length = m := by rw [HUL.out, List.length_dropLast, HM.out]; omega
        refine ⟨⟨dv5, cv5, _, H5, by rw [hlen]; exact HUND.out.symm, by have := HUC.out; have := HCL.out; have := HM.out; omega⟩, ?_⟩
        obtain ⟨ea, ec, hev, -⟩ := H5.done.natCells
        have k3 := H5.blk.cell 3
        simp at k3
        rw [hev, hlen] at k3
        rw [lenIn_eq k3, HSLEN.out]
        omega
set_option maxRecDepth 100000 in
set_option maxHeartbeats 2000000 in
theorem implGoOn (h : RunI S B l a cap g gp rv reps dv cv w0 w s) (hc : s.cmds.length ≤ 800000) :
    Calls Tryz.prog 40 #[.pointer (some ⟨g, 0, none⟩)] w fun e w' => e = .returned (.tuple #[]) ∧ ∃ dv' cv', RunI S B l a cap g gp rv reps dv' cv' w0 w' (goOnS l s) := by
  have c1 := h.blk.cell 1
  simp at c1
  have cf := implForward h hc
  have cb := implBack h hc
  have HR : Hid (RunI S B l a cap g gp rv reps dv cv w0 w s) := h
  unfold goOnS
  obtain ⟨st, hst⟩ : ∃ st, s.st = st := ⟨_, rfl⟩
  rw [hst] at c1 ⊢
  clear h hst
  by_cases h1 : st = 1
  · subst h1
    rw [if_pos rfl]
    go_enter Tryz.func40, Tryz.ntmps40
    go_wp2_with (go_at_call 57; go_must (refine cf.mono ?_; rintro e w5 ⟨rfl, cv5, H5⟩))
    go_end0
    exact ⟨rfl, _, cv5, H5⟩
  · rw [if_neg h1]
    have h1' : (st == 1) = false := by simp [h1]
    by_cases h2 : st = 2
    · subst h2
      rw [if_pos rfl]
      go_enter Tryz.func40, Tryz.ntmps40
      go_wp2_with (go_at_call 58; go_must (refine cb.mono ?_; rintro e w5 ⟨rfl, dv5, cv5, H5⟩))
      go_end0
      exact ⟨rfl, dv5, cv5, H5⟩
    · rw [if_neg h2]
      have h2' : (st == 2) = false := by simp [h2]
      go_enter Tryz.func40, Tryz.ntmps40
      go_wp2_with fail
      go_end0
      exact ⟨rfl, _, _, HR.out⟩
end
end Go.Proofs.YtdheogonghcokaaGreatDoor

namespace Go.Proofs.YtdheogonghcokaaGreatDoor
open Go.ChangeShapes Go.WideShapes Go.ChangeAt Go.RowKit
set_option linter.unusedVariables false
set_option linter.unusedSimpArgs false

/-- A row of parts is made. -/
theorem made_parts (n : Nat) (hn : n ≤ 20) : ∃ zc : Array Value, PartsAt zc (List.replicate n 0) (List.replicate n 0) ∧ ∀ w, (Instr.makeSlice 61 (.int .i64 (n : Int)) (.int .i64 (n : Int))).run Tryz.prog w = .ok (.slice (some ⟨w.heap.size, 0, none⟩) n n) (w.alloc (.cells zc 79)) := by
  obtain ⟨i, hii, hz0, hz1, hz2⟩ := info_of (t := 79) (z := .agg #[.int .i64 0, .int .i64 0]) (n := 2) (b := 16) (by kernel_rfl)
  have hcell : ∀ j, j < n * 2 → (madeCells (Value.cells (.agg #[.int .i64 0, .int .i64 0])) (n * 2))[j]? = some (.int .i64 0) := fun j hj => by
    unfold madeCells
    rw [Array.getElem?_map, Array.getElem?_range, if_pos hj]
    simp only [Option.map_some]
    have h2 : (Value.cells (.agg #[.int .i64 0, .int .i64 0])) = #[.int .i64 0, .int .i64 0] := by kernel_rfl
    rw [h2]
    have h3 : j % 2 = 0 ∨ j % 2 = 1 := by omega
    rcases h3 with h3 | h3 <;> simp [h3]
  refine ⟨madeCells (Value.cells (.agg #[.int .i64 0, .int .i64 0])) (n * 2), ⟨by simp [size_madeCells], by simp, fun k hk => ?_, fun k hk => ?_⟩, fun w => ?_⟩
  · have hk' : k < n := by simpa using hk
    rw [hcell _ (by omega), List.getElem_replicate]
  · have hk' : k < n := by simpa using hk
    rw [hcell _ (by omega), List.getElem_replicate]
  · have hb : (i.bytes : Int) * (n : Int) ≤ 281474976710656 := by rw [hz2]; omega
    have hr := run_make (P := Tryz.prog) w 61 79 i _ Tryz.underlying61 hii hz0 .i64 .i64 (n : Int) (n : Int) (by omega) (by omega) hb (by omega)
    simp only [Int.toNat_natCast, hz1] at hr
    exact hr
section
variable {S : Nat → Prop} {B : Nat} {l : List Step} {a : Option Addr} {cap : Nat} {w : World}
theorem is_zero (l : List Step) (i : Nat) : isAt (zeroS l) i = 0 := by
  unfold isAt zeroS
  dsimp only
  rw [List.getElem?_replicate]
  split <;> rfl
theorem twoI (w : World) (zc cs : Array Value) : Blk ((w.alloc (.cells zc 79)).alloc (.cells cs 63)) w.heap.size 79 zc ∧ Blk ((w.alloc (.cells zc 79)).alloc (.cells cs 63)) (w.heap.size + 1) 63 cs ∧ Below w.heap.size w ((w.alloc (.cells zc 79)).alloc (.cells cs 63)) :=
  ⟨two1 w _ _, two2 w _ _, ((Below.refl _ w).alloc (Nat.le_refl _) _).alloc (by simp only [World.size_alloc]; omega) _⟩
set_option maxRecDepth 100000 in
set_option maxHeartbeats 2000000 in
theorem implRunOf (h : SagaIn S w.heap.size w a cap l) :
    Calls Tryz.prog 24 #[.slice a l.length cap] w fun e w' => ∃ g gp dv cv, e = .returned (.pointer (some ⟨g, 0, none⟩)) ∧ RunI S w.heap.size l a cap g gp (.slice none 0 0) [] dv cv w w' (beginS l) := by
  have hl : l.length ≤ 20 := h.len.2
  have hl' : (l.length : Int) ≤ 20 := by omega
  obtain ⟨zc, hzc, hmk⟩ := made_parts l.length hl
  obtain ⟨b1, b2, b3⟩ := twoI w zc #[.slice a l.length cap, .int .i64 1, .slice (some ⟨w.heap.size, 0, none⟩) l.length l.length, .slice none 0 0, .slice none 0 0]
  have H1 : RunI S w.heap.size l a cap (w.heap.size + 1) w.heap.size (.slice none 0 0) [] (.slice none 0 0) (.slice none 0 0) w ((w.alloc (.cells zc 79)).alloc (.cells #[.slice a l.length cap, .int .i64 1, .slice (some ⟨w.heap.size, 0, none⟩) l.length l.length, .slice none 0 0, .slice none 0 0] 63)) (zeroS l) :=
    ⟨h.below b3 (Nat.le_refl _), b2, ⟨zc, b1, hzc⟩, OwnNums.nil _ _, OwnCmds.nil _ _, OwnNums.nil _ _, .inl rfl, ⟨by omega, by omega⟩, fun i => by rw [is_zero]; omega, Ok.zero l, Nat.le_refl _, b3⟩
  have co := implGoOn H1 (by simp [zeroS])
  have hg : goOnS l (zeroS l) = beginS l := by unfold goOnS beginS; rw [if_pos (show (zeroS l).st = 1 from rfl)]
  rw [hg] at co
  clear h hzc b1 b2 b3 H1 hg
  go_enter Tryz.func24, Tryz.ntmps24
  go_wp2_with (go_at_call 40; go_must (refine co.mono ?_; rintro e w5 ⟨rfl, dv5, cv5, H5⟩))
  go_ret
  exact ⟨_, _, dv5, cv5, rfl, H5⟩
end
section
variable {S : Nat → Prop} {B : Nat} {l : List Step} {a : Option Addr} {cap g gp : Nat} {rv : Value} {reps : List Int} {dv cv : Value} {w0 w : World} {s : Sg}
set_option maxRecDepth 100000 in
theorem implTries (h : RunI S B l a cap g gp rv reps dv cv w0 w s) (i : Nat) (hi : i < l.length) :
    Calls Tryz.prog 94 #[.pointer (some ⟨g, 0, none⟩), .int .i64 (i : Int)] w fun e w' => e = .returned (.bool (moreB l s i)) ∧ Below w.heap.size w w' := by
  have hl : l.length ≤ 20 := h.saga.len.2
  have hl' : (l.length : Int) ≤ 20 := by omega
  have hi' : (i : Int) < (l.length : Int) := by omega
  obtain ⟨b, off, rfl, hbB, hst⟩ := h.stepCell
  have e3 := (hst i hi).2.2.1
  have c0 := h.blk.cell 0
  have c2 := h.blk.cell 2
  simp at c0 c2
  have d1 := (h.trCell i hi).1
  unfold moreB
  clear h hst
  go_enter Tryz.func94, Tryz.ntmps94
  go_upto_region 1 with fail
  go_quiet (fail)
  go_wp2_with fail
  go_ret
  exact ⟨rfl, bel_drewN (Below.refl _ _) _⟩
theorem more_lt (h : RunI S B l a cap g gp rv reps dv cv w0 w s) {i : Nat} (hi : i < l.length) (hm : moreB l s i = true) : trAt s i < 5 := by
  unfold moreB at hm
  have h1 := of_decide_eq_true hm
  rw [stepOf_eq hi] at h1
  have := h.saga.tries i hi
  omega
/-- What a move does. -/
def MoveC (f : Nat) (kind : Int) : Prop := ∀ {S : Nat → Prop} {B : Nat} {l : List Step} {a : Option Addr} {cap g gp : Nat} {rv : Value} {reps : List Int} {dv cv : Value} {w0 w : World} {s : Sg}, RunI S B l a cap g gp rv reps dv cv w0 w s → ∀ (i : Nat), i < l.length → i ∉ s.done → Ok l (moveS l s i kind) → s.cmds.length ≤ 900000 →
    Calls Tryz.prog f #[.pointer (some ⟨g, 0, none⟩), .int .i64 (i : Int)] w fun e w' => e = .returned (.tuple #[]) ∧ ∃ dv' cv', RunI S B l a cap g gp rv reps dv' cv' w0 w' (moveS l s i kind)
set_option maxRecDepth 100000 in
set_option maxHeartbeats 2000000 in
theorem implFinish : MoveC 62 1 := by
  intro S B l a cap g gp rv reps dv cv w0 w s h i hi hn hok hc
  have hl : l.length ≤ 20 := h.saga.len.2
  have hl' : (l.length : Int) ≤ 20 := by omega
  have hi' : (i : Int) < (l.length : Int) := by omega
  have c2 := h.blk.cell 2
  simp at c2
  obtain ⟨d1, f1⟩ := h.isCell i hi
  have hdl := done_len h.ok
  have H4 := h.putIs i hi 2 (by omega) (by omega) (h.ok.setIs hi 2 hn)
  rw [move_one] at hok ⊢
  have HH4 : Hid (RunI S B l a cap g gp rv reps dv cv w0 (w.setCell ⟨gp, i * 2, none⟩ (.int .i64 2)) (setIs s i 2)) := H4
  have HOK : Hid (Ok l { setIs s i 2 with done := s.done ++ [i] }) := hok
  clear h H4 hok
  go_enter Tryz.func62, Tryz.ntmps62
  go_upto_region 1 with fail
  obtain ⟨wB, hwB⟩ : ∃ wB, w.setCell ⟨gp, i * 2, none⟩ (.int .i64 2) = wB := ⟨_, rfl⟩
  rw [hwB] at HH4 ⊢
  clear hwB c2 d1 f1
  have hwb : Below wB.heap.size wB (wB.alloc (.cells #[.int .i64 (i : Int)] 3)) := (Below.refl _ wB).alloc (Nat.le_refl _) _
  obtain ⟨da, dc, hdv, -⟩ := HH4.out.done.natCells
  have c3 := HH4.out.blk.cell 3
  simp at c3
  rw [hdv] at c3
  have H5 := HH4.out.go hwb
  go_wp2_with (at_builtin; go_must (refine wpList_appendNumAt rfl (.tmp 15) (.tmp 17) rfl B dv (nums s.done) (by simp [Act.eval, hdv, setIs]) H5.done (i : Int) rfl (NumsAt.newAt _ (i : Int) _ (by simp)) (by rw [nums_len]; have : s.done.length ≤ l.length := hdl; omega) H5.size ?_; intro v9 w9 hown9 hB9 hgr9 hat9; obtain ⟨a9, c9, e9, -⟩ := hown9.value; obtain ⟨n9, hn9⟩ : ∃ n9, (nums s.done ++ [(i : Int)]).length = n9 := ⟨_, rfl⟩; rw [hn9] at e9; clear hn9; subst e9; have hown8 : OwnNums B w9 (.slice a9 n9 c9) (nums (s.done ++ [i])) := (by rw [nums_append]; exact hown9); obtain ⟨hbk, H6⟩ := H5.growD hown8 hB9 hgr9 hat9 HOK.out; have g3 := hbk.cell 3; have f3 := hbk.fro 3; simp at g3; rw [hdv] at g3))
  go_end0
  exact ⟨rfl, _, _, H6⟩
set_option maxRecDepth 100000 in
theorem implTake3 : MoveC 64 3 := by
  intro S B l a cap g gp rv reps dv cv w0 w s h i hi hn hok hc
  refine (implTakeBack h i hi hn).mono ?_
  rintro e w' ⟨rfl, h'⟩
  exact ⟨rfl, dv, cv, by rw [move_three]; exact h'⟩
set_option maxRecDepth 100000 in
set_option maxHeartbeats 2000000 in
theorem implFail : MoveC 63 2 := by
  intro S B l a cap g gp rv reps dv cv w0 w s h i hi hn hok hc
  have hl : l.length ≤ 20 := h.saga.len.2
  have hl' : (l.length : Int) ≤ 20 := by omega
  have hi' : (i : Int) < (l.length : Int) := by omega
  have ct := implTries h i hi
  have HR : Hid (RunI S B l a cap g gp rv reps dv cv w0 w s) := h
  have c1 := h.blk.cell 1
  simp at c1
  have hml := fun hm => more_lt h hi hm
  by_cases hs1 : s.st = 1
  · rw [hs1] at c1
    cases hm : moreB l s i
    · rw [hm] at ct
      rw [move_two_b (by rw [hm]; simp)]
      clear h hml hm hs1
      go_enter Tryz.func63, Tryz.ntmps63
      go_upto_region 2 with (go_at_call 94; go_must (refine ct.mono ?_; rintro e w1 ⟨rfl, hb1⟩))
      have H1 := HR.out.go hb1
      clear ct c1
      have c2 := H1.blk.cell 2
      simp at c2
      obtain ⟨d1, f1⟩ := H1.isCell i hi
      have H2 := H1.putIs i hi 0 (by omega) (by omega) (H1.ok.setIs hi 0 hn)
      have c1 := H2.blk.cell 1
      have f2 := H2.blk.fro 1
      simp at c1
      have H3 := H2.putSt 2
      have HH3 : Hid (RunI S B l a cap g gp rv reps dv cv w0 ((w1.setCell ⟨gp, i * 2, none⟩ (.int .i64 0)).setCell ⟨g, 1, none⟩ (.int .i64 2)) (setSt (setIs s i 0) 2)) := H3
      clear H1 H2 H3
      go_wp2_with fail
      go_end0
      exact ⟨rfl, _, _, HH3.out⟩
    · rw [hm] at ct
      have h5 := hml hm
      rw [move_two_a hs1 hm]
      have HH5 : Hid (trAt s i < 5) := h5
      clear h hml hm h5 hs1
      go_enter Tryz.func63, Tryz.ntmps63
      go_upto_region 1 with (go_at_call 94; go_must (refine ct.mono ?_; rintro e w1 ⟨rfl, hb1⟩))
      have co := implOrder (HR.out.go hb1) 1 i hi HH5.out hc
      go_wp2_with (go_at_call 95; go_must (refine co.mono ?_; rintro e w5 ⟨rfl, cv5, H5⟩))
      (try simp only [Exit.inBlock, Exit.then])
      refine bodyPost_ret (results_none rfl _ _ _) rfl ?_
      exact ⟨rfl, _, cv5, H5⟩
  · rw [move_two_b (fun hh => hs1 hh.1)]
    obtain ⟨st, hst⟩ : ∃ st, s.st = st := ⟨_, rfl⟩
    rw [hst] at c1 hs1
    have hs1' : (st == 1) = false := by simp [hs1]
    clear h hml hst ct hs1
    go_enter Tryz.func63, Tryz.ntmps63
    go_upto_region 2 with fail
    have H1 := HR.out
    clear c1
    have c2 := H1.blk.cell 2
    simp at c2
    obtain ⟨d1, f1⟩ := H1.isCell i hi
    have H2 := H1.putIs i hi 0 (by omega) (by omega) (H1.ok.setIs hi 0 hn)
    have c1 := H2.blk.cell 1
    have f2 := H2.blk.fro 1
    simp at c1
    have H3 := H2.putSt 2
    have HH3 : Hid (RunI S B l a cap g gp rv reps dv cv w0 ((w.setCell ⟨gp, i * 2, none⟩ (.int .i64 0)).setCell ⟨g, 1, none⟩ (.int .i64 2)) (setSt (setIs s i 0) 2)) := H3
    clear H1 H2 H3
    go_wp2_with fail
    go_end0
    exact ⟨rfl, _, _, HH3.out⟩
set_option maxRecDepth 100000 in
set_option maxHeartbeats 2000000 in
theorem implStick : MoveC 65 4 := by
  intro S B l a cap g gp rv reps dv cv w0 w s h i hi hn hok hc
  have ct := implTries h i hi
  have HR : Hid (RunI S B l a cap g gp rv reps dv cv w0 w s) := h
  have hml := fun hm => more_lt h hi hm
  cases hm : moreB l s i
  · rw [hm] at ct
    rw [move_four_b hm]
    clear h hml hm
    go_enter Tryz.func65, Tryz.ntmps65
    go_upto_region 2 with (go_at_call 94; go_must (refine ct.mono ?_; rintro e w1 ⟨rfl, hb1⟩))
    have H1 := HR.out.go hb1
    have c1 := H1.blk.cell 1
    have f1 := H1.blk.fro 1
    simp at c1
    have H2 := H1.putSt 5
    have HH2 : Hid (RunI S B l a cap g gp rv reps dv cv w0 (w1.setCell ⟨g, 1, none⟩ (.int .i64 5)) (setSt s 5)) := H2
    clear H1 H2 ct
    go_wp2_with fail
    go_end0
    exact ⟨rfl, _, _, HH2.out⟩
  · rw [hm] at ct
    have h5 := hml hm
    rw [move_four_a hm]
    have HH5 : Hid (trAt s i < 5) := h5
    clear h hml hm h5
    go_enter Tryz.func65, Tryz.ntmps65
    go_upto_region 1 with (go_at_call 94; go_must (refine ct.mono ?_; rintro e w1 ⟨rfl, hb1⟩))
    have co := implOrder (HR.out.go hb1) 2 i hi HH5.out hc
    go_wp2_with (go_at_call 95; go_must (refine co.mono ?_; rintro e w5 ⟨rfl, cv5, H5⟩))
    (try simp only [Exit.inBlock, Exit.then])
    refine bodyPost_ret (results_none rfl _ _ _) rfl ?_
    exact ⟨rfl, _, cv5, H5⟩
end
end Go.Proofs.YtdheogonghcokaaGreatDoor

namespace Go.Proofs.YtdheogonghcokaaGreatDoor
open Go.ChangeShapes Go.WideShapes Go.ChangeAt Go.RowKit
set_option linter.unusedVariables false
set_option linter.unusedSimpArgs false

/-- The move of a message, if one fits. -/
def moveV (x k : Int) : Value :=
  if x = 1 then (if k = 1 then .func (.func 62) #[] #[] else if k = 2 then .func (.func 63) #[] #[] else .nilFunc)
  else if x = 3 then (if k = 3 then .func (.func 64) #[] #[] else if k = 4 then .func (.func 65) #[] #[] else .nilFunc)
  else .nilFunc
def noMoves : Array Value := #[.nilFunc, .nilFunc, .nilFunc, .nilFunc, .nilFunc, .nilFunc, .nilFunc, .nilFunc, .nilFunc, .nilFunc, .nilFunc, .nilFunc, .nilFunc, .nilFunc, .nilFunc, .nilFunc, .nilFunc, .nilFunc, .nilFunc, .nilFunc, .nilFunc, .nilFunc, .nilFunc, .nilFunc, .nilFunc]
def moves : Array Value := #[.nilFunc, .nilFunc, .nilFunc, .nilFunc, .nilFunc, .nilFunc, .func (.func 62) #[] #[], .func (.func 63) #[] #[], .nilFunc, .nilFunc, .nilFunc, .nilFunc, .nilFunc, .nilFunc, .nilFunc, .nilFunc, .nilFunc, .nilFunc, .func (.func 64) #[] #[], .func (.func 65) #[] #[], .nilFunc, .nilFunc, .nilFunc, .nilFunc, .nilFunc]
theorem wpList_table {ops : Array Oper} {rest : List Oper} {o : Oper} {a : Act} {w : World} {Q : Exit → Act → World → Prop} (hgd : o.guard = none) (x y : Operand) (ho : o.op = .store 95 x y)
    (hx : a.eval x = .pointer (some ⟨w.heap.size, 0, none⟩)) (hy : a.eval y = .agg moves) (h : wpList Tryz.prog ops Q rest (a.put o.dst undef) (w.alloc (.cells moves 95))) : wpList Tryz.prog ops Q (o :: rest) a (w.alloc (.cells noMoves 95)) := by
  refine wpList_plain hgd fun K hK => ?_
  unfold Oper.wp execOp
  simp only [ho, hx, hy, Instr.storeAt, Instr.sureAddr, Sem.run_bind, Sem.run_pure, Result.andThen_ok, run_storeVar_new (P := Tryz.prog) w 95 noMoves moves (by kernel_rfl) (by kernel_rfl) (by kernel_rfl)]
  exact hK _ _ h
set_option maxRecDepth 100000 in
set_option maxHeartbeats 4000000 in
theorem implMoveOf (x k : Int) (hx : x = 0 ∨ x = 1 ∨ x = 2 ∨ x = 3 ∨ x = 4) (hk : k = 1 ∨ k = 2 ∨ k = 3 ∨ k = 4) (w : World) :
    Calls Tryz.prog 44 #[.int .i64 x, .int .i64 k] w fun e w' => e = .returned (moveV x k) ∧ Below w.heap.size w w' := by
  have hb : Below w.heap.size w (w.alloc (.cells moves 95)) := (Below.refl _ w).alloc (Nat.le_refl _) _
  have kb : Blk (w.alloc (.cells moves 95)) w.heap.size 95 moves := heap_alloc_last w _
  have HB : Hid _ := hb
  have HK : Hid _ := kb
  clear hb kb
  go_enter Tryz.func44, Tryz.ntmps44
  go_upto_region 2 with (refine wpList_table rfl (.tmp 5) (.tmp 8) rfl rfl rfl ?_)
  (try simp only [Act.put, List.setIfInBounds_toArray, List.set_cons_zero, List.set_cons_succ])
  obtain ⟨wz, hwz⟩ : ∃ wz, w.alloc (.cells moves 95) = wz := ⟨_, rfl⟩
  rw [hwz] at HB HK ⊢
  clear hwz
  have hcell : ∀ n v, moves[n]? = some v → wz.cell? ⟨w.heap.size, n, none⟩ = some v := fun n v h => (Blk.cell HK.out n).trans h
  obtain ⟨bx, hbx⟩ : ∃ bx, w.heap.size = bx := ⟨_, rfl⟩
  rw [hbx] at hcell ⊢
  clear HK
  rcases hx with rfl | rfl | rfl | rfl | rfl <;> rcases hk with rfl | rfl | rfl | rfl
  · have q := hcell 1 .nilFunc rfl
    clear hcell
    go_wp2_with fail
    go_ret
    exact ⟨by simp [moveV], HB.out⟩
  · have q := hcell 2 .nilFunc rfl
    clear hcell
    go_wp2_with fail
    go_ret
    exact ⟨by simp [moveV], HB.out⟩
  · have q := hcell 3 .nilFunc rfl
    clear hcell
    go_wp2_with fail
    go_ret
    exact ⟨by simp [moveV], HB.out⟩
  · have q := hcell 4 .nilFunc rfl
    clear hcell
    go_wp2_with fail
    go_ret
    exact ⟨by simp [moveV], HB.out⟩
  · have q := hcell 6 (.func (.func 62) #[] #[]) rfl
    clear hcell
    go_wp2_with fail
    go_ret
    exact ⟨by simp [moveV], HB.out⟩
  · have q := hcell 7 (.func (.func 63) #[] #[]) rfl
    clear hcell
    go_wp2_with fail
    go_ret
    exact ⟨by simp [moveV], HB.out⟩
  · have q := hcell 8 .nilFunc rfl
    clear hcell
    go_wp2_with fail
    go_ret
    exact ⟨by simp [moveV], HB.out⟩
  · have q := hcell 9 .nilFunc rfl
    clear hcell
    go_wp2_with fail
    go_ret
    exact ⟨by simp [moveV], HB.out⟩
  · have q := hcell 11 .nilFunc rfl
    clear hcell
    go_wp2_with fail
    go_ret
    exact ⟨by simp [moveV], HB.out⟩
  · have q := hcell 12 .nilFunc rfl
    clear hcell
    go_wp2_with fail
    go_ret
    exact ⟨by simp [moveV], HB.out⟩
  · have q := hcell 13 .nilFunc rfl
    clear hcell
    go_wp2_with fail
    go_ret
    exact ⟨by simp [moveV], HB.out⟩
  · have q := hcell 14 .nilFunc rfl
    clear hcell
    go_wp2_with fail
    go_ret
    exact ⟨by simp [moveV], HB.out⟩
  · have q := hcell 16 .nilFunc rfl
    clear hcell
    go_wp2_with fail
    go_ret
    exact ⟨by simp [moveV], HB.out⟩
  · have q := hcell 17 .nilFunc rfl
    clear hcell
    go_wp2_with fail
    go_ret
    exact ⟨by simp [moveV], HB.out⟩
  · have q := hcell 18 (.func (.func 64) #[] #[]) rfl
    clear hcell
    go_wp2_with fail
    go_ret
    exact ⟨by simp [moveV], HB.out⟩
  · have q := hcell 19 (.func (.func 65) #[] #[]) rfl
    clear hcell
    go_wp2_with fail
    go_ret
    exact ⟨by simp [moveV], HB.out⟩
  · have q := hcell 21 .nilFunc rfl
    clear hcell
    go_wp2_with fail
    go_ret
    exact ⟨by simp [moveV], HB.out⟩
  · have q := hcell 22 .nilFunc rfl
    clear hcell
    go_wp2_with fail
    go_ret
    exact ⟨by simp [moveV], HB.out⟩
  · have q := hcell 23 .nilFunc rfl
    clear hcell
    go_wp2_with fail
    go_ret
    exact ⟨by simp [moveV], HB.out⟩
  · have q := hcell 24 .nilFunc rfl
    clear hcell
    go_wp2_with fail
    go_ret
    exact ⟨by simp [moveV], HB.out⟩
end Go.Proofs.YtdheogonghcokaaGreatDoor

namespace Go.Proofs.YtdheogonghcokaaGreatDoor
open Go.ChangeShapes Go.WideShapes Go.ChangeAt Go.RowKit
set_option linter.unusedVariables false
set_option linter.unusedSimpArgs false

section
variable {S : Nat → Prop} {B : Nat} {l : List Step} {a : Option Addr} {cap g gp : Nat} {rv : Value} {reps : List Int} {dv cv : Value} {w0 w : World} {s : Sg}
def overB (s : Sg) : Bool := decide (s.st ≠ 1) && decide (s.st ≠ 2)
set_option maxRecDepth 100000 in
theorem implOver (h : RunI S B l a cap g gp rv reps dv cv w0 w s) :
    Calls Tryz.prog 26 #[.pointer (some ⟨g, 0, none⟩)] w fun e w' => e = .returned (.bool (overB s)) ∧ w' = w := by
  have c1 := h.blk.cell 1
  simp at c1
  unfold overB
  obtain ⟨st, hst⟩ : ∃ st, s.st = st := ⟨_, rfl⟩
  rw [hst] at c1 ⊢
  clear h hst
  by_cases h1 : st = 1
  · subst h1
    go_enter Tryz.func26, Tryz.ntmps26
    go_wp2_with fail
    go_ret
    exact ⟨by simp, rfl⟩
  · have h1' : (st != 1) = true := by simp [h1]
    go_enter Tryz.func26, Tryz.ntmps26
    go_wp2_with fail
    go_ret
    refine ⟨?_, rfl⟩
    by_cases h2 : st = 2 <;> simp [h1, h2]
theorem eq_nil (w : World) : (binOp .eql 76 .nilFunc .nilFunc).run Tryz.prog w = .ok (.bool true) w := by kernel_rfl
theorem eq_func (f : Nat) (w : World) : (binOp .eql 76 (.func (.func f) #[] #[]) .nilFunc).run Tryz.prog w = .ok (.bool false) w := by kernel_rfl
theorem move_fits {x k : Int} (hk : k = 1 ∨ k = 2 ∨ k = 3 ∨ k = 4) (h : x ≠ wantI k) : moveV x k = .nilFunc := by
  unfold moveV
  unfold wantI at h
  rcases hk with rfl | rfl | rfl | rfl <;> simp at h ⊢ <;> omega
set_option maxRecDepth 100000 in
set_option maxHeartbeats 8000000 in
theorem implHear (h : RunI S B l a cap g gp rv reps dv cv w0 w s) (ms : ByteArray) (mk : Int) (hc : s.cmds.length ≤ 700000) :
    Calls Tryz.prog 27 #[.pointer (some ⟨g, 0, none⟩), .agg #[.string ms, .int .i64 mk]] w fun e w' => e = .returned (.int .i64 (codeS l s ⟨ms, mk⟩)) ∧ ∃ dv' cv', RunI S B l a cap g gp rv reps dv' cv' w0 w' (hearS l s ⟨ms, mk⟩) := by
  have hl : l.length ≤ 20 := h.saga.len.2
  have hl' : (l.length : Int) ≤ 20 := by omega
  have hA : Below w.heap.size w (w.alloc (.cells #[.string ms, .int .i64 mk] 50)) := (Below.refl _ w).alloc (Nat.le_refl _) _
  have kb : Blk (w.alloc (.cells #[.string ms, .int .i64 mk] 50)) w.heap.size 50 #[.string ms, .int .i64 mk] := heap_alloc_new w _
  have HRA := h.go hA
  have HC : Hid (s.cmds.length ≤ 700000) := hc
  obtain ⟨bx, hbx⟩ : ∃ bx, w.heap.size = bx := ⟨_, rfl⟩
  obtain ⟨C, hC⟩ : ∃ C, codeS l s ⟨ms, mk⟩ = C := ⟨_, rfl⟩
  obtain ⟨R, hR⟩ : ∃ R, hearS l s ⟨ms, mk⟩ = R := ⟨_, rfl⟩
  rw [hC, hR]
  have HCC : Hid (codeS l s ⟨ms, mk⟩ = C) := hC
  have HRC : Hid (hearS l s ⟨ms, mk⟩ = R) := hR
  clear h hc hA hC hR
  go_enter Tryz.func27, Tryz.ntmps27
  go_upto_region 1 with fail
  obtain ⟨wa, hwa⟩ : ∃ wa, w.alloc (.cells #[.string ms, .int .i64 mk] 50) = wa := ⟨_, rfl⟩
  rw [hwa] at HRA kb ⊢
  rw [hbx] at kb
  clear hwa hbx
  have cf := implFind HRA ms
  have pm := kb.cell 0
  simp at pm
  have HKB : Hid (Blk wa bx 50 #[.string ms, .int .i64 mk]) := kb
  have HR1 : Hid (RunI S B l a cap g gp rv reps dv cv w0 wa s) := HRA
  clear kb HRA
  by_cases hneg : findI (names l) ms < 0
  case pos =>
    obtain ⟨e1, e2⟩ := code_none (l := l) (s := s) (m := ⟨ms, mk⟩) hneg
    rw [HCC.out] at e1
    rw [HRC.out] at e2
    subst e1
    subst e2
    clear HCC HRC
    obtain ⟨fi, hfi⟩ : ∃ fi, findI (names l) ms = fi := ⟨_, rfl⟩
    rw [hfi] at hneg cf
    clear hfi
    go_wp2_with (go_at_call 42; go_must (refine cf.mono ?_; rintro e w1 ⟨rfl, hb1⟩))
    (try simp only [Exit.inBlock, Exit.then])
    go_ret
    exact ⟨rfl, dv, cv, HR1.out.go hb1⟩
  obtain ⟨hjl, hj⟩ := find_lt (Int.not_lt.1 hneg)
  have K1 := code_kind (l := l) (s := s) (m := ⟨ms, mk⟩) hneg
  have K2 := code_over (l := l) (s := s) (m := ⟨ms, mk⟩) hneg
  have K3 := code_not (l := l) (s := s) (m := ⟨ms, mk⟩) hneg
  have K4 := code_fits (l := l) (s := s) (m := ⟨ms, mk⟩) hneg
  rw [HCC.out, HRC.out] at K1 K2 K3 K4
  clear HCC HRC hneg
  dsimp only at K1 K2 K3 K4
  rw [← hj] at cf
  obtain ⟨j, hjj⟩ : ∃ j, numOf l ms = j := ⟨_, rfl⟩
  rw [hjj] at hjl K3 K4 cf
  clear hj hjj
  have hjl' : (j : Int) < (l.length : Int) := by omega
  have hj0 : ¬ ((j : Int) < 0) := by omega
  go_upto_region 4 with (go_at_call 42; go_must (refine cf.mono ?_; rintro e w1 ⟨rfl, hb1⟩))
  clear cf pm
  have H2 := HR1.out.go hb1
  have kb2 := Blk.below HKB.out hb1
  have k1 := kb2.cell 1
  simp at k1
  have HR2 : Hid (RunI S B l a cap g gp rv reps dv cv w0 w1 s) := H2
  have HKB2 : Hid (Blk w1 bx 50 #[.string ms, .int .i64 mk]) := kb2
  have cb := implBetween mk 1 4 w1
  clear HR1 HKB kb2 hb1
  by_cases hm : mk < 1 ∨ 4 < mk
  case pos =>
    obtain ⟨rfl, rfl⟩ := K1 hm
    have hbt : (decide (1 ≤ mk) && decide (mk ≤ 4)) = false := by
      rcases hm with h1 | h1
      · rw [decide_eq_false (by omega : ¬ 1 ≤ mk)]; rfl
      · rw [decide_eq_false (by omega : ¬ mk ≤ 4), Bool.and_false]
    rw [hbt] at cb
    clear K1 K2 K3 K4 H2 hbt
    go_wp2_with (go_at_call 38; go_must (refine cb.mono ?_; rintro e w2 ⟨rfl, hq⟩; obtain rfl := hq.symm; clear hq))
    (try simp only [Exit.inBlock, Exit.then])
    go_ret
    exact ⟨rfl, dv, cv, HR2.out⟩
  have hbt : (decide (1 ≤ mk) && decide (mk ≤ 4)) = true := by
    rw [decide_eq_true (by omega : 1 ≤ mk), decide_eq_true (by omega : mk ≤ 4)]; rfl
  rw [hbt] at cb
  have K2' := K2 hm
  have K3' := K3 hm
  have K4' := K4 hm
  have hmk : mk = 1 ∨ mk = 2 ∨ mk = 3 ∨ mk = 4 := by omega
  clear K1 K2 K3 K4 hbt hm
  go_upto_region 6 with (go_at_call 38; go_must (refine cb.mono ?_; rintro e w2 ⟨rfl, hq⟩; obtain rfl := hq.symm; clear hq))
  clear cb k1
  have hrg := H2.rng j
  obtain ⟨x, hx⟩ : ∃ x, isAt s j = x := ⟨_, rfl⟩
  rw [hx] at hrg K3' K4'
  have HX : Hid (isAt s j = x) := hx
  have hx5 : x = 0 ∨ x = 1 ∨ x = 2 ∨ x = 3 ∨ x = 4 := by omega
  have cm := fun N : GoodW (fun W => Below w1.heap.size w1 W) => implMoveOf x mk hx5 hmk N.W
  have p2 := fun N : GoodW (fun W => Below w1.heap.size w1 W) => (H2.go N.ok).blk.cell 2
  have p3 := fun N : GoodW (fun W => Below w1.heap.size w1 W) => ((H2.go N.ok).isCell j hjl).1
  have p1 := fun N : GoodW (fun W => Below w1.heap.size w1 W) => (Blk.below HKB2.out N.ok).cell 1
  simp only [hx] at p3
  simp at p1 p2
  haveI ne : Nonempty (GoodW (fun W => Below w1.heap.size w1 W)) := ⟨⟨_, Below.refl _ _⟩⟩
  obtain ⟨mv, hmv⟩ : ∃ mv, moveV x mk = mv := ⟨_, rfl⟩
  simp only [hmv] at cm
  have HMV : Hid (moveV x mk = mv) := hmv
  clear H2 hx hrg hmv
  refine wp_region_calm (fun W => Below w1.heap.size w1 W) (by kernel_rfl) (by kernel_rfl) (Below.refl _ _).drew ?_
  repeat (go_big_quiet_step ((go_at_call 44; exact Calls.calm _ (fun _ hb => good_below (GoodW.ok _) hb) (cm _))))
  refine wpQuiet_nil ?_
  rintro W2 ⟨⟨W3, hW3⟩, hWe⟩
  have hW2 : Below w1.heap.size w1 W2 := hWe ▸ hW3
  clear hWe hW3 cm p1 p2 p3 ne
  have H3 := HR2.out.go hW2
  have HR3 : Hid (RunI S B l a cap g gp rv reps dv cv w0 W2 s) := H3
  have cov := implOver H3
  obtain ⟨ov, hov⟩ : ∃ ov, overB s = ov := ⟨_, rfl⟩
  rw [hov] at cov
  clear HR2 HKB2 hW2
  cases ov
  case true =>
    have hst : s.st ≠ 1 ∧ s.st ≠ 2 := by unfold overB at hov; simpa using hov
    obtain ⟨rfl, rfl⟩ := K2' hst
    clear K2' K3' K4' hov hst H3
    go_wp2_with (go_at_call 26; go_must (refine cov.mono ?_; rintro e w3 ⟨rfl, hq⟩; obtain rfl := hq.symm; clear hq))
    go_ret
    exact ⟨rfl, dv, cv, HR3.out⟩
  have hst : ¬ (s.st ≠ 1 ∧ s.st ≠ 2) := by unfold overB at hov; intro hh; simp [hh.1, hh.2] at hov
  have hst' : s.st = 1 ∨ s.st = 2 := by omega
  have K3 := K3' hst
  have K4 := K4' hst
  clear K2' K3' K4' hov hst
  by_cases hne : x = wantI mk
  case neg =>
    obtain ⟨rfl, rfl⟩ := K3 hne
    have hmv := HMV.out
    rw [move_fits hmk hne] at hmv
    subst hmv
    clear K3 K4 H3
    have hqn := fun w => eq_nil w
    go_wp2_with (go_at_call 26; go_must (refine cov.mono ?_; rintro e w3 ⟨rfl, hq⟩; obtain rfl := hq.symm; clear hq))
    go_ret
    exact ⟨rfl, dv, cv, HR3.out⟩
  obtain ⟨rfl, hRR⟩ := K4 (by rw [hne]; simp)
  have HRR : Hid (R = goOnS l (moveS l s j mk)) := hRR
  have hin2 : x ≠ 2 := by rw [hne]; unfold wantI; split <;> omega
  have HNO : Hid (j ∉ s.done) := H3.ok.not (by rw [HX.out]; exact hin2)
  have HOM : Hid (Ok l (moveS l s j mk)) := H3.ok.move H3.saga.tries hjl mk (by rw [HX.out]; exact hin2)
  have HMC : Hid ((moveS l s j mk).cmds.length ≤ 800000) := by have := move_cmds l s j mk; have := HC.out; show _ ≤ _; omega
  have hcm : s.cmds.length ≤ 900000 := by have := HC.out; omega
  clear K3 K4 hRR hin2 H3
  have hmv := HMV.out
  rcases hmk with rfl | rfl | rfl | rfl <;> simp only [wantI] at hne <;> simp at hne <;> subst hne <;> simp [moveV] at hmv <;> subst hmv
  case inl =>
    have cmv := implFinish HR3.out j hjl HNO.out HOM.out hcm
    have hqf := fun f w => eq_func f w
    go_upto_region 10 with (first
      | (go_at_call 26; go_must (refine cov.mono ?_; rintro e w3 ⟨rfl, hq⟩; obtain rfl := hq.symm; clear hq))
      | (go_at_call 62; go_must (refine cmv.mono ?_; rintro e w4 ⟨rfl, dv4, cv4, H4⟩)))
    have co := implGoOn H4 HMC.out
    go_wp2_with (go_at_call 40; go_must (refine co.mono ?_; rintro e w5 ⟨rfl, dv5, cv5, H5⟩))
    go_ret
    refine ⟨rfl, dv5, cv5, ?_⟩
    rw [HRR.out]; exact H5
  case inr.inl =>
    have cmv := implFail HR3.out j hjl HNO.out HOM.out hcm
    have hqf := fun f w => eq_func f w
    go_upto_region 10 with (first
      | (go_at_call 26; go_must (refine cov.mono ?_; rintro e w3 ⟨rfl, hq⟩; obtain rfl := hq.symm; clear hq))
      | (go_at_call 63; go_must (refine cmv.mono ?_; rintro e w4 ⟨rfl, dv4, cv4, H4⟩)))
    have co := implGoOn H4 HMC.out
    go_wp2_with (go_at_call 40; go_must (refine co.mono ?_; rintro e w5 ⟨rfl, dv5, cv5, H5⟩))
    go_ret
    refine ⟨rfl, dv5, cv5, ?_⟩
    rw [HRR.out]; exact H5
  case inr.inr.inl =>
    have cmv := implTake3 HR3.out j hjl HNO.out HOM.out hcm
    have hqf := fun f w => eq_func f w
    go_upto_region 10 with (first
      | (go_at_call 26; go_must (refine cov.mono ?_; rintro e w3 ⟨rfl, hq⟩; obtain rfl := hq.symm; clear hq))
      | (go_at_call 64; go_must (refine cmv.mono ?_; rintro e w4 ⟨rfl, dv4, cv4, H4⟩)))
    have co := implGoOn H4 HMC.out
    go_wp2_with (go_at_call 40; go_must (refine co.mono ?_; rintro e w5 ⟨rfl, dv5, cv5, H5⟩))
    go_ret
    refine ⟨rfl, dv5, cv5, ?_⟩
    rw [HRR.out]; exact H5
  case inr.inr.inr =>
    have cmv := implStick HR3.out j hjl HNO.out HOM.out hcm
    have hqf := fun f w => eq_func f w
    go_upto_region 10 with (first
      | (go_at_call 26; go_must (refine cov.mono ?_; rintro e w3 ⟨rfl, hq⟩; obtain rfl := hq.symm; clear hq))
      | (go_at_call 65; go_must (refine cmv.mono ?_; rintro e w4 ⟨rfl, dv4, cv4, H4⟩)))
    have co := implGoOn H4 HMC.out
    go_wp2_with (go_at_call 40; go_must (refine co.mono ?_; rintro e w5 ⟨rfl, dv5, cv5, H5⟩))
    go_ret
    refine ⟨rfl, dv5, cv5, ?_⟩
    rw [HRR.out]; exact H5
end
end Go.Proofs.YtdheogonghcokaaGreatDoor

namespace Go.Proofs.YtdheogonghcokaaGreatDoor
open Go.ChangeShapes Go.WideShapes Go.ChangeAt Go.RowKit
set_option linter.unusedVariables false
set_option linter.unusedSimpArgs false

set_option maxRecDepth 100000 in
theorem implMax2 (a b : Int) (g : Nat) (w : World) (h0 : w.cell? ⟨g, 0, none⟩ = some (.int .i64 a)) (h1 : w.cell? ⟨g, 1, none⟩ = some (.int .i64 b)) : Calls Tryz.prog 37 #[.slice (some ⟨g, 0, none⟩) 2 2] w fun e w' => (∃ m : Int, e = .returned (.int .i64 m) ∧ decide (4096 < m) = (decide (4096 < a) || decide (4096 < b))) ∧ w' = w := by
  go_enter Tryz.func37, Tryz.ntmps37
  go_wp2
  refine wp_loop_rounds 2 ?_
  rw [rounds_succ]
  go_wp2
  rw [rounds_succ]
  go_wp2
  go_ret
  refine ⟨⟨_, rfl, ?_⟩, rfl⟩
  rw [Bool.eq_iff_iff]
  simp only [decide_eq_true_eq, Bool.or_eq_true]
  omega
set_option maxRecDepth 100000 in
theorem implLong2 (a b : Int) (g : Nat) (w : World) (h0 : w.cell? ⟨g, 0, none⟩ = some (.int .i64 a)) (h1 : w.cell? ⟨g, 1, none⟩ = some (.int .i64 b)) : Calls Tryz.prog 22 #[.slice (some ⟨g, 0, none⟩) 2 2] w fun e w' => e = .returned (.bool (decide (4096 < a) || decide (4096 < b))) ∧ w' = w := by
  have cm := implMax2 a b g w h0 h1
  go_enter Tryz.func22, Tryz.ntmps22
  go_wp2_with (go_at_call 37; go_must (refine cm.mono ?_; rintro e w1 ⟨⟨m, rfl, hm⟩, rfl⟩))
  go_ret
  exact ⟨rfl, rfl⟩
theorem two_newI (w : World) (a b : Int) (g : Nat) (hg : g = w.heap.size) : (w.alloc (.cells #[.int .i64 a, .int .i64 b] 3)).cell? ⟨g, 0, none⟩ = some (.int .i64 a) ∧ (w.alloc (.cells #[.int .i64 a, .int .i64 b] 3)).cell? ⟨g, 1, none⟩ = some (.int .i64 b) := by
  subst hg
  have h : Blk (w.alloc (.cells #[.int .i64 a, .int .i64 b] 3)) w.heap.size 3 #[.int .i64 a, .int .i64 b] := heap_alloc_last w _
  exact ⟨h.cell 0, h.cell 1⟩
theorem TxtsAt.newOf (w : World) (x : ByteArray) (g : Nat) (hg : w.heap.size = g) : TxtsAt (fun b => b = g) (w.alloc (.cells #[.string x] 9)) (.slice (some ⟨g, 0, none⟩) 1 1) [x] := by
  subst hg; exact TxtsAt.new w x
section
variable {S : Nat → Prop} {B : Nat} {l : List Step} {a : Option Addr} {cap g gp : Nat} {rv : Value} {reps : List Int} {dv cv : Value} {w0 w : World} {s : Sg}
set_option maxRecDepth 100000 in
set_option maxHeartbeats 4000000 in
theorem implNames (h : RunI S B l a cap g gp rv reps dv cv w0 w s) :
    Calls Tryz.prog 30 #[.pointer (some ⟨g, 0, none⟩), dv] w fun e w' => (∃ na nn nc, e = .returned (.slice na nn nc) ∧ OwnTxts w.heap.size w' (.slice na nn nc) (s.done.map (nameAt l))) ∧ Below w.heap.size w w' := by
  have hl : l.length ≤ 20 := h.saga.len.2
  have hl' : (l.length : Int) ≤ 20 := by omega
  have hdl := done_len h.ok
  have hdl' : (s.done.length : Int) ≤ 20 := by omega
  obtain ⟨da, dc, hdv, hdc⟩ := h.done.natCells
  subst hdv
  have HR : Hid (RunI S B l a cap g gp rv reps (.slice da s.done.length dc) cv w0 w s) := h
  have HDC : Hid (0 < s.done.length → ∃ dg, da = some ⟨dg, 0, none⟩ ∧ B ≤ dg ∧ dg < w.heap.size ∧ ∀ j (hj : j < s.done.length), w.cell? ⟨dg, j, none⟩ = some (.int .i64 ((s.done[j] : Nat) : Int))) := hdc
  clear h hdc
  go_enter Tryz.func30, Tryz.ntmps30
  go_wp2_with fail
  go_loopw [5, 10] (fun i5 i10 wr => ∃ (k : Nat) (na : Option Addr) (nn nc : Nat), i10 = .int .i64 (k : Int) ∧ i5 = .slice na nn nc ∧ k ≤ s.done.length ∧ OwnTxts w.heap.size wr (.slice na nn nc) ((s.done.take k).map (nameAt l)) ∧ Below w.heap.size w wr) (fun _ i10 _ => s.done.length - (intOf i10).toNat)
  case atStart => exact ⟨0, none, 0, 0, rfl, rfl, by omega, OwnTxts.nil _ _, Below.refl _ _⟩
  case round =>
    obtain ⟨k, na, nn, nc, rfl, rfl, hk, hown, hb⟩ := hrel
    have HOW : Hid (OwnTxts w.heap.size wr (.slice na nn nc) ((s.done.take k).map (nameAt l))) := hown
    clear hown
    by_cases hkn : k < s.done.length
    · have hkn' : (k : Int) < (s.done.length : Int) := by omega
      obtain ⟨dg, rfl, hdB, hdg, hcell⟩ := HDC.out (by omega)
      have d1 := (hb.cell (p := ⟨dg, k, none⟩) hdg).trans (hcell k hkn)
      have hR := HR.out.go hb
      have hjl := (hR.ok.dk _ (List.getElem_mem hkn)).1
      obtain ⟨b, off, rfl, hbB, hst⟩ := hR.stepCell
      have e1 := (hst _ hjl).1
      have htk : (s.done.take (k + 1)).map (nameAt l) = (s.done.take k).map (nameAt l) ++ [nameAt l s.done[k]] := by rw [List.take_succ_eq_append_getElem hkn, List.map_append]; rfl
      have hzn : (stepOf l s.done[k]).name.size ≤ 1048576 := by
        have := (hR.saga.ok _ (List.getElem_mem hjl)).1
        rw [← stepOf_eq hjl] at this
        omega
      have hnn : nameAt l s.done[k] = (stepOf l s.done[k]).name := rfl
      rw [hnn] at htk
      have c0 := hR.blk.cell 0
      simp at c0
      obtain ⟨j, hj⟩ : ∃ j, s.done[k] = j := ⟨_, rfl⟩
      rw [hj] at d1 e1 htk hzn
      simp only [hj] at hjl
      obtain ⟨nm, hnm⟩ : ∃ nm, (stepOf l j).name = nm := ⟨_, rfl⟩
      rw [hnm] at e1 htk hzn
      have HTK : Hid ((s.done.take (k + 1)).map (nameAt l) = (s.done.take k).map (nameAt l) ++ [nm]) := htk
      have hjl' : (j : Int) < (l.length : Int) := by omega
      have hnl : ((s.done.take k).map (nameAt l)).length ≤ 20 := by simp; omega
      have cc := implCloneT nm hzn wr
      have HBW : Hid (Below w.heap.size w wr) := hb
      clear hcell hst htk hnm hj hR hnn hb
      go_wp2_with (first
        | (go_at_call 49; go_must (refine cc.mono ?_; rintro e w1 ⟨rfl, hb1⟩; have hb2 := good_below HBW.out hb1; have hs2 := hb2.size))
        | (at_builtin; go_must (refine wpList_appendTxts rfl (.tmp 14) (.tmp 24) rfl w.heap.size (.slice na nn nc) ((s.done.take k).map (nameAt l)) rfl (OwnTxts.below (OwnTxts.below HOW.out hb1) ((Below.refl _ w1).alloc (Nat.le_refl _) _)) _ [nm] rfl (TxtsAt.newOf _ nm _ (by simp)) (by simp at hnl ⊢; omega) (by simp only [World.size_alloc]; omega) ?_; intro v9 w9 hown9 hB9 hgr9 hnil9; obtain ⟨a9, c9, e9, -⟩ := hown9.value; obtain ⟨n9, hn9⟩ : ∃ n9, ((s.done.take k).map (nameAt l) ++ [nm]).length = n9 := ⟨_, rfl⟩; rw [hn9] at e9; clear hn9; subst e9)))
      refine ⟨⟨k + 1, a9, n9, c9, rfl, rfl, by omega, ?_, (hb2.alloc hs2 _).trans hB9⟩, by simp [intOf]; omega⟩
      rw [HTK.out]; exact hown9
    · obtain rfl : k = s.done.length := by omega
      have hkn' : ¬ ((s.done.length : Int) < (s.done.length : Int)) := by omega
      have ho := HOW.out
      rw [List.take_length] at ho
      have HO2 : Hid (OwnTxts w.heap.size wr (.slice na nn nc) (s.done.map (nameAt l))) := ho
      clear ho HOW
      go_wp2_with fail
      go_ret
      exact ⟨⟨na, nn, nc, rfl, HO2.out⟩, hb⟩
end
end Go.Proofs.YtdheogonghcokaaGreatDoor

namespace Go.Proofs.YtdheogonghcokaaGreatDoor
open Go.ChangeShapes Go.WideShapes Go.ChangeAt Go.RowKit
set_option linter.unusedVariables false
set_option linter.unusedSimpArgs false

/-- A sum over numbers below n. -/
def sumN (f : Nat → Nat) : Nat → Nat
  | 0 => 0
  | n + 1 => sumN f n + f n
theorem sumN_congr {f g : Nat → Nat} : ∀ n, (∀ i, i < n → f i = g i) → sumN f n = sumN g n
  | 0, _ => rfl
  | n + 1, h => by unfold sumN; rw [sumN_congr n (fun i hi => h i (by omega)), h n (by omega)]
theorem sumN_le {f g : Nat → Nat} : ∀ n, (∀ i, i < n → f i ≤ g i) → sumN f n ≤ sumN g n
  | 0, _ => Nat.le_refl _
  | n + 1, h => by
    unfold sumN
    have h1 := sumN_le n (fun i hi => h i (by omega))
    have h2 := h n (by omega)
    omega
theorem sumN_lt {f g : Nat → Nat} {j : Nat} (n : Nat) (hj : j < n) (h : ∀ i, i < n → f i ≤ g i) (hs : f j < g j) : sumN f n < sumN g n := by
  induction n with
  | zero => omega
  | succ n ih =>
    unfold sumN
    by_cases e : j = n
    · subst e
      have h1 := sumN_le j (fun i hi => h i (by omega))
      omega
    · have h1 := ih (by omega) (fun i hi => h i (by omega))
      have h2 := h n (by omega)
      omega
/-- What a step still has ahead of it. -/
def wt (st x t : Int) : Nat :=
  if x = 0 then (if st = 1 then 40 else 0)
  else if x = 1 then 30 + (6 - t).toNat
  else if x = 2 then 20
  else if x = 3 then 5 + (6 - t).toNat
  else 0
def wtAt (s : Sg) (i : Nat) : Nat := wt s.st (isAt s i) (trAt s i)
def phi (l : List Step) (s : Sg) : Nat := sumN (wtAt s) l.length + (if s.st = 1 ∨ s.st = 2 then 1 else 0)
theorem wt_st {st st' x t : Int} (h : st' = 1 → st = 1) : wt st' x t ≤ wt st x t := by
  unfold wt
  split
  · by_cases h1 : st' = 1
    · rw [if_pos h1, if_pos (h h1)]; exact Nat.le_refl _
    · rw [if_neg h1]; exact Nat.zero_le _
  · exact Nat.le_refl _
/-- One step's cells turn, the saga's state may leave 1. -/
theorem phi_turn {l : List Step} {s s' : Sg} {j : Nat} (hj : j < l.length) (hst : s'.st = 1 → s.st = 1) (hother : ∀ i, i ≠ j → isAt s' i = isAt s i ∧ trAt s' i = trAt s i) (hlt : wtAt s' j < wtAt s j) : sumN (wtAt s') l.length < sumN (wtAt s) l.length := by
  refine sumN_lt l.length hj (fun i hi => ?_) hlt
  by_cases e : i = j
  · subst e; exact Nat.le_of_lt hlt
  · obtain ⟨h1, h2⟩ := hother i e
    unfold wtAt
    rw [h1, h2]
    exact wt_st hst
theorem phi_same {l : List Step} {s s' : Sg} (hst : s'.st = 1 → s.st = 1) (hi : s'.is = s.is) (ht : s'.tr = s.tr) : sumN (wtAt s') l.length ≤ sumN (wtAt s) l.length :=
  sumN_le l.length (fun i _ => by
    unfold wtAt isAt trAt
    rw [hi, ht]
    exact wt_st hst)
theorem beg_at {l : List Step} {s : Sg} (h : Ok l s) {j : Nat} (hj : j < l.length) (x kind : Int) (i : Nat) : isAt (beg l s x kind j) i = (if i = j then x else isAt s i) ∧ trAt (beg l s x kind j) i = (if i = j then 1 else trAt s i) := by
  have h1 := isAt_set (s := s) (by rw [h.il]; exact hj) x i
  have h2 := trAt_set (s := setIs s j x) (i := j) (by show j < s.tr.length; rw [h.tl]; exact hj) 1 i
  exact ⟨h1, h2⟩
theorem ask_phi {l : List Step} {s : Sg} (h : Ok l s) (h1 : s.st = 1) {k : Nat} (hk : k < l.length) : sumN (wtAt (ask l s k)) l.length ≤ sumN (wtAt s) l.length := by
  unfold ask
  split
  · rename_i ha
    have hidle : isAt s k = 0 := by
      unfold askB at ha
      rw [Bool.and_eq_true] at ha
      exact of_decide_eq_true ha.2
    refine Nat.le_of_lt (phi_turn hk (fun _ => h1) (fun i hi => ?_) ?_)
    · have := beg_at h hk 1 1 i
      rw [if_neg hi, if_neg hi] at this
      exact this
    · have := beg_at h hk 1 1 k
      rw [if_pos rfl, if_pos rfl] at this
      unfold wtAt
      rw [this.1, this.2, hidle, h1]
      simp [wt]
  · exact Nat.le_refl _
theorem asks_phi {l : List Step} {s : Sg} (h : Ok l s) (h1 : s.st = 1) : ∀ k, k ≤ l.length → sumN (wtAt (asks l s k)) l.length ≤ sumN (wtAt s) l.length
  | 0, _ => by rw [asks_zero]; exact Nat.le_refl _
  | k + 1, hk => by
    rw [asks_succ]
    have h2 := ask_phi (h.asks k (by omega)) (by rw [asks_st]; exact h1) (k := k) (by omega)
    have h3 := asks_phi h h1 k (by omega)
    omega
theorem undo_phi {l : List Step} {s : Sg} (h : Ok l s) (h0 : 0 < s.done.length) : sumN (wtAt (undoS l s (lastOf s))) l.length < sumN (wtAt s) l.length := by
  have hin := h.dk _ (last_in h0)
  unfold undoS
  split
  · refine phi_turn hin.1 (fun h => h) (fun i hi => ?_) ?_
    · have := beg_at h.drop hin.1 3 2 i
      rw [if_neg hi, if_neg hi] at this
      exact this
    · have := beg_at h.drop hin.1 3 2 (lastOf s)
      rw [if_pos rfl, if_pos rfl] at this
      unfold wtAt
      rw [this.1, this.2, hin.2]
      simp [wt]
  · refine phi_turn hin.1 (fun h => h) (fun i hi => ?_) ?_
    · have := isAt_set (s := { s with done := s.done.dropLast }) (i := lastOf s) (by show _ < s.is.length; rw [h.il]; exact hin.1) 4 i
      rw [if_neg hi] at this
      exact ⟨this, rfl⟩
    · have := isAt_set (s := { s with done := s.done.dropLast }) (i := lastOf s) (by show _ < s.is.length; rw [h.il]; exact hin.1) 4 (lastOf s)
      rw [if_pos rfl] at this
      unfold wtAt
      rw [this, hin.2]
      simp [wt]
theorem back_phi {l : List Step} : ∀ (m : Nat) {s : Sg}, Ok l s → m = s.done.length → sumN (wtAt (back l m s)) l.length ≤ sumN (wtAt s) l.length
  | 0, s, h, hm => by
    unfold back
    split
    · exact Nat.le_refl _
    · exact phi_same (fun h => by simp [setSt] at h) rfl rfl
  | m + 1, s, h, hm => by
    unfold back
    split
    · exact Nat.le_refl _
    · have h1 := undo_phi h (by omega)
      have h2 := back_phi m (h.undo (by omega)) (by rw [undo_len, List.length_dropLast]; omega)
      omega
theorem goOn_phi {l : List Step} {s : Sg} (h : Ok l s) : sumN (wtAt (goOnS l s)) l.length ≤ sumN (wtAt s) l.length := by
  unfold goOnS
  by_cases h1 : s.st = 1
  · rw [if_pos h1]
    unfold fwd
    have h2 := asks_phi h h1 l.length (Nat.le_refl _)
    split
    · have h3 := phi_same (l := l) (s := asks l s l.length) (s' := setSt (asks l s l.length) 3) (fun h => by simp [setSt] at h) rfl rfl
      omega
    · exact h2
  · rw [if_neg h1]
    split
    · exact back_phi _ h rfl
    · exact Nat.le_refl _
theorem move_phi {l : List Step} {s : Sg} (h : Ok l s) (ht : ∀ i (hi : i < l.length), l[i].tries ≤ 5) (hst : s.st = 1 ∨ s.st = 2) {k : Nat} (hk : k < l.length) {kind : Int} (h1 : kind = 1 ∨ kind = 2 ∨ kind = 3 ∨ kind = 4) (hw : isAt s k = wantI kind) :
    sumN (wtAt (moveS l s k kind)) l.length < sumN (wtAt s) l.length ∨ (sumN (wtAt (moveS l s k kind)) l.length ≤ sumN (wtAt s) l.length ∧ (moveS l s k kind).st = 5) := by
  have hki : k < s.is.length := by rw [h.il]; exact hk
  have hkt : k < s.tr.length := by rw [h.tl]; exact hk
  have tb := h.tb k
  have set_lt : ∀ (x : Int), wt s.st x (trAt s k) < wt s.st (isAt s k) (trAt s k) → sumN (wtAt (setIs s k x)) l.length < sumN (wtAt s) l.length := fun x hx => by
    refine phi_turn hk (fun h => h) (fun i hi => ?_) ?_
    · have := isAt_set hki x i
      rw [if_neg hi] at this
      exact ⟨this, rfl⟩
    · have := isAt_set hki x k
      rw [if_pos rfl] at this
      unfold wtAt
      rw [this]
      exact hx
  have again_lt : ∀ (kd : Int), moreB l s k = true → (isAt s k = 1 ∨ isAt s k = 3) → sumN (wtAt (again l s kd k)) l.length < sumN (wtAt s) l.length := fun kd hm hx => by
    unfold moreB at hm
    have hm := of_decide_eq_true hm
    rw [stepOf_eq hk] at hm
    have h5 := ht k hk
    refine phi_turn hk (fun h => h) (fun i hi => ?_) ?_
    · have := trAt_set hkt (trAt s k + 1) i
      rw [if_neg hi] at this
      exact ⟨rfl, this⟩
    · have := trAt_set hkt (trAt s k + 1) k
      rw [if_pos rfl] at this
      show wt s.st (isAt s k) (trAt (setTr s k (trAt s k + 1)) k) < wt s.st (isAt s k) (trAt s k)
      rw [this]
      rcases hx with e | e <;> rw [e] <;> simp [wt] <;> omega
  rcases h1 with rfl | rfl | rfl | rfl
  · left
    have hw : isAt s k = 1 := hw
    rw [move_one]
    exact set_lt 2 (by rw [hw]; simp [wt]; omega)
  · left
    have hw : isAt s k = 1 := hw
    by_cases hb : s.st = 1 ∧ moreB l s k = true
    · rw [move_two_a hb.1 hb.2]
      exact again_lt 1 hb.2 (.inl hw)
    · rw [move_two_b hb]
      refine phi_turn hk (fun h => by simp [setSt] at h) (fun i hi => ?_) ?_
      · have := isAt_set hki 0 i
        rw [if_neg hi] at this
        exact ⟨this, rfl⟩
      · have := isAt_set hki 0 k
        rw [if_pos rfl] at this
        show wt 2 (isAt (setIs s k 0) k) (trAt s k) < wt s.st (isAt s k) (trAt s k)
        rw [this, hw]
        simp [wt]
        omega
  · left
    have hw : isAt s k = 3 := hw
    rw [move_three]
    exact set_lt 4 (by rw [hw]; simp [wt]; omega)
  · have hw : isAt s k = 3 := hw
    cases hm : moreB l s k
    · right
      rw [move_four_b hm]
      exact ⟨phi_same (fun h => by simp [setSt] at h) rfl rfl, rfl⟩
    · left
      rw [move_four_a hm]
      exact again_lt 2 hm (.inr hw)
theorem hear_phi {l : List Step} {s : Sg} (h : Ok l s) (ht : ∀ i (hi : i < l.length), l[i].tries ≤ 5) (hst : s.st = 1 ∨ s.st = 2) (m : Msg) (h0 : ¬ findI (names l) m.step < 0) (h1 : m.kind = 1 ∨ m.kind = 2 ∨ m.kind = 3 ∨ m.kind = 4) (hw : isAt s (numOf l m.step) = wantI m.kind) : phi l (hearS l s m) < phi l s := by
  have hk := (find_lt (Int.not_lt.1 h0)).1
  have hw2 : isAt s (numOf l m.step) ≠ 2 := by rw [hw]; unfold wantI; split <;> omega
  obtain ⟨_, e⟩ := code_fits (l := l) (s := s) (m := m) h0 (by omega) (by omega) (by rw [hw]; simp)
  rw [e]
  have hok := h.move ht hk m.kind hw2
  have hg := goOn_phi hok
  have hm := move_phi h ht hst hk h1 hw
  unfold phi
  rw [if_pos hst]
  rcases hm with hm | ⟨hm, h5⟩
  · split <;> omega
  · have hgo : goOnS l (moveS l s (numOf l m.step) m.kind) = moveS l s (numOf l m.step) m.kind := by unfold goOnS; rw [if_neg (by omega), if_neg (by omega)]
    rw [hgo, if_neg (by omega)]
    omega
end Go.Proofs.YtdheogonghcokaaGreatDoor

namespace Go.Proofs.YtdheogonghcokaaGreatDoor
open Go.ChangeShapes Go.WideShapes Go.ChangeAt Go.RowKit
set_option linter.unusedVariables false
set_option linter.unusedSimpArgs false

/-- What holds besides. -/
structure Ok2 (l : List Step) (s : Sg) : Prop where
  fw : s.st = 1 → ∀ i, isAt s i = 0 ∨ isAt s i = 1 ∨ isAt s i = 2
  kd : ∀ k, k < l.length → isAt s k = 2 → k ∈ s.done
/-- What a step needs stands ahead of it. -/
def Ahead (l : List Step) : Prop := ∀ i, i < l.length → ∀ t ∈ (stepOf l i).needs, numOf l t < i
theorem Ok2.same {l : List Step} {s s' : Sg} (h : Ok2 l s) (h1 : s'.st = 1 → s.st = 1) (h2 : s'.is = s.is) (h3 : s'.done = s.done) : Ok2 l s' :=
  ⟨fun e i => by unfold isAt; rw [h2]; exact h.fw (h1 e) i, fun k hk e => by rw [h3]; unfold isAt at e; rw [h2] at e; exact h.kd k hk e⟩
theorem Ok2.setIs {l : List Step} {s : Sg} (h : Ok2 l s) {j : Nat} (hj : j < s.is.length) {x : Int} (hx : x ≠ 2) (hf : s.st = 1 → x = 0 ∨ x = 1) : Ok2 l (setIs s j x) := by
  refine ⟨fun e i => ?_, fun k hk e => ?_⟩
  · rw [isAt_set hj]
    split
    · rcases hf e with h1 | h1
      · exact .inl h1
      · exact .inr (.inl h1)
    · exact h.fw e i
  · rw [isAt_set hj] at e
    split at e
    · exact absurd e hx
    · exact h.kd k hk e
theorem Ok2.setTr {l : List Step} {s : Sg} (h : Ok2 l s) (j : Nat) (x : Int) : Ok2 l (setTr s j x) := h.same (fun e => e) rfl rfl
theorem Ok2.cmd {l : List Step} {s : Sg} (h : Ok2 l s) (kind : Int) (j : Nat) : Ok2 l (cmdS l s kind j) := h.same (fun e => e) rfl rfl
theorem Ok2.beg {l : List Step} {s : Sg} (h : Ok2 l s) {j : Nat} (hj : j < s.is.length) {x : Int} (hx : x ≠ 2) (hf : s.st = 1 → x = 0 ∨ x = 1) (kind : Int) : Ok2 l (beg l s x kind j) := ((h.setIs hj hx hf).setTr j 1).cmd kind j
theorem Ok2.ask {l : List Step} {s : Sg} (h : Ok2 l s) (ho : Ok l s) {k : Nat} (hk : k < l.length) : Ok2 l (ask l s k) := by
  unfold Go.Proofs.YtdheogonghcokaaGreatDoor.ask
  split
  · exact h.beg (by rw [ho.il]; exact hk) (by omega) (fun _ => .inr rfl) 1
  · exact h
theorem Ok2.asks {l : List Step} {s : Sg} (h : Ok2 l s) (ho : Ok l s) : ∀ k, k ≤ l.length → Ok2 l (asks l s k)
  | 0, _ => h
  | k + 1, hk => by rw [asks_succ]; exact (h.asks ho k (by omega)).ask (ho.asks k (by omega)) (by omega)
theorem ask_is {l : List Step} {s : Sg} (ho : Ok l s) {k : Nat} (hk : k < l.length) (i : Nat) : isAt (ask l s k) i = if i = k ∧ askB l s k = true then 1 else isAt s i := by
  unfold ask
  cases ha : askB l s k
  · rw [if_neg (by simp), if_neg (by simp)]
  · rw [if_pos rfl]
    have := (beg_at ho hk 1 1 i).1
    rw [this]
    by_cases e : i = k
    · rw [if_pos e, if_pos ⟨e, rfl⟩]
    · rw [if_neg e, if_neg (fun h => e h.1)]
theorem ask_two {l : List Step} {s : Sg} (ho : Ok l s) {k : Nat} (hk : k < l.length) (i : Nat) : isAt (ask l s k) i = 2 ↔ isAt s i = 2 := by
  rw [ask_is ho hk]
  by_cases e : i = k ∧ askB l s k = true
  · rw [if_pos e]
    have h0 : isAt s i = 0 := by
      rw [e.1]
      have := e.2
      unfold askB at this
      rw [Bool.and_eq_true] at this
      exact of_decide_eq_true this.2
    rw [h0]
    constructor <;> intro h <;> omega
  · rw [if_neg e]
theorem asks_two {l : List Step} {s : Sg} (ho : Ok l s) : ∀ k, k ≤ l.length → ∀ i, isAt (asks l s k) i = 2 ↔ isAt s i = 2
  | 0, _, i => Iff.rfl
  | k + 1, hk, i => by rw [asks_succ, ask_two (ho.asks k (by omega)) (by omega)]; exact asks_two ho k (by omega) i
theorem asks_one {l : List Step} {s : Sg} (ho : Ok l s) {i : Nat} : ∀ k, k ≤ l.length → isAt s i = 1 → isAt (asks l s k) i = 1
  | 0, _, h => h
  | k + 1, hk, h => by
    rw [asks_succ, ask_is (ho.asks k (by omega)) (by omega)]
    split
    · rfl
    · exact asks_one ho k (by omega) h
theorem asks_ahead {l : List Step} {s : Sg} (ho : Ok l s) {i : Nat} : ∀ k, k ≤ i → k ≤ l.length → isAt (asks l s k) i = isAt s i
  | 0, _, _ => rfl
  | k + 1, hk, hl => by
    rw [asks_succ, ask_is (ho.asks k (by omega)) (by omega), if_neg (fun h => by omega)]
    exact asks_ahead ho k (by omega) (by omega)
theorem asks_keep {l : List Step} {s : Sg} (ho : Ok l s) {i m : Nat} : ∀ k, m ≤ k → k ≤ l.length → isAt (asks l s m) i = 1 → isAt (asks l s k) i = 1
  | 0, hm, _, h => by
    obtain rfl : m = 0 := by omega
    exact h
  | k + 1, hm, hk, h => by
    by_cases e : m = k + 1
    · subst e; exact h
    · rw [asks_succ, ask_is (ho.asks k (by omega)) (by omega)]
      split
      · rfl
      · exact asks_keep ho k (by omega) (by omega) h
theorem least_not {n : Nat} {p : Nat → Prop} (h : ∃ i, i < n ∧ ¬ p i) : ∃ i, i < n ∧ ¬ p i ∧ ∀ j, j < i → p j := by
  obtain ⟨i, hi, hp⟩ := h
  induction i using Nat.strongRecOn with
  | ind i ih =>
    by_cases hq : ∃ j, j < i ∧ ¬ p j
    · obtain ⟨j, hj, hpj⟩ := hq
      exact ih j hj (by omega) hpj
    · exact ⟨i, hi, hp, fun j hj => Classical.byContradiction fun hn => hq ⟨j, hj, hn⟩⟩
theorem fwd_busy {l : List Step} {s : Sg} (ho : Ok l s) (h2 : Ok2 l s) (ha : Ahead l) (h1 : s.st = 1) (hd : s.done.length ≠ l.length) : ∃ i, i < l.length ∧ isAt (asks l s l.length) i = 1 := by
  have hex : ∃ i, i < l.length ∧ ¬ isAt s i = 2 := Classical.byContradiction fun hn => by
    have hall : ∀ k ∈ List.range l.length, k ∈ s.done := fun k hk => h2.kd k (List.mem_range.1 hk) (Classical.byContradiction fun hk2 => hn ⟨k, List.mem_range.1 hk, hk2⟩)
    have := pigeonN (List.range l.length) s.done List.nodup_range hall
    rw [List.length_range] at this
    have := done_len ho
    omega
  obtain ⟨i, hi, hne, hlt⟩ := least_not hex
  refine ⟨i, hi, ?_⟩
  rcases h2.fw h1 i with h0 | h0 | h0
  · have hat : isAt (asks l s i) i = 0 := by rw [asks_ahead ho i (Nat.le_refl _) (by omega)]; exact h0
    have hask : askB l (asks l s i) i = true := by
      unfold askB readyB
      rw [Bool.and_eq_true, List.all_eq_true]
      refine ⟨fun t ht => decide_eq_true ?_, decide_eq_true hat⟩
      have hn := ha i hi t ht
      exact (asks_two ho i (by omega) _).2 (hlt _ hn)
    have : isAt (asks l s (i + 1)) i = 1 := by rw [asks_succ, ask_is (ho.asks i (by omega)) hi, if_pos ⟨rfl, hask⟩]
    exact asks_keep ho l.length (by omega) (Nat.le_refl _) this
  · exact asks_one ho l.length (Nat.le_refl _) h0
  · exact absurd h0 hne
theorem busy_of {s : Sg} {i : Nat} (hi : i < s.is.length) (h : isAt s i = 1 ∨ isAt s i = 3) : busy s = true := by
  unfold busy anyB
  rw [Bool.or_eq_true, List.any_eq_true, List.any_eq_true]
  rw [isAt_eq hi] at h
  rcases h with h | h
  · exact .inl ⟨_, List.getElem_mem hi, decide_eq_true h⟩
  · exact .inr ⟨_, List.getElem_mem hi, decide_eq_true h⟩
theorem back_ends {l : List Step} : ∀ (m : Nat) (s : Sg), (back l m s).st = 4 ∨ busy (back l m s) = true
  | 0, s => by
    unfold back
    split
    · rename_i h; exact .inr h
    · exact .inl rfl
  | m + 1, s => by
    unfold back
    split
    · rename_i h; exact .inr h
    · exact back_ends m _
/-- Behind goOn a saga that is not over is busy. -/
theorem goOn_busy {l : List Step} {s : Sg} (ho : Ok l s) (h2 : Ok2 l s) (ha : Ahead l) (h : (goOnS l s).st = 1 ∨ (goOnS l s).st = 2) : busy (goOnS l s) = true := by
  unfold goOnS at h ⊢
  by_cases h1 : s.st = 1
  · rw [if_pos h1] at h ⊢
    unfold fwd at h ⊢
    by_cases hd : (asks l s l.length).done.length = l.length
    · rw [if_pos hd] at h
      simp [setSt] at h
    · rw [if_neg hd] at h ⊢
      rw [asks_done] at hd
      obtain ⟨i, hi, hi1⟩ := fwd_busy ho h2 ha h1 hd
      exact busy_of (by rw [(ho.asks l.length (Nat.le_refl _)).il]; exact hi) (.inl hi1)
  · rw [if_neg h1] at h ⊢
    by_cases h3 : s.st = 2
    · rw [if_pos h3] at h ⊢
      rcases back_ends s.done.length s with e | e
      · rw [e] at h; omega
      · exact e
    · rw [if_neg h3] at h
      omega
theorem Ok2.undo {l : List Step} {s : Sg} (h : Ok2 l s) (ho : Ok l s) (h0 : 0 < s.done.length) (hst : s.st ≠ 1) : Ok2 l (undoS l s (lastOf s)) := by
  have hin := (ho.dk _ (last_in h0)).1
  have hil : lastOf s < s.is.length := by rw [ho.il]; exact hin
  have key : ∀ (x : Int), x ≠ 2 → Ok2 l (Go.Proofs.YtdheogonghcokaaGreatDoor.setIs { s with done := s.done.dropLast } (lastOf s) x) := fun x hx => by
    refine ⟨fun e => absurd e hst, fun k hk e => ?_⟩
    have h1 := isAt_set (s := { s with done := s.done.dropLast }) (i := lastOf s) hil x k
    rw [h1] at e
    split at e
    · exact absurd e hx
    · rename_i hne
      have hm := h.kd k hk e
      rw [last_split h0] at hm
      rcases List.mem_append.1 hm with hm | hm
      · exact hm
      · simp at hm; exact absurd hm hne
  unfold undoS
  split
  · exact ((key 3 (by omega)).setTr _ 1).cmd 2 _
  · exact key 4 (by omega)
theorem Ok2.back {l : List Step} : ∀ (m : Nat) {s : Sg}, Ok2 l s → Ok l s → m = s.done.length → s.st ≠ 1 → Ok2 l (back l m s)
  | 0, s, h, ho, hm, hst => by
    unfold Go.Proofs.YtdheogonghcokaaGreatDoor.back
    split
    · exact h
    · exact h.same (fun e => by simp [setSt] at e) rfl rfl
  | m + 1, s, h, ho, hm, hst => by
    unfold Go.Proofs.YtdheogonghcokaaGreatDoor.back
    split
    · exact h
    · exact Ok2.back m (h.undo ho (by omega) hst) (ho.undo (by omega)) (by rw [undo_len, List.length_dropLast]; omega) (by rw [undo_st]; exact hst)
theorem Ok2.goOn {l : List Step} {s : Sg} (h : Ok2 l s) (ho : Ok l s) : Ok2 l (goOnS l s) := by
  unfold goOnS
  split
  · unfold fwd
    have h1 := h.asks ho l.length (Nat.le_refl _)
    split
    · exact h1.same (fun e => by simp [setSt] at e) rfl rfl
    · exact h1
  · split
    · exact h.back _ ho rfl (by omega)
    · exact h
theorem Ok2.move {l : List Step} {s : Sg} (h : Ok2 l s) (ho : Ok l s) {k : Nat} (hk : k < l.length) {kind : Int} (h1 : kind = 1 ∨ kind = 2 ∨ kind = 3 ∨ kind = 4) (hw : isAt s k = wantI kind) : Ok2 l (moveS l s k kind) := by
  have hki : k < s.is.length := by rw [ho.il]; exact hk
  rcases h1 with rfl | rfl | rfl | rfl
  · rw [move_one]
    refine ⟨fun e i => ?_, fun j hj e => ?_⟩
    · show isAt (Go.Proofs.YtdheogonghcokaaGreatDoor.setIs s k 2) i = 0 ∨ isAt (Go.Proofs.YtdheogonghcokaaGreatDoor.setIs s k 2) i = 1 ∨ isAt (Go.Proofs.YtdheogonghcokaaGreatDoor.setIs s k 2) i = 2
      rw [isAt_set hki]
      split
      · exact .inr (.inr rfl)
      · exact h.fw e i
    · have e : isAt (Go.Proofs.YtdheogonghcokaaGreatDoor.setIs s k 2) j = 2 := e
      rw [isAt_set hki] at e
      show j ∈ s.done ++ [k]
      split at e
      · rename_i hjk; subst hjk; simp
      · exact List.mem_append.2 (.inl (h.kd j hj e))
  · by_cases hb : s.st = 1 ∧ moreB l s k = true
    · rw [move_two_a hb.1 hb.2]
      exact (h.setTr k _).cmd 1 k
    · rw [move_two_b hb]
      have h2 := h.setIs hki (x := 0) (by omega) (fun _ => .inl rfl)
      exact h2.same (fun e => by simp [setSt] at e) rfl rfl
  · rw [move_three]
    have hw : isAt s k = 3 := hw
    refine h.setIs hki (by omega) (fun e => ?_)
    have := h.fw e k
    omega
  · cases hm : moreB l s k
    · rw [move_four_b hm]
      exact h.same (fun e => by simp [setSt] at e) rfl rfl
    · rw [move_four_a hm]
      exact (h.setTr k _).cmd 2 k
theorem Ok2.zero (l : List Step) : Ok2 l (zeroS l) := by
  have hz : ∀ i, isAt (zeroS l) i = 0 := fun i => by
    unfold isAt zeroS
    dsimp only
    rw [List.getElem?_replicate]
    split <;> rfl
  exact ⟨fun _ i => .inl (hz i), fun k _ e => by rw [hz] at e; omega⟩
theorem Ok2.begin (l : List Step) : Ok2 l (beginS l) := by
  have h := (Ok2.zero l).goOn (Ok.zero l)
  have e : goOnS l (zeroS l) = beginS l := by unfold goOnS beginS; rw [if_pos (show (zeroS l).st = 1 from rfl)]
  rw [e] at h
  exact h
theorem ahead_of {l : List Step} (hb : sagaB l = true) : Ahead l := by
  intro i hi t ht
  have hat : StepAt l i hi := Classical.byContradiction fun hn => by rw [sagaB_not i hi hn] at hb; simp at hb
  rw [stepOf_eq hi] at ht
  obtain ⟨k, hk, rfl⟩ := List.getElem_of_mem ht
  have h1 := (hat.2 k hk).1
  rw [← findI_has] at h1
  have h1 := of_decide_eq_true h1
  -- the first one of that name stands ahead
  have hlt := (findI_ge (ahead l i) l[i].needs[k]).2
  rw [ahead_len (by omega)] at hlt
  have key : ∀ (a b : List ByteArray) (x : ByteArray), 0 ≤ findI a x → findI (a ++ b) x = findI a x := fun a b x => by
    induction a with
    | nil => intro h; simp [findI] at h
    | cons y a ih =>
      intro h
      simp only [findI, List.cons_append] at h ⊢
      by_cases e : (y.toList == x.toList) = true
      · simp [e]
      · simp only [e] at h ⊢
        have hr := ih (by have := (findI_ge a x).1; simp at h ⊢; omega)
        simp [hr]
  have hn : names l = ahead l i ++ (l.drop i).map Step.name := by unfold names ahead; rw [← List.map_append, List.take_append_drop]
  unfold numOf
  rw [hn, key _ _ _ h1]
  omega
end Go.Proofs.YtdheogonghcokaaGreatDoor

namespace Go.Proofs.YtdheogonghcokaaGreatDoor
open Go.ChangeShapes Go.WideShapes Go.ChangeAt Go.RowKit
set_option linter.unusedVariables false
set_option linter.unusedSimpArgs false

def isBusy (x : Int) : Bool := decide (x = 1) || decide (x = 3)
/-- The first step that is asked or undoing. -/
def firstB (s : Sg) : Nat := s.is.findIdx isBusy
/-- Its answer. -/
def ansM (l : List Step) (s : Sg) (f u : List ByteArray) (k : Nat) : Msg :=
  ⟨nameAt l k, if isAt s k = 3 then (if hasB u (nameAt l k) then 4 else 3) else (if hasB f (nameAt l k) then 2 else 1)⟩
def stepE (l : List Step) (f u : List ByteArray) (s : Sg) : Sg := hearS l s (ansM l s f u (firstB s))
def overP (s : Sg) : Prop := s.st ≠ 1 ∧ s.st ≠ 2
instance (s : Sg) : Decidable (overP s) := by unfold overP; infer_instance
def endsN (l : List Step) (f u : List ByteArray) : Nat → Sg → Sg
  | 0, s => s
  | n + 1, s => if overP s then s else endsN l f u n (stepE l f u s)
/-- What is kept on the way. -/
structure Way (l : List Step) (s : Sg) : Prop where
  ok : Ok l s
  ok2 : Ok2 l s
  bz : s.st = 1 ∨ s.st = 2 → busy s = true
theorem first_lt {s : Sg} (h : busy s = true) : firstB s < s.is.length ∧ (isAt s (firstB s) = 1 ∨ isAt s (firstB s) = 3) := by
  have hex : ∃ x ∈ s.is, isBusy x = true := by
    unfold busy anyB at h
    rw [Bool.or_eq_true, List.any_eq_true, List.any_eq_true] at h
    rcases h with ⟨x, hx, h⟩ | ⟨x, hx, h⟩
    · exact ⟨x, hx, by unfold isBusy; rw [h]; rfl⟩
    · exact ⟨x, hx, by unfold isBusy; rw [h, Bool.or_true]⟩
  have hlt : firstB s < s.is.length := List.findIdx_lt_length_of_exists hex
  refine ⟨hlt, ?_⟩
  have hb : isBusy s.is[firstB s] = true := List.findIdx_getElem (w := hlt)
  rw [isAt_eq hlt]
  unfold isBusy at hb
  simpa using hb
theorem name_find {l : List Step} (hb : sagaB l = true) {k : Nat} (hk : k < l.length) : findI (names l) (nameAt l k) = (k : Int) := by
  have hn : nameAt l k = l[k].name := by unfold nameAt; rw [stepOf_eq hk]
  have hkn : k < (names l).length := by rw [names_len]; exact hk
  refine findI_at hkn (fun i hi hlt => ?_) ?_
  · have hat : StepAt l k hk := Classical.byContradiction fun hn => by rw [sagaB_not k hk hn] at hb; simp at hb
    have h1 := hat.1
    unfold stepB0 at h1
    simp only [Bool.and_eq_true] at h1
    have h2 : hasB (ahead l k) l[k].name = false := by have := h1.1.1.1.2; simpa using this
    rw [hn]
    cases he : ((names l)[i].toList == l[k].name.toList)
    · rfl
    · exfalso
      have : hasB (ahead l k) l[k].name = true := by
        unfold hasB
        rw [List.any_eq_true]
        refine ⟨(names l)[i], ?_, he⟩
        have hil : i < l.length := by rw [names_len] at hi; exact hi
        have hni : (names l)[i] = l[i].name := by simp [names]
        rw [hni]
        unfold ahead
        exact List.mem_map_of_mem (List.mem_take_iff_getElem.2 ⟨i, by omega, rfl⟩)
      rw [h2] at this
      cases this
  · rw [hn]
    simp [names]
theorem Way.step {l : List Step} {s : Sg} (h : Way l s) (hb : sagaB l = true) (ht : ∀ i (hi : i < l.length), l[i].tries ≤ 5) (f u : List ByteArray) (ho : ¬ overP s) : Way l (stepE l f u s) ∧ phi l (stepE l f u s) < phi l s ∧ codeS l s (ansM l s f u (firstB s)) = 0 := by
  have hst : s.st = 1 ∨ s.st = 2 := by unfold overP at ho; omega
  obtain ⟨hlt, hbz⟩ := first_lt (h.bz hst)
  rw [h.ok.il] at hlt
  have hf := name_find hb hlt
  have hstep : (ansM l s f u (firstB s)).step = nameAt l (firstB s) := rfl
  have h0 : ¬ findI (names l) (ansM l s f u (firstB s)).step < 0 := by rw [hstep, hf]; omega
  have hnum : numOf l (ansM l s f u (firstB s)).step = firstB s := by unfold numOf; rw [hstep, hf]; omega
  have hkw : ((ansM l s f u (firstB s)).kind = 1 ∨ (ansM l s f u (firstB s)).kind = 2 ∨ (ansM l s f u (firstB s)).kind = 3 ∨ (ansM l s f u (firstB s)).kind = 4) ∧ isAt s (firstB s) = wantI (ansM l s f u (firstB s)).kind := by
    unfold ansM
    dsimp only
    rcases hbz with e | e
    · rw [if_neg (by omega)]
      split
      · exact ⟨by omega, e⟩
      · exact ⟨by omega, e⟩
    · rw [if_pos e]
      split
      · exact ⟨by omega, e⟩
      · exact ⟨by omega, e⟩
  have hw : isAt s (numOf l (ansM l s f u (firstB s)).step) = wantI (ansM l s f u (firstB s)).kind := by rw [hnum]; exact hkw.2
  have hph := hear_phi h.ok ht hst (ansM l s f u (firstB s)) h0 hkw.1 hw
  obtain ⟨hc, he⟩ := code_fits (l := l) (s := s) (m := ansM l s f u (firstB s)) h0 (by omega) (by omega) (by rw [hw]; simp)
  have hw2 : isAt s (numOf l (ansM l s f u (firstB s)).step) ≠ 2 := by rw [hw]; unfold wantI; split <;> omega
  rw [hnum] at hw hw2
  have hmo := h.ok.move ht hlt (ansM l s f u (firstB s)).kind hw2
  have hm2 := h.ok2.move h.ok hlt hkw.1 hw
  rw [hnum] at he
  refine ⟨?_, hph, hc⟩
  unfold stepE
  rw [he]
  exact ⟨hmo.goOn, hm2.goOn hmo, goOn_busy hmo hm2 (ahead_of hb)⟩
theorem Way.begin {l : List Step} (hb : sagaB l = true) : Way l (beginS l) := by
  have e : goOnS l (zeroS l) = beginS l := by unfold goOnS beginS; rw [if_pos (show (zeroS l).st = 1 from rfl)]
  refine ⟨Ok.begin l, Ok2.begin l, fun h => ?_⟩
  rw [← e] at h ⊢
  exact goOn_busy (Ok.zero l) (Ok2.zero l) (ahead_of hb) h
theorem endsN_over {l : List Step} (hb : sagaB l = true) (ht : ∀ i (hi : i < l.length), l[i].tries ≤ 5) (f u : List ByteArray) : ∀ (n : Nat) {s : Sg}, Way l s → phi l s ≤ n → overP (endsN l f u n s) ∧ Way l (endsN l f u n s)
  | 0, s, h, hn => by
    refine ⟨Classical.byContradiction fun ho => ?_, h⟩
    have := (h.step hb ht f u ho).2.1
    omega
  | n + 1, s, h, hn => by
    unfold endsN
    by_cases ho : overP s
    · rw [if_pos ho]; exact ⟨ho, h⟩
    · rw [if_neg ho]
      obtain ⟨h1, h2, _⟩ := h.step hb ht f u ho
      exact endsN_over hb ht f u n h1 (by omega)
end Go.Proofs.YtdheogonghcokaaGreatDoor

namespace Go.Proofs.YtdheogonghcokaaGreatDoor
open Go.ChangeShapes Go.WideShapes Go.ChangeAt Go.RowKit
set_option linter.unusedVariables false
set_option linter.unusedSimpArgs false

def doneF (l : List Step) (s : Sg) : List Nat := (List.range l.length).filter (fun i => decide (isAt s i = 2))
theorem done_perm {l : List Step} {s : Sg} (h : Ok l s) (h2 : Ok2 l s) : s.done.Perm (doneF l s) := by
  unfold doneF
  rw [List.perm_ext_iff_of_nodup h.dn (List.nodup_range.sublist List.filter_sublist)]
  intro a
  rw [List.mem_filter, List.mem_range]
  constructor
  · intro ha
    exact ⟨(h.dk a ha).1, decide_eq_true (h.dk a ha).2⟩
  · rintro ⟨h1, h3⟩
    exact h2.kd a h1 (of_decide_eq_true h3)
theorem nums_perm {a b : List Nat} (h : a.Perm b) : (nums a).Perm (nums b) := h.map _
theorem done_sorted {l : List Step} {s : Sg} (h : Ok l s) (h2 : Ok2 l s) : (nums s.done).mergeSort (fun x y => decide (x ≤ y)) = nums (doneF l s) := by
  refine List.Perm.eq_of_pairwise (le := fun a b : Int => a ≤ b) (fun a b _ _ h1 h2 => by omega) ?_ ?_ ((List.mergeSort_perm _ _).trans (nums_perm (done_perm h h2)))
  · have := List.pairwise_mergeSort (le := fun x y : Int => decide (x ≤ y)) (fun a b c h1 h2 => by simp at *; omega) (fun a b => by simp; omega) (nums s.done)
    exact this.imp (fun h => of_decide_eq_true h)
  · have h3 : List.Pairwise (fun a b : Nat => a < b) (doneF l s) := List.pairwise_lt_range.filter _
    unfold nums
    rw [List.pairwise_map]
    exact h3.imp (fun h => by omega)
/-- What a SagaEnds answers. -/
noncomputable def endF (l : List Step) (f u : List ByteArray) : Int × List ByteArray × Int :=
  if 4096 < l.length ∨ 4096 < f.length ∨ 4096 < u.length then (0, [], 2)
  else if sagaB l = false then (0, [], 1)
  else if f.all (hasB (names l)) = false ∨ u.all (hasB (names l)) = false then (0, [], 7)
  else ((endsN l f u (phi l (beginS l)) (beginS l)).st, (doneF l (endsN l f u (phi l (beginS l)) (beginS l))).map (nameAt l), 0)
end Go.Proofs.YtdheogonghcokaaGreatDoor

namespace Go.Proofs.YtdheogonghcokaaGreatDoor
open Go.ChangeShapes Go.WideShapes Go.ChangeAt Go.RowKit
set_option linter.unusedVariables false
set_option linter.unusedSimpArgs false

section
variable {S : Nat → Prop} {B : Nat} {l : List Step} {a : Option Addr} {cap g gp : Nat} {rv : Value} {reps : List Int} {dv cv : Value} {w0 w : World} {s : Sg}
/-- A text that is no step's name. -/
def noStep (l : List Step) (t : ByteArray) : Bool := decide (findI (names l) t < 0)
set_option maxRecDepth 100000 in
theorem implNoStep (h : RunI S B l a cap g gp rv reps dv cv w0 w s) (t : ByteArray) (gx : Nat) (hg : w.cell? ⟨gx, 0, none⟩ = some (.pointer (some ⟨g, 0, none⟩))) :
    Calls Tryz.prog 41 #[.string t, .pointer (some ⟨gx, 0, none⟩)] w fun e w' => e = .returned (.bool (noStep l t)) ∧ Below w.heap.size w w' := by
  have cf := implFind h t
  unfold noStep
  obtain ⟨fi, hfi⟩ : ∃ fi, findI (names l) t = fi := ⟨_, rfl⟩
  rw [hfi] at cf ⊢
  clear h hfi
  go_enter Tryz.func41, Tryz.ntmps41
  go_wp2_with (go_at_call 42; go_must (refine cf.mono ?_; rintro e w1 ⟨rfl, hb1⟩))
  go_ret
  exact ⟨rfl, hb1⟩
set_option maxRecDepth 100000 in
set_option maxHeartbeats 2000000 in
theorem implIndexT (h : RunI S B l a cap g gp rv reps dv cv w0 w s) (ss : List ByteArray) (a2 : Option Addr) (cap2 gx : Nat) (hlen : ss.length ≤ 2000000) (hc2 : TxtsIn w a2 ss) (hg : w.cell? ⟨gx, 0, none⟩ = some (.pointer (some ⟨g, 0, none⟩))) (hgl : gx < w.heap.size) :
    Calls Tryz.prog 61 #[.slice a2 ss.length cap2, .func (.func 41) #[] #[.pointer (some ⟨gx, 0, none⟩)]] w fun e w' => (∃ r : Int, e = .returned (.int .i64 r) ∧ decide (0 ≤ r) = ss.any (noStep l)) ∧ Below w.heap.size w w' := by
  have HC : Hid (TxtsIn w a2 ss) := hc2
  have HR : Hid (RunI S B l a cap g gp rv reps dv cv w0 w s) := h
  have HG : Hid (w.cell? ⟨gx, 0, none⟩ = some (.pointer (some ⟨g, 0, none⟩))) := hg
  have hlen' : (ss.length : Int) ≤ 2000000 := by omega
  clear h hc2 hg
  go_enter Tryz.func61, Tryz.ntmps61
  go_wp2_with fail
  go_loopw [8] (fun i8 wr => ∃ (k : Nat), i8 = .int .i64 (k : Int) ∧ k ≤ ss.length ∧ (ss.take k).any (noStep l) = false ∧ Below w.heap.size w wr) (fun i8 _ => ss.length - (intOf i8).toNat)
  case atStart => exact ⟨0, rfl, by omega, by simp, Below.refl _ _⟩
  case round =>
    obtain ⟨k, rfl, hk, hany, hb⟩ := hrel
    have HA : Hid ((ss.take k).any (noStep l) = false) := hany
    clear hany
    by_cases hkn : k < ss.length
    · have hkn' : (k : Int) < (ss.length : Int) := by omega
      obtain ⟨b, off, rfl, hg2, hcell⟩ := HC.out (by omega)
      have x1 := (hb.cell (p := ⟨b, off + k, none⟩) hg2).trans (hcell k hkn)
      have cx := implNoStep (HR.out.go hb) ss[k] gx ((hb.cell (p := ⟨gx, 0, none⟩) hgl).trans HG.out)
      obtain ⟨x, hx⟩ : ∃ x, ss[k] = x := ⟨_, rfl⟩
      have HX : Hid (ss[k] = x) := hx
      rw [hx] at x1 cx
      have HBW : Hid (Below w.heap.size w wr) := hb
      clear hx hcell hb
      obtain ⟨B1, hB1⟩ : ∃ B1, noStep l x = B1 := ⟨_, rfl⟩
      rw [hB1] at cx
      have HB1 : Hid (noStep l x = B1) := hB1
      clear hB1
      cases B1
      · go_wp2_with (go_at_call 41; go_must (refine cx.mono ?_; rintro e w1 ⟨rfl, hb1⟩))
        exact ⟨⟨k + 1, rfl, by omega, any_takeA ss _ k hkn HA.out (by rw [HX.out]; exact HB1.out), good_below HBW.out hb1⟩, by simp [intOf]; omega⟩
      · go_wp2_with (go_at_call 41; go_must (refine cx.mono ?_; rintro e w1 ⟨rfl, hb1⟩))
        go_ret
        refine ⟨⟨_, rfl, ?_⟩, good_below HBW.out hb1⟩
        rw [List.any_eq_true.2 ⟨ss[k], List.getElem_mem hkn, by rw [HX.out]; exact HB1.out⟩]
        simp
    · have hkn' : ¬ ((k : Int) < (ss.length : Int)) := by omega
      have hA := HA.out
      rw [List.take_of_length_le (by omega)] at hA
      go_wp2_with fail
      go_ret
      refine ⟨⟨_, rfl, ?_⟩, hb⟩
      first
        | (rw [hA]; rfl)
        | omega
set_option maxRecDepth 100000 in
theorem implContT (h : RunI S B l a cap g gp rv reps dv cv w0 w s) (ss : List ByteArray) (a2 : Option Addr) (cap2 gx : Nat) (hlen : ss.length ≤ 2000000) (hc2 : TxtsIn w a2 ss) (hg : w.cell? ⟨gx, 0, none⟩ = some (.pointer (some ⟨g, 0, none⟩))) (hgl : gx < w.heap.size) :
    Calls Tryz.prog 43 #[.slice a2 ss.length cap2, .func (.func 41) #[] #[.pointer (some ⟨gx, 0, none⟩)]] w fun e w' => e = .returned (.bool (ss.any (noStep l))) ∧ Below w.heap.size w w' := by
  have c := implIndexT h ss a2 cap2 gx hlen hc2 hg hgl
  clear h hc2 hg
  go_enter Tryz.func43, Tryz.ntmps43
  go_wp2_with (go_at_call 61; go_must (refine c.mono ?_; rintro e w1 ⟨⟨r, rfl, hr⟩, hb1⟩))
  go_ret
  refine ⟨congrArg (fun b => Ending.returned (Value.bool b)) ?_, hb1⟩
  rw [← hr]
theorem all_steps (l : List Step) (ss : List ByteArray) : (!ss.any (noStep l)) = ss.all (hasB (names l)) := by
  rw [List.not_any_eq_all_not]
  congr 1
  funext t
  rw [← findI_has]
  unfold noStep
  by_cases h : findI (names l) t < 0
  · rw [decide_eq_true h, decide_eq_false (by omega)]; rfl
  · rw [decide_eq_false h, decide_eq_true (by omega)]; rfl
set_option maxRecDepth 100000 in
theorem implAreSteps (h : RunI S B l a cap g gp rv reps dv cv w0 w s) (ss : List ByteArray) (a2 : Option Addr) (cap2 : Nat) (hlen : ss.length ≤ 2000000) (hc2 : TxtsIn w a2 ss) :
    Calls Tryz.prog 25 #[.pointer (some ⟨g, 0, none⟩), .slice a2 ss.length cap2] w fun e w' => e = .returned (.bool (ss.all (hasB (names l)))) ∧ Below w.heap.size w w' := by
  have hb : Below w.heap.size w (w.alloc (.cells #[.pointer (some ⟨g, 0, none⟩)] 55)) := (Below.refl _ w).alloc (Nat.le_refl _) _
  have kb : Blk (w.alloc (.cells #[.pointer (some ⟨g, 0, none⟩)] 55)) w.heap.size 55 #[.pointer (some ⟨g, 0, none⟩)] := heap_alloc_last w _
  have cc := implContT (h.go hb) ss a2 cap2 w.heap.size hlen (hc2.below hb) (kb.cell 0) kb.lt
  rw [← all_steps]
  obtain ⟨F, hF⟩ : ∃ F, ss.any (noStep l) = F := ⟨_, rfl⟩
  rw [hF] at cc ⊢
  have HB : Hid _ := hb
  clear h hc2 hb kb hF
  go_enter Tryz.func25, Tryz.ntmps25
  go_wp2_with (go_at_call 43; go_must (refine cc.mono ?_; rintro e w1 ⟨rfl, hb1⟩))
  go_ret
  exact ⟨rfl, good_below HB.out hb1⟩
set_option maxRecDepth 100000 in
set_option maxHeartbeats 2000000 in
theorem implIndexB (h : RunI S B l a cap g gp rv reps dv cv w0 w s) :
    Calls Tryz.prog 66 #[.slice (some ⟨gp, 0, none⟩) l.length l.length, .func (.func 67) #[] #[]] w fun e w' => (∃ r : Int, e = .returned (.int .i64 r) ∧ (busy s = true → r = (firstB s : Int))) ∧ Below w.heap.size w w' := by
  have HR : Hid (RunI S B l a cap g gp rv reps dv cv w0 w s) := h
  have hl : l.length ≤ 20 := h.saga.len.2
  have hl' : (l.length : Int) ≤ 20 := by omega
  have hil := h.ok.il
  have HIL : Hid (s.is.length = l.length) := hil
  clear h hil
  go_enter Tryz.func66, Tryz.ntmps66
  go_wp2_with fail
  go_loopw [8] (fun i8 wr => ∃ (k : Nat), i8 = .int .i64 (k : Int) ∧ k ≤ l.length ∧ (s.is.take k).any (fun y => decide (y = 1) || decide (y = 3)) = false ∧ Below w.heap.size w wr) (fun i8 _ => l.length - (intOf i8).toNat)
  case atStart => exact ⟨0, rfl, by omega, by simp, Below.refl _ _⟩
  case round =>
    obtain ⟨k, rfl, hk, hany, hb⟩ := hrel
    have HA : Hid ((s.is.take k).any (fun y => decide (y = 1) || decide (y = 3)) = false) := hany
    clear hany
    by_cases hkn : k < l.length
    · have hkn' : (k : Int) < (l.length : Int) := by omega
      have hR := HR.out.go hb
      have d1 := (hR.isCell k hkn).1
      have d2 := (hR.trCell k hkn).1
      have hks : k < s.is.length := by rw [HIL.out]; exact hkn
      have hie := isAt_eq hks
      obtain ⟨x, hx⟩ : ∃ x, isAt s k = x := ⟨_, rfl⟩
      obtain ⟨y, hy⟩ : ∃ y, trAt s k = y := ⟨_, rfl⟩
      rw [hx] at d1 hie
      rw [hy] at d2
      have cx := implBusy1 x y wr
      have HX : Hid (x = s.is[k]) := hie
      have HBW : Hid (Below w.heap.size w wr) := hb
      clear hx hy hR hb hie
      obtain ⟨B1, hB1⟩ : ∃ B1, (decide (x = 1) || decide (x = 3)) = B1 := ⟨_, rfl⟩
      rw [hB1] at cx
      have HB1 : Hid ((decide (x = 1) || decide (x = 3)) = B1) := hB1
      clear hB1
      cases B1
      · go_wp2_with (go_at_call 67; go_must (refine cx.mono ?_; rintro e w1 ⟨rfl, hb1⟩))
        exact ⟨⟨k + 1, rfl, by omega, any_takeA s.is _ k hks HA.out (by rw [← HX.out]; exact HB1.out), good_below HBW.out hb1⟩, by simp [intOf]; omega⟩
      · go_wp2_with (go_at_call 67; go_must (refine cx.mono ?_; rintro e w1 ⟨rfl, hb1⟩))
        go_ret
        refine ⟨⟨_, rfl, ?_⟩, good_below HBW.out hb1⟩
        intro _
        have he : firstB s = k := by
          unfold firstB
          rw [List.findIdx_eq hks]
          refine ⟨by unfold isBusy; rw [← HX.out]; exact HB1.out, fun j hj => ?_⟩
          have h9 := HA.out
          rw [List.any_eq_false] at h9
          have := h9 s.is[j] (List.mem_take_iff_getElem.2 ⟨j, by omega, rfl⟩)
          unfold isBusy
          simpa using this
        rw [he]
    · have hkn' : ¬ ((k : Int) < (l.length : Int)) := by omega
      have hA := HA.out
      rw [List.take_of_length_le (by rw [HIL.out]; omega)] at hA
      go_wp2_with fail
      go_ret
      refine ⟨⟨_, rfl, fun hbz => ?_⟩, hb⟩
      rw [busy_any, hA] at hbz
      cases hbz
set_option maxRecDepth 100000 in
theorem implFirstB (h : RunI S B l a cap g gp rv reps dv cv w0 w s) :
    Calls Tryz.prog 45 #[.pointer (some ⟨g, 0, none⟩)] w fun e w' => (∃ r : Int, e = .returned (.int .i64 r) ∧ (busy s = true → r = (firstB s : Int))) ∧ Below w.heap.size w w' := by
  have c := implIndexB h
  have c2 := h.blk.cell 2
  simp at c2
  clear h
  go_enter Tryz.func45, Tryz.ntmps45
  go_wp2_with (go_at_call 66; go_must (refine c.mono ?_; rintro e w1 ⟨⟨r, rfl, hr⟩, hb1⟩))
  go_ret
  exact ⟨⟨r, rfl, hr⟩, hb1⟩
end
end Go.Proofs.YtdheogonghcokaaGreatDoor
