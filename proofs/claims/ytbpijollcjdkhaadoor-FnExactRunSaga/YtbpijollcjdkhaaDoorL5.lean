/-
  What the program's undoLast, goBack, goOn and sagaRunOf do. No statement of the seat is proved here.
-/
import Derived.Test.YtbpijollcjdkhaaDoorL4
namespace Go.Proofs.YtbpijollcjdkhaaDoor
open Go.ChangeShapes Go.WideShapes Go.ChangeAt Go.RowKit
set_option linter.unusedVariables false
set_option linter.unusedSimpArgs false

section
variable {S : Nat → Prop} {B : Nat} {l : List Step} {a : Option Addr} {cap g gp : Nat} {rv : Value} {reps : List Int} {dv cv : Value} {w0 w : World} {s : Sg}
theorem nums_drop (d : List Nat) {m : Nat} (h : d.length = m + 1) : (nums d).take m = nums d.dropLast := by
  unfold nums
  rw [← List.map_take, List.dropLast_eq_take, h]
  rfl
set_option maxRecDepth 100000 in
set_option maxHeartbeats 4000000 in
theorem implUndo (h : RunI S B l a cap g gp rv reps dv cv w0 w s) (h0 : 0 < s.done.length) (hc : s.cmds.length ≤ 900000) :
    Calls Tryd.prog 89 #[.pointer (some ⟨g, 0, none⟩)] w fun e w' => e = .returned (.tuple #[]) ∧ ∃ dv' cv', RunI S B l a cap g gp rv reps dv' cv' w0 w' (undoS l s (lastOf s)) := by
  have hl : l.length ≤ 20 := h.saga.len.2
  have hl' : (l.length : Int) ≤ 20 := by omega
  have hdl := done_len h.ok
  obtain ⟨m, hm⟩ : ∃ m, s.done.length = m + 1 := ⟨s.done.length - 1, by omega⟩
  obtain ⟨da, dc, hdv, hdc⟩ := h.done.natCells
  obtain ⟨dg, hda, hdB, hdg, hcell⟩ := hdc h0
  subst hda
  subst hdv
  have hla := last_at hm
  have d1 := hcell m (by omega)
  rw [hla] at d1
  have hin := (h.ok.dk _ (last_in h0)).1
  have hout := h.ok.last_out h0
  have htk := OwnNums.take h.done m (by rw [nums_len]; omega)
  rw [nums_drop _ hm] at htk
  obtain ⟨hbk, H1⟩ := h.growD htk (Below.refl _ _) (grown_of (Below.refl _ _) _) (.inl rfl) h.ok.drop
  have hlt := OwnNums.lt h.done
  have hmc : m + 1 ≤ dc := by rw [← hm]; exact hlt.2.2.1
  have hus : undoS l s (lastOf s) = if (stepOf l (lastOf s)).undo then beg l { s with done := s.done.dropLast } 3 2 (lastOf s) else setIs { s with done := s.done.dropLast } (lastOf s) 4 := rfl
  rw [hus]
  obtain ⟨x, hx⟩ : ∃ x, lastOf s = x := ⟨_, rfl⟩
  rw [hx] at d1 hin hout ⊢
  have c3 := h.blk.cell 3
  have f3 := h.blk.fro 3
  simp at c3
  rw [hm] at c3
  have hm20 : (m : Int) < 20 := by omega
  have hm1 : ((m + 1 : Nat) : Int) - 1 = (m : Int) := by omega
  have hxl : (x : Int) < (l.length : Int) := by omega
  have HH1 : Hid (RunI S B l a cap g gp rv reps (.slice (some ⟨dg, 0, none⟩) m dc) cv w0 (w.setCell ⟨g, 3, none⟩ (.slice (some ⟨dg, 0, none⟩) m dc)) { s with done := s.done.dropLast }) := H1
  have HIN : Hid (x < l.length) := hin
  have HOUT : Hid (x ∉ s.done.dropLast) := hout
  have HC : Hid (s.cmds.length ≤ 900000) := hc
  have hdm : (dc : Int) ≤ 9223372036854775807 := by have := hlt.2.2.2.1; simp [maxLen] at this; omega
  have hmc' : (m : Int) + 1 ≤ (dc : Int) := by omega
  clear h hcell hdc htk hbk H1 hlt hla hx hin hout hc h0 hm hus
  cases hu : (stepOf l x).undo
  case false =>
    rw [if_neg (by simp)]
    go_enter Tryd.func89, Tryd.ntmps89
    go_upto_region 3 with fail
    obtain ⟨wA, hwA⟩ : ∃ wA, w.setCell ⟨g, 3, none⟩ (.slice (some ⟨dg, 0, none⟩) m dc) = wA := ⟨_, rfl⟩
    rw [hwA] at HH1 ⊢
    clear hwA c3 f3 d1
    obtain ⟨b, off, rfl, hbB, hst⟩ := HH1.out.stepCell
    have e2 := (hst x HIN.out).2.1
    rw [hu] at e2
    have c0 := HH1.out.blk.cell 0
    simp at c0
    have ct := implTakeBack HH1.out x HIN.out HOUT.out
    clear hst hu
    go_wp2_with (go_at_call 71; go_must (refine ct.mono ?_; rintro e w5 ⟨rfl, H5⟩))
    go_end0
    exact ⟨rfl, _, _, H5⟩
  case true =>
    rw [if_pos rfl]
    go_enter Tryd.func89, Tryd.ntmps89
    go_upto_region 3 with fail
    obtain ⟨wA, hwA⟩ : ∃ wA, w.setCell ⟨g, 3, none⟩ (.slice (some ⟨dg, 0, none⟩) m dc) = wA := ⟨_, rfl⟩
    rw [hwA] at HH1 ⊢
    clear hwA c3 f3 d1
    obtain ⟨b, off, rfl, hbB, hst⟩ := HH1.out.stepCell
    have e2 := (hst x HIN.out).2.1
    rw [hu] at e2
    have c0 := HH1.out.blk.cell 0
    simp at c0
    have cb := implBegin HH1.out 3 2 x HIN.out (by omega) (by omega) HOUT.out HC.out
    clear hst hu
    go_wp2_with (go_at_call 87; go_must (refine cb.mono ?_; rintro e w5 ⟨rfl, cv5, H5⟩))
    (try simp only [Exit.inBlock, Exit.then])
    refine bodyPost_ret (results_none rfl _ _ _) rfl ?_
    exact ⟨rfl, _, _, H5⟩
set_option maxRecDepth 100000 in
set_option maxHeartbeats 4000000 in
theorem implBack (h : RunI S B l a cap g gp rv reps dv cv w0 w s) (hc : s.cmds.length ≤ 800000) :
    Calls Tryd.prog 66 #[.pointer (some ⟨g, 0, none⟩)] w fun e w' => e = .returned (.tuple #[]) ∧ ∃ dv' cv', RunI S B l a cap g gp rv reps dv' cv' w0 w' (back l s.done.length s) := by
  have hl : l.length ≤ 20 := h.saga.len.2
  have hdl := done_len h.ok
  have HR : Hid (RunI S B l a cap g gp rv reps dv cv w0 w s) := h
  have HC : Hid (s.cmds.length ≤ 800000) := hc
  obtain ⟨R, hRr⟩ : ∃ R, back l s.done.length s = R := ⟨_, rfl⟩
  rw [hRr]
  have HRR : Hid (back l s.done.length s = R) := hRr
  clear h hc hRr
  go_enter Tryd.func66, Tryd.ntmps66
  go_wp2_with fail
  go_loopw [2] (fun i2 wr => ∃ (dv' cv' : Value) (t : Sg), RunI S B l a cap g gp rv reps dv' cv' w0 wr t ∧ back l t.done.length t = R ∧ t.cmds.length + t.done.length ≤ 800020) (fun _ wr => lenIn wr ⟨g, 3, none⟩)
  case atStart => exact ⟨dv, cv, s, HR.out, HRR.out, by have := HC.out; omega⟩
  case round =>
    obtain ⟨dv', cv', t, hR, hbk, hcl⟩ := hrel
    have HR1 : Hid (RunI S B l a cap g gp rv reps dv' cv' w0 wr t) := hR
    have HBK : Hid (back l t.done.length t = R) := hbk
    have HCL : Hid (t.cmds.length + t.done.length ≤ 800020) := hcl
    have cf := implFirstBusy hR
    obtain ⟨da, dc, hdv, -⟩ := hR.done.natCells
    clear hbk hcl
    cases hbz : busy t
    case true =>
      have hr : R = t := by rw [← HBK.out]; exact back_busy hbz _
      subst hr
      rw [hbz] at cf
      clear hR hdv
      go_wp2_with (go_at_call 88; go_must (refine cf.mono ?_; rintro e w1 ⟨⟨r, rfl, hr⟩, hb1⟩; have hr' : ¬ (r < 0) := (by have := of_decide_eq_true hr; omega); clear hr))
      go_end0
      exact ⟨rfl, _, _, HR1.out.go hb1⟩
    case false =>
      rw [hbz] at cf
      by_cases h0 : t.done.length = 0
      · have hr : R = setSt t 4 := by rw [← HBK.out, h0]; exact back_zero hbz
        subst hr
        clear hR hbz
        go_upto_region 1 with (go_at_call 88; go_must (refine cf.mono ?_; rintro e w1 ⟨⟨r, rfl, hr⟩, hb1⟩; have hr' : r < 0 := (by have := of_decide_eq_false hr; omega); clear hr))
        have H1 := HR1.out.go hb1
        have c3 := H1.blk.cell 3
        have c1 := H1.blk.cell 1
        have f1 := H1.blk.fro 1
        simp at c3 c1
        rw [hdv, h0] at c3
        have H9 := H1.putSt 4
        have HH9 : Hid (RunI S B l a cap g gp rv reps dv' cv' w0 (w1.setCell ⟨g, 1, none⟩ (.int .i64 4)) (setSt t 4)) := H9
        clear H9 H1 cf hdv h0
        go_wp2_with fail
        (try simp only [Exit.inBlock, Exit.then])
        refine bodyPost_ret (results_none rfl _ _ _) rfl ?_
        exact ⟨rfl, _, _, HH9.out⟩
      · obtain ⟨m, hm⟩ : ∃ m, t.done.length = m + 1 := ⟨t.done.length - 1, by omega⟩
        have hund := back_succ (l := l) hbz m
        rw [← hm, HBK.out] at hund
        have hul := undo_len l t (lastOf t)
        have huc := undo_cmds l t (lastOf t)
        have c3r := hR.blk.cell 3
        simp at c3r
        rw [hdv, hm] at c3r
        have HSLEN : Hid (lenIn wr ⟨g, 3, none⟩ = m + 1) := lenIn_eq c3r
        have HUND : Hid (R = back l m (undoS l t (lastOf t))) := hund
        have HUL : Hid ((undoS l t (lastOf t)).done = t.done.dropLast) := hul
        have HUC : Hid ((undoS l t (lastOf t)).cmds.length ≤ t.cmds.length + 1) := huc
        have HM : Hid (t.done.length = m + 1) := hm
        have hm20 : m < 20 := by have := done_len HR1.out.ok; omega
        clear hund hul huc hR hbz c3r hm h0
        go_upto_region 1 with (go_at_call 88; go_must (refine cf.mono ?_; rintro e w1 ⟨⟨r, rfl, hr⟩, hb1⟩; have hr' : r < 0 := (by have := of_decide_eq_false hr; omega); clear hr))
        have H1 := HR1.out.go hb1
        have c3 := H1.blk.cell 3
        simp at c3
        rw [hdv, HM.out] at c3
        have cu := implUndo H1 (by rw [HM.out]; omega) (by have := HCL.out; omega)
        clear cf hdv H1
        have hne : ¬ (((m + 1 : Nat) : Int) = 0) := by omega
        go_wp2_with (go_at_call 89; go_must (refine cu.mono ?_; rintro e w5 ⟨rfl, dv5, cv5, H5⟩))
        have hlen : (undoS l t (lastOf t)).done.length = m := by rw [HUL.out, List.length_dropLast, HM.out]; omega
        refine ⟨⟨dv5, cv5, _, H5, by rw [hlen]; exact HUND.out.symm, by have := HUC.out; have := HCL.out; have := HM.out; omega⟩, ?_⟩
        obtain ⟨ea, ec, hev, -⟩ := H5.done.natCells
        have k3 := H5.blk.cell 3
        simp at k3
        rw [hev, hlen] at k3
        rw [lenIn_eq k3, HSLEN.out]
        omega
set_option maxRecDepth 100000 in
set_option maxHeartbeats 2000000 in
theorem implGoOn (h : RunI S B l a cap g gp rv reps dv cv w0 w s) (hc : s.cmds.length ≤ 800000) :
    Calls Tryd.prog 51 #[.pointer (some ⟨g, 0, none⟩)] w fun e w' => e = .returned (.tuple #[]) ∧ ∃ dv' cv', RunI S B l a cap g gp rv reps dv' cv' w0 w' (goOnS l s) := by
  have c1 := h.blk.cell 1
  simp at c1
  have cf := implForward h hc
  have cb := implBack h hc
  have HR : Hid (RunI S B l a cap g gp rv reps dv cv w0 w s) := h
  unfold goOnS
  obtain ⟨st, hst⟩ : ∃ st, s.st = st := ⟨_, rfl⟩
  rw [hst] at c1 ⊢
  clear h hst
  by_cases h1 : st = 1
  · subst h1
    rw [if_pos rfl]
    go_enter Tryd.func51, Tryd.ntmps51
    go_wp2_with (go_at_call 65; go_must (refine cf.mono ?_; rintro e w5 ⟨rfl, cv5, H5⟩))
    go_end0
    exact ⟨rfl, _, cv5, H5⟩
  · rw [if_neg h1]
    have h1' : (st == 1) = false := by simp [h1]
    by_cases h2 : st = 2
    · subst h2
      rw [if_pos rfl]
      go_enter Tryd.func51, Tryd.ntmps51
      go_wp2_with (go_at_call 66; go_must (refine cb.mono ?_; rintro e w5 ⟨rfl, dv5, cv5, H5⟩))
      go_end0
      exact ⟨rfl, dv5, cv5, H5⟩
    · rw [if_neg h2]
      have h2' : (st == 2) = false := by simp [h2]
      go_enter Tryd.func51, Tryd.ntmps51
      go_wp2_with fail
      go_end0
      exact ⟨rfl, _, _, HR.out⟩
end
end Go.Proofs.YtbpijollcjdkhaaDoor
