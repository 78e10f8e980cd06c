/-
  What the document's on does where the saga goes back. No statement of the seat is proved here.
-/
import Derived.Test.YtbpijollcjdkhaaDoorK6
namespace Go.Proofs.YtbpijollcjdkhaaDoor
open Go.ChangeShapes Go.WideShapes Go.ChangeAt Go.RowKit
set_option linter.unusedVariables false
set_option linter.unusedSimpArgs false

section
variable {S : Nat → Prop} {B : Nat} {l : List Step} {a : Option Addr} {cap g gi gt : Nat} {dv rv cv : Value} {w0 w : World} {s : Sg} {reps : List Int}
/-- How long the slice in a cell is. -/
def lenIn (w : World) (p : Addr) : Nat := match w.cell? p with | some (.slice _ n _) => n | _ => 0
theorem lenIn_eq {w : World} {p : Addr} {a : Option Addr} {n c : Nat} (h : w.cell? p = some (.slice a n c)) : lenIn w p = n := by unfold lenIn; rw [h]
theorem back_busy (h : busy s = true) (m : Nat) : back l m s = s := by
  cases m <;> (unfold back; rw [if_pos h])
theorem back_zero (h : busy s = false) : back l 0 s = setSt s 4 := by unfold back; rw [if_neg (by rw [h]; simp)]
theorem back_succ (h : busy s = false) (m : Nat) : back l (m + 1) s = back l m (undoS l s (lastOf s)) := by
  rw [show back l (m + 1) s = (if busy s then s else back l m (undoS l s (lastOf s))) from rfl, if_neg (by rw [h]; simp)]
theorem undo_cmds (l : List Step) (s : Sg) (k : Nat) : (undoS l s k).cmds.length ≤ s.cmds.length + 1 := by
  unfold undoS
  split
  · rw [beg_cmds]; exact Nat.le_refl _
  · simp [setIs]
theorem last_at {s : Sg} {m : Nat} (h : s.done.length = m + 1) : s.done[m] = lastOf s := by
  unfold lastOf
  rw [List.getLastD_eq_getLast?, List.getLast?_eq_getElem?]
  have e : s.done.length - 1 = m := by omega
  simp [e, h]
set_option maxRecDepth 100000 in
set_option maxHeartbeats 8000000 in
theorem specBack (hcm : CommandC 46) (h : RunS S B l a cap g gi gt dv rv cv w0 w s reps) (hc : s.cmds.length ≤ 800000) (h1 : s.st = 2) :
    Calls Tryd.prog 45 #[.pointer (some ⟨g, 0, none⟩)] w fun e w' => e = .returned (.tuple #[]) ∧ ∃ dv' cv', RunS S B l a cap g gi gt dv' rv cv' w0 w' (back l s.done.length s) reps := by
  have c5 := h.blk.cell 5
  simp at c5
  rw [h1] at c5
  have hl : l.length ≤ 20 := h.saga.len.2
  have hl' : (l.length : Int) ≤ 20 := by omega
  have hdl := done_len h.ok
  have HR : Hid (RunS S B l a cap g gi gt dv rv cv w0 w s reps) := h
  have HCM : Hid (CommandC 46) := hcm
  have HC : Hid (s.cmds.length ≤ 800000) := hc
  have HST : Hid (s.st = 2) := h1
  obtain ⟨R, hRr⟩ : ∃ R, back l s.done.length s = R := ⟨_, rfl⟩
  rw [hRr]
  have HRR : Hid (back l s.done.length s = R) := hRr
  clear h hc h1 hcm hRr
  go_enter Tryd.func45, Tryd.ntmps45
  go_wp2_with fail
  go_loopw [3] (fun i3 wr => ∃ (dv' cv' : Value) (t : Sg), RunS S B l a cap g gi gt dv' rv cv' w0 wr t reps ∧ t.st = 2 ∧ back l t.done.length t = R ∧ t.cmds.length + t.done.length ≤ 800020) (fun _ wr => lenIn wr ⟨g, 3, none⟩)
  case atStart => exact ⟨dv, cv, s, HR.out, HST.out, HRR.out, by have := HC.out; omega⟩
  case round =>
    clear c5
    obtain ⟨dv', cv', t, hR, hst, hbk, hcl⟩ := hrel
    have HR1 : Hid (RunS S B l a cap g gi gt dv' rv cv' w0 wr t reps) := hR
    have c5 := hR.blk.cell 5
    simp at c5
    rw [hst] at c5
    have a1 := specAny hR 1
    have a3 := specAny hR 3
    have HSTT : Hid (t.st = 2) := hst
    have HBK : Hid (back l t.done.length t = R) := hbk
    have HCL : Hid (t.cmds.length + t.done.length ≤ 800020) := hcl
    obtain ⟨A1, hA1⟩ : ∃ A, anyB t 1 = A := ⟨_, rfl⟩
    obtain ⟨A3, hA3⟩ : ∃ A, anyB t 3 = A := ⟨_, rfl⟩
    rw [hA1] at a1
    rw [hA3] at a3
    have hbz : busy t = (A1 || A3) := by unfold busy; rw [hA1, hA3]
    have HBZ : Hid (busy t = (A1 || A3)) := hbz
    clear hR hst hbk hcl hA1 hA3 hbz
    cases A1
    case true =>
      have hr : R = t := by rw [← HBK.out]; exact back_busy HBZ.out _
      subst hr
      go_wp2_with (go_at_call 60; go_must (refine a1.mono ?_; rintro e w1 ⟨rfl, hq⟩; obtain rfl := hq.symm; clear hq))
      go_end0
      exact ⟨rfl, _, _, HR1.out⟩
    cases A3
    case true =>
      have hr : R = t := by rw [← HBK.out]; exact back_busy HBZ.out _
      subst hr
      go_wp2_with (first
        | (go_at_call 60; have hchk := HS1; refine a3.mono ?_; rintro e w1 ⟨rfl, hq⟩; obtain rfl := hq.symm; clear hq)
        | (go_at_call 60; go_must (refine a1.mono ?_; rintro e w1 ⟨rfl, hq⟩; obtain rfl := hq.symm; clear hq; have HS1 : Hid (0 = 0) := rfl)))
      go_end0
      exact ⟨rfl, _, _, HR1.out⟩
    have hbz : busy t = false := HBZ.out
    obtain ⟨da, dc, hdv, hdc⟩ := HR1.out.done.natCells
    subst hdv
    have c3 := HR1.out.blk.cell 3
    simp at c3
    by_cases h0 : t.done.length = 0
    case pos =>
      have hr : R = setSt t 4 := by rw [← HBK.out, h0]; exact back_zero hbz
      have H9 := HR1.out.putSt 4
      rw [← hr] at H9
      have f5 := HR1.out.blk.fro 5
      rw [h0] at c3
      have HH9 : Hid (RunS S B l a cap g gi gt (.slice da t.done.length dc) rv cv' w0 (wr.setCell ⟨g, 5, none⟩ (.int .i64 4)) R reps) := H9
      clear H9 hr h0 hdc hbz
      go_wp2_with (first
        | (go_at_call 60; have hchk := HS1; refine a3.mono ?_; rintro e w1 ⟨rfl, hq⟩; obtain rfl := hq.symm; clear hq)
        | (go_at_call 60; go_must (refine a1.mono ?_; rintro e w1 ⟨rfl, hq⟩; obtain rfl := hq.symm; clear hq; have HS1 : Hid (0 = 0) := rfl)))
      (try simp only [Exit.inBlock, Exit.then])
      refine bodyPost_ret (results_none rfl _ _ _) rfl ?_
      exact ⟨rfl, _, _, HH9.out⟩
    obtain ⟨m, hm⟩ : ∃ m, t.done.length = m + 1 := ⟨t.done.length - 1, by omega⟩
    have hla := last_at hm
    have hm20 : m < 20 := by have := done_len HR1.out.ok; omega
    obtain ⟨dg, hda, hdB, hdg, hcell⟩ := hdc (by omega)
    subst hda
    have d1 := hcell m (by omega)
    rw [hla] at d1
    rw [hm] at c3
    have hok1 := HR1.out.ok.drop
    have hlin := (HR1.out.ok.dk _ (last_in (s := t) (by omega))).1
    have hlout := HR1.out.ok.last_out (by omega)
    have hdrp := drop_last HR1.out.ok.dn (by omega)
    have hund := back_succ (l := l) hbz m
    rw [← hm, HBK.out] at hund
    have hus : undoS l t (lastOf t) = if (stepOf l (lastOf t)).undo then beg l { t with done := t.done.dropLast } 3 2 (lastOf t) else setIs { t with done := t.done.dropLast } (lastOf t) 4 := rfl
    have hul := undo_len l t (lastOf t)
    have hust := undo_st l t (lastOf t)
    have huc := undo_cmds l t (lastOf t)
    obtain ⟨x, hx⟩ : ∃ x, lastOf t = x := ⟨_, rfl⟩
    rw [hx] at d1 hlin hlout hdrp hund hus hul hust huc
    have HSLEN : Hid (lenIn wr ⟨g, 3, none⟩ = m + 1) := lenIn_eq c3
    have HIN : Hid (x < l.length) := hlin
    have HOUT : Hid (x ∉ t.done.dropLast) := hlout
    have HDRP : Hid (t.done.filter (fun j => !decide (j = x)) = t.done.dropLast) := hdrp
    have HUND : Hid (R = back l m (undoS l t x)) := hund
    have HUS : Hid (undoS l t x = if (stepOf l x).undo then beg l { t with done := t.done.dropLast } 3 2 x else setIs { t with done := t.done.dropLast } x 4) := hus
    have HUL : Hid ((undoS l t x).done = t.done.dropLast) := hul
    have HUST : Hid ((undoS l t x).st = t.st) := hust
    have HUC : Hid ((undoS l t x).cmds.length ≤ t.cmds.length + 1) := huc
    have HM : Hid (t.done.length = m + 1) := hm
    have HOK1 : Hid (Ok l { t with done := t.done.dropLast }) := hok1
    have hxl : (x : Int) < (l.length : Int) := by omega
    have hm1 : ((m + 1 : Nat) : Int) - 1 = (m : Int) := by omega
    clear hla hdc hcell hlin hlout hdrp hund hus hul hust huc hx hm hok1 hbz h0
    go_upto_region 13 with (first
        | (go_at_call 60; have hchk := HS1; refine a3.mono ?_; rintro e w1 ⟨rfl, hq⟩; obtain rfl := hq.symm; clear hq)
        | (go_at_call 60; go_must (refine a1.mono ?_; rintro e w1 ⟨rfl, hq⟩; obtain rfl := hq.symm; clear hq; have HS1 : Hid (0 = 0) := rfl)))
    clear a1 a3
    go_cut [3] from 78 to 90 (fun s3 wx => s3 = .int .i64 (x : Int) ∧ Below wr.heap.size wr wx)
    case first =>
      go_quiet (fail)
      refine meet_then (by assumption) ?_
      go_meet
      exact ⟨rfl, bel_drewN (Below.refl _ _) _⟩
    case rest =>
      obtain ⟨rfl, hbw⟩ := hcut
      obtain ⟨wA, hwA⟩ : ∃ wA, wA = wc := ⟨_, rfl⟩
      subst hwA
      have H1 := HR1.out.go hbw
      have cd := specDrop H1 x
      clear H1 c3 c5 d1 hbw
      go_upto_region 15 with (go_at_call 61; go_must (refine cd.mono ?_; rintro e w2 ⟨rfl, dv2, H2⟩))
      clear cd
      rw [HDRP.out] at H2
      have HH2 : Hid (RunS S B l a cap g gi gt dv2 rv cv' w0 w2 { t with done := t.done.dropLast } reps) := H2
      have hmes : ∀ {dv3 cv3 : Value} {w3 : World} {u : Sg}, RunS S B l a cap g gi gt dv3 rv cv3 w0 w3 u reps → u.done = t.done.dropLast → lenIn w3 ⟨g, 3, none⟩ < lenIn wr ⟨g, 3, none⟩ := fun h3 hu => by
        obtain ⟨ea, ec, hev, -⟩ := h3.done.natCells
        have k3 := h3.blk.cell 3
        simp at k3
        rw [hev] at k3
        rw [lenIn_eq k3, HSLEN.out, hu, List.length_dropLast, HM.out]
        omega
      have HMES : Hid (∀ {dv3 cv3 : Value} {w3 : World} {u : Sg}, RunS S B l a cap g gi gt dv3 rv cv3 w0 w3 u reps → u.done = t.done.dropLast → lenIn w3 ⟨g, 3, none⟩ < lenIn wr ⟨g, 3, none⟩) := hmes
      have hres : ∀ {dv3 cv3 : Value} {w3 : World}, RunS S B l a cap g gi gt dv3 rv cv3 w0 w3 (undoS l t x) reps → ∃ (dv' cv' : Value) (t : Sg), RunS S B l a cap g gi gt dv' rv cv' w0 w3 t reps ∧ t.st = 2 ∧ back l t.done.length t = R ∧ t.cmds.length + t.done.length ≤ 800020 := fun h3 => by
        have hlen : (undoS l t x).done.length = m := by rw [HUL.out, List.length_dropLast, HM.out]; omega
        refine ⟨_, _, _, h3, HUST.out.trans HSTT.out, by rw [hlen]; exact HUND.out.symm, ?_⟩
        have := HUC.out
        have := HCL.out
        have := HM.out
        omega
      have HRES : Hid (∀ {dv3 cv3 : Value} {w3 : World}, RunS S B l a cap g gi gt dv3 rv cv3 w0 w3 (undoS l t x) reps → ∃ (dv' cv' : Value) (t : Sg), RunS S B l a cap g gi gt dv' rv cv' w0 w3 t reps ∧ t.st = 2 ∧ back l t.done.length t = R ∧ t.cmds.length + t.done.length ≤ 800020) := hres
      obtain ⟨b, off, rfl, hbB, hst⟩ := H2.stepCell
      have e2 := (hst x HIN.out).2.1
      have c0 := H2.blk.cell 0
      have c1 := H2.blk.cell 1
      simp at c0 c1
      obtain ⟨d2, d3⟩ := H2.isCell x HIN.out
      have hus := HUS.out
      have hcl2 : t.cmds.length ≤ 900000 := by have := HCL.out; omega
      have HCL2 : Hid (t.cmds.length ≤ 900000) := hcl2
      clear hmes hres hst hcl2
      cases hu : (stepOf l x).undo
      case false =>
        rw [hu] at e2 hus
        rw [if_neg (by simp)] at hus
        have H3 := H2.putIs x 4 (HOK1.out.setIs HIN.out 4 HOUT.out)
        rw [← hus] at H3
        have HH3 : Hid (RunS S B l (some ⟨b, off, none⟩) cap g gi gt dv2 rv cv' w0 (w2.setCell ⟨gi, x, none⟩ (.int .i64 4)) (undoS l t x) reps) := H3
        clear H2 H3 hus hu
        go_wp2_with fail
        exact ⟨HRES.out HH3.out, HMES.out HH3.out HUL.out⟩
      case true =>
        rw [hu] at e2 hus
        rw [if_pos rfl] at hus
        have HUSB : Hid (undoS l t x = cmdS l (setTr (setIs { t with done := t.done.dropLast } x 3) x 1) 2 x) := hus
        have HO1 : Hid (Ok l (setIs { t with done := t.done.dropLast } x 3)) := HOK1.out.setIs HIN.out 3 HOUT.out
        have HO2 : Hid (Ok l (setTr (setIs { t with done := t.done.dropLast } x 3) x 1)) := HO1.out.setTr HIN.out 1 (by omega) (by omega)
        have H3 := H2.putIs x 3 HO1.out
        have HH3 : Hid (RunS S B l (some ⟨b, off, none⟩) cap g gi gt dv2 rv cv' w0 (w2.setCell ⟨gi, x, none⟩ (.int .i64 3)) (setIs { t with done := t.done.dropLast } x 3) reps) := H3
        clear H2 H3 hus hu
        go_upto_region 17 with fail
        obtain ⟨wB, hwB⟩ : ∃ wB, w2.setCell ⟨gi, x, none⟩ (.int .i64 3) = wB := ⟨_, rfl⟩
        rw [hwB] at HH3 ⊢
        clear hwB c0 c1 d2 d3 e2
        have H3 := HH3.out
        have c2 := H3.blk.cell 2
        simp at c2
        obtain ⟨d2, d3⟩ := H3.trCell x HIN.out
        have H4 := H3.putTr x 1 HO2.out
        have HH4 : Hid (RunS S B l (some ⟨b, off, none⟩) cap g gi gt dv2 rv cv' w0 (wB.setCell ⟨gt, x, none⟩ (.int .i64 1)) (setTr (setIs { t with done := t.done.dropLast } x 3) x 1) reps) := H4
        clear H3 H4
        go_upto_region 18 with fail
        obtain ⟨wC, hwC⟩ : ∃ wC, wB.setCell ⟨gt, x, none⟩ (.int .i64 1) = wC := ⟨_, rfl⟩
        rw [hwC] at HH4 ⊢
        clear hwC c2 d2 d3
        have cc := HCM.out HH4.out 2 x HIN.out HCL2.out
        go_wp2_with (go_at_call 46; go_must (refine cc.mono ?_; rintro e w5 ⟨rfl, cv5, H5⟩))
        rw [← HUSB.out] at H5
        exact ⟨HRES.out H5, HMES.out H5 HUL.out⟩
end
end Go.Proofs.YtbpijollcjdkhaaDoor
