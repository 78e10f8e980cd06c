/-
  What the document's on does. What the document's on does where the saga goes back. What the document's message does. What the document's message does. What the document's l11Begin does. What the document's RunSaga answers: plain. Maps that count; texts in their order; what impl.firstTwice answers. No statement of the seat is proved here.
-/
import Derived.Test.YtdheogonghcokaaGreatDoorZj2
import Derived.Maps.AppendAt
import Derived.Deep.OwnRows
import Derived.Laws.OwnMore
import Derived.Maps.OwnOps
import Derived.Maps.OwnSet
import Derived.WideKeyEntry
import Derived.DeepKeys4
import Derived.Sort.Walk0
import Derived.Laws.Cover1
namespace Go.Proofs.YtdheogonghcokaaGreatDoor
open Go.ChangeShapes Go.WideShapes Go.ChangeAt Go.RowKit
set_option linter.unusedVariables false
set_option linter.unusedSimpArgs false

section
variable {S : Nat → Prop} {B : Nat} {l : List Step} {a : Option Addr} {cap g gi gt : Nat} {dv rv cv : Value} {w0 w : World} {s : Sg} {reps : List Int}
theorem RunS.drewN (h : RunS S B l a cap g gi gt dv rv cv w0 w s reps) (n : Nat) : RunS S B l a cap g gi gt dv rv cv w0 (w.drewN n) s reps := h.go (bel_drewN (Below.refl _ _) n)
/-- What a command leaves. -/
def CommandC (f : Nat) : Prop := ∀ {S : Nat → Prop} {B : Nat} {l : List Step} {a : Option Addr} {cap g gi gt : Nat} {dv rv cv : Value} {w0 w : World} {s : Sg} {reps : List Int}, RunS S B l a cap g gi gt dv rv cv w0 w s reps → ∀ (kind : Int) (i : Nat), i < l.length → s.cmds.length ≤ 900000 →
    Calls Tryz.prog f #[.pointer (some ⟨g, 0, none⟩), .int .i64 kind, .int .i64 (i : Int)] w fun e w' => e = .returned (.tuple #[]) ∧ ∃ cv', RunS S B l a cap g gi gt dv rv cv' w0 w' (cmdS l s kind i) reps
theorem ask_true {k : Nat} (h : askB l s k = true) : ask l s k = beg l s 1 1 k := by unfold ask; rw [if_pos h]
theorem ask_false {k : Nat} (h : askB l s k = false) : ask l s k = s := by unfold ask; rw [if_neg (by rw [h]; simp)]
theorem ask_idle {k : Nat} (h : askB l s k = true) : isAt s k = 0 := by
  unfold askB at h
  rw [Bool.and_eq_true] at h
  exact of_decide_eq_true h.2
set_option maxRecDepth 100000 in
set_option maxHeartbeats 4000000 in
theorem specFwd (hcm : CommandC 36) (h : RunS S B l a cap g gi gt dv rv cv w0 w s reps) (hc : s.cmds.length ≤ 800000) (h1 : s.st = 1) :
    Calls Tryz.prog 35 #[.pointer (some ⟨g, 0, none⟩)] w fun e w' => e = .returned (.tuple #[]) ∧ ∃ cv', RunS S B l a cap g gi gt dv rv cv' w0 w' (fwd l s) reps := by
  have c5 := h.blk.cell 5
  simp at c5
  rw [h1] at c5
  have hl : l.length ≤ 20 := h.saga.len.2
  have hl' : (l.length : Int) ≤ 20 := by omega
  have hdl := done_len h.ok
  have HR : Hid (RunS S B l a cap g gi gt dv rv cv w0 w s reps) := h
  have HCM : Hid (CommandC 36) := hcm
  have HC : Hid (s.cmds.length ≤ 800000) := hc
  clear h hc h1 hcm
  go_enter Tryz.func35, Tryz.ntmps35
  go_wp2_with fail
  go_loopw [2] (fun i2 wr => ∃ (k : Nat) (cv' : Value), i2 = .int .i64 (k : Int) ∧ k ≤ l.length ∧ RunS S B l a cap g gi gt dv rv cv' w0 wr (asks l s k) reps) (fun i2 _ => l.length - (intOf i2).toNat)
  case atStart => exact ⟨0, cv, rfl, by omega, HR.out⟩
  case round =>
    clear c5
    obtain ⟨k, cv', rfl, hk, hR⟩ := hrel
    have HR1 : Hid (RunS S B l a cap g gi gt dv rv cv' w0 wr (asks l s k) reps) := hR
    have c0 := hR.blk.cell 0
    simp at c0
    by_cases hkn : k < l.length
    case neg =>
      obtain rfl : k = l.length := by omega
      have hkn' : ¬ ((l.length : Int) < (l.length : Int)) := by omega
      obtain ⟨da, dc, hdv, -⟩ := hR.done.natCells
      rw [asks_done] at hdv
      by_cases hd : s.done.length = l.length
      · rw [hd] at hdv
        subst hdv
        have c3 := hR.blk.cell 3
        have c5 := hR.blk.cell 5
        have f5 := hR.blk.fro 5
        simp at c3 c5
        have H9 := fun n => (hR.drewN n).putSt 3
        have hfw : fwd l s = setSt (asks l s l.length) 3 := by unfold fwd; rw [asks_done, if_pos hd]
        have HFW : Hid (fwd l s = setSt (asks l s l.length) 3) := hfw
        have HH9 : Hid (∀ n, RunS S B l a cap g gi gt (.slice da l.length dc) rv cv' w0 ((wr.drewN n).setCell ⟨g, 5, none⟩ (.int .i64 3)) (setSt (asks l s l.length) 3) reps) := H9
        clear H9 hR hfw hd
        go_upto_region 8 with fail
        go_quiet (fail)
        go_wp2_with fail
        (try simp only [Exit.inBlock, Exit.then])
        refine bodyPost_ret (results_none rfl _ _ _) rfl ?_
        refine ⟨rfl, cv', ?_⟩
        rw [HFW.out]; exact HH9.out _
      · have hd' : ¬ ((s.done.length : Int) = (l.length : Int)) := by omega
        subst hdv
        have c3 := hR.blk.cell 3
        simp at c3
        have hfw : fwd l s = asks l s l.length := by unfold fwd; rw [asks_done, if_neg hd]
        have HFW : Hid (fwd l s = asks l s l.length) := hfw
        have HH9 : Hid (∀ n, RunS S B l a cap g gi gt (.slice da s.done.length dc) rv cv' w0 (wr.drewN n) (asks l s l.length) reps) := fun n => hR.drewN n
        clear hR hfw
        go_upto_region 8 with fail
        go_quiet (fail)
        go_wp2_with fail
        (try simp only [Exit.inBlock, Exit.then])
        refine bodyPost_ret (results_none rfl _ _ _) rfl ?_
        refine ⟨rfl, cv', ?_⟩
        rw [HFW.out]; exact HH9.out _
    have hkn' : (k : Int) < (l.length : Int) := by omega
    have crd := specReady hR k hkn
    have hnx := asks_succ l s k
    have hcl := asks_cmds l s k
    obtain ⟨t, ht⟩ : ∃ t, asks l s k = t := ⟨_, rfl⟩
    rw [ht] at crd hR hnx hcl
    have HR2 : Hid (RunS S B l a cap g gi gt dv rv cv' w0 wr t reps) := hR
    have HCL : Hid (t.cmds.length ≤ 900000) := by have := HC.out; show _ ≤ _; omega
    clear hR HR1 ht hcl
    cases hA : askB l t k
    case false =>
      rw [hA] at crd
      rw [ask_false hA] at hnx
      have HNX : Hid (asks l s (k + 1) = t) := hnx
      clear hA hnx
      go_wp2_with (go_at_call 52; go_must (refine crd.mono ?_; rintro e w1 ⟨rfl, hb1⟩))
      refine ⟨⟨k + 1, cv', rfl, by omega, ?_⟩, by simp [intOf]; omega⟩
      rw [HNX.out]; exact HR2.out.go hb1
    case true =>
      rw [hA] at crd
      have hidl := ask_idle hA
      have hnot : k ∉ t.done := HR2.out.ok.not (by omega)
      have HNX : Hid (asks l s (k + 1) = cmdS l (setTr (setIs t k 1) k 1) 1 k) := by rw [hnx, ask_true hA]; rfl
      have HO1 : Hid (Ok l (setIs t k 1)) := HR2.out.ok.setIs hkn 1 hnot
      have HO2 : Hid (Ok l (setTr (setIs t k 1) k 1)) := HO1.out.setTr hkn 1 (by omega) (by omega)
      clear hA hnx hnot hidl
      go_upto_region 5 with (go_at_call 52; go_must (refine crd.mono ?_; rintro e w1 ⟨rfl, hb1⟩))
      have H1 := HR2.out.go hb1
      have d1 := H1.blk.cell 1
      have d2 := H1.isCell k hkn
      simp at d1
      obtain ⟨d2, d3⟩ := d2
      have H2 := H1.putIs k 1 HO1.out
      have HH2 : Hid (RunS S B l a cap g gi gt dv rv cv' w0 (w1.setCell ⟨gi, k, none⟩ (.int .i64 1)) (setIs t k 1) reps) := H2
      clear H1 H2 crd
      go_upto_region 6 with fail
      obtain ⟨wA, hwA⟩ : ∃ wA, w1.setCell ⟨gi, k, none⟩ (.int .i64 1) = wA := ⟨_, rfl⟩
      rw [hwA] at HH2 ⊢
      clear hwA d1 d2 d3 hb1
      have H2 := HH2.out
      have d1 := H2.blk.cell 2
      have d2 := H2.trCell k hkn
      simp at d1
      obtain ⟨d2, d3⟩ := d2
      have H3 := H2.putTr k 1 HO2.out
      have HH3 : Hid (RunS S B l a cap g gi gt dv rv cv' w0 (wA.setCell ⟨gt, k, none⟩ (.int .i64 1)) (setTr (setIs t k 1) k 1) reps) := H3
      clear H2 H3 HH2
      go_upto_region 7 with fail
      obtain ⟨wB, hwB⟩ : ∃ wB, wA.setCell ⟨gt, k, none⟩ (.int .i64 1) = wB := ⟨_, rfl⟩
      rw [hwB] at HH3 ⊢
      clear hwB d1 d2 d3
      have cc := HCM.out HH3.out 1 k hkn HCL.out
      go_wp2_with (go_at_call 36; go_must (refine cc.mono ?_; rintro e w5 ⟨rfl, cv5, H5⟩))
      refine ⟨⟨k + 1, cv5, rfl, by omega, ?_⟩, by simp [intOf]; omega⟩
      rw [HNX.out]; exact H5
end
end Go.Proofs.YtdheogonghcokaaGreatDoor

namespace Go.Proofs.YtdheogonghcokaaGreatDoor
open Go.ChangeShapes Go.WideShapes Go.ChangeAt Go.RowKit
set_option linter.unusedVariables false
set_option linter.unusedSimpArgs false

section
variable {S : Nat → Prop} {B : Nat} {l : List Step} {a : Option Addr} {cap g gi gt : Nat} {dv rv cv : Value} {w0 w : World} {s : Sg} {reps : List Int}
/-- How long the slice in a cell is. -/
def lenIn (w : World) (p : Addr) : Nat := match w.cell? p with | some (.slice _ n _) => n | _ => 0
theorem lenIn_eq {w : World} {p : Addr} {a : Option Addr} {n c : Nat} (h : w.cell? p = some (.slice a n c)) : lenIn w p = n := by unfold lenIn; rw [h]
theorem back_busy (h : busy s = true) (m : Nat) : back l m s = s := by
  cases m <;> (unfold back; rw [if_pos h])
theorem back_zero (h : busy s = false) : back l 0 s = setSt s 4 := by unfold back; rw [if_neg (by rw [h]; simp)]
theorem back_succ (h : busy s = false) (m : Nat) : back l (m + 1) s = back l m (undoS l s (lastOf s)) := by
  rw [show back l (m + 1) s = (if busy s then s else back l m (undoS l s (lastOf s))) from rfl, if_neg (by rw [h]; simp)]
theorem undo_cmds (l : List Step) (s : Sg) (k : Nat) : (undoS l s k).cmds.length ≤ s.cmds.length + 1 := by
  unfold undoS
  split
  · rw [beg_cmds]; exact Nat.le_refl _
  · simp [setIs]
theorem last_at {s : Sg} {m : Nat} (h : s.done.length = m + 1) : s.done[m] = lastOf s := by
  unfold lastOf
  rw [List.getLastD_eq_getLast?, List.getLast?_eq_getElem?]
  have e : s.done.length - 1 = m := by omega
  simp [e, h]
set_option maxRecDepth 100000 in
set_option maxHeartbeats 8000000 in
theorem specBack (hcm : CommandC 36) (h : RunS S B l a cap g gi gt dv rv cv w0 w s reps) (hc : s.cmds.length ≤ 800000) (h1 : s.st = 2) :
    Calls Tryz.prog 35 #[.pointer (some ⟨g, 0, none⟩)] w fun e w' => e = .returned (.tuple #[]) ∧ ∃ dv' cv', RunS S B l a cap g gi gt dv' rv cv' w0 w' (back l s.done.length s) reps := by
  have c5 := h.blk.cell 5
  simp at c5
  rw [h1] at c5
  have hl : l.length ≤ 20 := h.saga.len.2
  have hl' : (l.length : Int) ≤ 20 := by omega
  have hdl := done_len h.ok
  have HR : Hid (RunS S B l a cap g gi gt dv rv cv w0 w s reps) := h
  have HCM : Hid (CommandC 36) := hcm
  have HC : Hid (s.cmds.length ≤ 800000) := hc
  have HST : Hid (s.st = 2) := h1
  obtain ⟨R, hRr⟩ : ∃ R, back l s.done.length s = R := ⟨_, rfl⟩
  rw [hRr]
  have HRR : Hid (back l s.done.length s = R) := hRr
  clear h hc h1 hcm hRr
  go_enter Tryz.func35, Tryz.ntmps35
  go_wp2_with fail
  go_loopw [3] (fun i3 wr => ∃ (dv' cv' : Value) (t : Sg), RunS S B l a cap g gi gt dv' rv cv' w0 wr t reps ∧ t.st = 2 ∧ back l t.done.length t = R ∧ t.cmds.length + t.done.length ≤ 800020) (fun _ wr => lenIn wr ⟨g, 3, none⟩)
  case atStart => exact ⟨dv, cv, s, HR.out, HST.out, HRR.out, by have := HC.out; omega⟩
  case round =>
    clear c5
    obtain ⟨dv', cv', t, hR, hst, hbk, hcl⟩ := hrel
    have HR1 : Hid (RunS S B l a cap g gi gt dv' rv cv' w0 wr t reps) := hR
    have c5 := hR.blk.cell 5
    simp at c5
    rw [hst] at c5
    have a1 := specAny hR 1
    have a3 := specAny hR 3
    have HSTT : Hid (t.st = 2) := hst
    have HBK : Hid (back l t.done.length t = R) := hbk
    have HCL : Hid (t.cmds.length + t.done.length ≤ 800020) := hcl
    obtain ⟨A1, hA1⟩ : ∃ A, anyB t 1 = A := ⟨_, rfl⟩
    obtain ⟨A3, hA3⟩ : ∃ A, anyB t 3 = A := ⟨_, rfl⟩
    rw [hA1] at a1
    rw [hA3] at a3
    have hbz : busy t = (A1 || A3) := by unfold busy; rw [hA1, hA3]
    have HBZ : Hid (busy t = (A1 || A3)) := hbz
    clear hR hst hbk hcl hA1 hA3 hbz
    cases A1
    case true =>
      have hr : R = t := by rw [← HBK.out]; exact back_busy HBZ.out _
      subst hr
      go_wp2_with (go_at_call 53; go_must (refine a1.mono ?_; rintro e w1 ⟨rfl, hq⟩; obtain rfl := hq.symm; clear hq))
      go_end0
      exact ⟨rfl, _, _, HR1.out⟩
    cases A3
    case true =>
      have hr : R = t := by rw [← HBK.out]; exact back_busy HBZ.out _
      subst hr
      go_wp2_with (first
        | (go_at_call 53; have hchk := HS1; refine a3.mono ?_; rintro e w1 ⟨rfl, hq⟩; obtain rfl := hq.symm; clear hq)
        | (go_at_call 53; go_must (refine a1.mono ?_; rintro e w1 ⟨rfl, hq⟩; obtain rfl := hq.symm; clear hq; have HS1 : Hid (0 = 0) := rfl)))
      go_end0
      exact ⟨rfl, _, _, HR1.out⟩
    have hbz : busy t = false := HBZ.out
    obtain ⟨da, dc, hdv, hdc⟩ := HR1.out.done.natCells
    subst hdv
    have c3 := HR1.out.blk.cell 3
    simp at c3
    by_cases h0 : t.done.length = 0
    case pos =>
      have hr : R = setSt t 4 := by rw [← HBK.out, h0]; exact back_zero hbz
      have H9 := HR1.out.putSt 4
      rw [← hr] at H9
      have f5 := HR1.out.blk.fro 5
      rw [h0] at c3
      have HH9 : Hid (RunS S B l a cap g gi gt (.slice da t.done.length dc) rv cv' w0 (wr.setCell ⟨g, 5, none⟩ (.int .i64 4)) R reps) := H9
      clear H9 hr h0 hdc hbz
      go_wp2_with (first
        | (go_at_call 53; have hchk := HS1; refine a3.mono ?_; rintro e w1 ⟨rfl, hq⟩; obtain rfl := hq.symm; clear hq)
        | (go_at_call 53; go_must (refine a1.mono ?_; rintro e w1 ⟨rfl, hq⟩; obtain rfl := hq.symm; clear hq; have HS1 : Hid (0 = 0) := rfl)))
      (try simp only [Exit.inBlock, Exit.then])
      refine bodyPost_ret (results_none rfl _ _ _) rfl ?_
      exact ⟨rfl, _, _, HH9.out⟩
    obtain ⟨m, hm⟩ : ∃ m, t.done.length = m + 1 := ⟨t.done.length - 1, by omega⟩
    have hla := last_at hm
    have hm20 : m < 20 := by have := done_len HR1.out.ok; omega
    obtain ⟨dg, hda, hdB, hdg, hcell⟩ := hdc (by omega)
    subst hda
    have d1 := hcell m (by omega)
    rw [hla] at d1
    rw [hm] at c3
    have hok1 := HR1.out.ok.drop
    have hlin := (HR1.out.ok.dk _ (last_in (s := t) (by omega))).1
    have hlout := HR1.out.ok.last_out (by omega)
    have hdrp := drop_last HR1.out.ok.dn (by omega)
    have hund := back_succ (l := l) hbz m
    rw [← hm, HBK.out] at hund
    have hus : undoS l t (lastOf t) = if (stepOf l (lastOf t)).undo then beg l { t with done := t.done.dropLast } 3 2 (lastOf t) else setIs { t with done := t.done.dropLast } (lastOf t) 4 := rfl
    have hul := undo_len l t (lastOf t)
    have hust := undo_st l t (lastOf t)
    have huc := undo_cmds l t (lastOf t)
    obtain ⟨x, hx⟩ : ∃ x, lastOf t = x := ⟨_, rfl⟩
    rw [hx] at d1 hlin hlout hdrp hund hus hul hust huc
    have HSLEN : Hid (lenIn wr ⟨g, 3, none⟩ = m + 1) := lenIn_eq c3
    have HIN : Hid (x < l.length) := hlin
    have HOUT : Hid (x ∉ t.done.dropLast) := hlout
    have HDRP : Hid (t.done.filter (fun j => !decide (j = x)) = t.done.dropLast) := hdrp
    have HUND : Hid (R = back l m (undoS l t x)) := hund
    have HUS : Hid (undoS l t x = if (stepOf l x).undo then beg l { t with done := t.done.dropLast } 3 2 x else setIs { t with done := t.done.dropLast } x 4) := hus
    have HUL : Hid ((undoS l t x).done = t.done.dropLast) := hul
    have HUST : Hid ((undoS l t x).st = t.st) := hust
    have HUC : Hid ((undoS l t x).cmds.length ≤ t.cmds.length + 1) := huc
    have HM : Hid (t.done.length = m + 1) := hm
    have HOK1 : Hid (Ok l { t with done := t.done.dropLast }) := hok1
    have hxl : (x : Int) < (l.length : Int) := by omega
    have hm1 : ((m + 1 : Nat) : Int) - 1 = (m : Int) := by omega
    clear hla hdc hcell hlin hlout hdrp hund hus hul hust huc hx hm hok1 hbz h0
    go_upto_region 13 with (first
        | (go_at_call 53; have hchk := HS1; refine a3.mono ?_; rintro e w1 ⟨rfl, hq⟩; obtain rfl := hq.symm; clear hq)
        | (go_at_call 53; go_must (refine a1.mono ?_; rintro e w1 ⟨rfl, hq⟩; obtain rfl := hq.symm; clear hq; have HS1 : Hid (0 = 0) := rfl)))
    clear a1 a3
    go_cut [3] from 78 to 90 (fun s3 wx => s3 = .int .i64 (x : Int) ∧ Below wr.heap.size wr wx)
    case first =>
      go_quiet (fail)
      refine meet_then (by assumption) ?_
      go_meet
      exact ⟨rfl, bel_drewN (Below.refl _ _) _⟩
    case rest =>
      obtain ⟨rfl, hbw⟩ := hcut
      obtain ⟨wA, hwA⟩ : ∃ wA, wA = wc := ⟨_, rfl⟩
      subst hwA
      have H1 := HR1.out.go hbw
      have cd := specDrop H1 x
      clear H1 c3 c5 d1 hbw
      go_upto_region 15 with (go_at_call 54; go_must (refine cd.mono ?_; rintro e w2 ⟨rfl, dv2, H2⟩))
      clear cd
      rw [HDRP.out] at H2
      have HH2 : Hid (RunS S B l a cap g gi gt dv2 rv cv' w0 w2 { t with done := t.done.dropLast } reps) := H2
      have hmes : ∀ {dv3 cv3 : Value} {w3 : World} {u : Sg}, RunS S B l a cap g gi gt dv3 rv cv3 w0 w3 u reps → u.done = t.done.dropLast → lenIn w3 ⟨g, 3, none⟩ < lenIn wr ⟨g, 3, none⟩ := fun h3 hu => by
        obtain ⟨ea, ec, hev, -⟩ := h3.done.natCells
        have k3 := h3.blk.cell 3
        simp at k3
        rw [hev] at k3
        rw [lenIn_eq k3, HSLEN.out, hu, List.length_dropLast, HM.out]
        omega
      have HMES : Hid (∀ {dv3 cv3 : Value} {w3 : World} {u : Sg}, RunS S B l a cap g gi gt dv3 rv cv3 w0 w3 u reps → u.done = t.done.dropLast → lenIn w3 ⟨g, 3, none⟩ < lenIn wr ⟨g, 3, none⟩) := hmes
      have hres : ∀ {dv3 cv3 : Value} {w3 : World}, RunS S B l a cap g gi gt dv3 rv cv3 w0 w3 (undoS l t x) reps → ∃ (dv' cv' : Value) (t : Sg), RunS S B l a cap g gi gt dv' rv cv' w0 w3 t reps ∧ t.st = 2 ∧ back l t.done.length t = R ∧ t.cmds.length + t.done.length ≤ 800020 := fun h3 => by
        have hlen : (undoS l t x).done.length = m := by rw [HUL.out, List.length_dropLast, HM.out]; omega
        refine ⟨_, _, _, h3, HUST.out.trans HSTT.out, by rw [hlen]; exact HUND.out.symm, ?_⟩
        have := HUC.out
        have := HCL.out
        have := HM.out
        omega
      have HRES : Hid (∀ {dv3 cv3 : Value} {w3 : World}, RunS S B l a cap g gi gt dv3 rv cv3 w0 w3 (undoS l t x) reps → ∃ (dv' cv' : Value) (t : Sg), RunS S B l a cap g gi gt dv' rv cv' w0 w3 t reps ∧ t.st = 2 ∧ back l t.done.length t = R ∧ t.cmds.length + t.done.length ≤ 800020) := hres
      obtain ⟨b, off, rfl, hbB, hst⟩ := H2.stepCell
      have e2 := (hst x HIN.out).2.1
      have c0 := H2.blk.cell 0
      have c1 := H2.blk.cell 1
      simp at c0 c1
      obtain ⟨d2, d3⟩ := H2.isCell x HIN.out
      have hus := HUS.out
      have hcl2 : t.cmds.length ≤ 900000 := by have := HCL.out; omega
      have HCL2 : Hid (t.cmds.length ≤ 900000) := hcl2
      clear hmes hres hst hcl2
      cases hu : (stepOf l x).undo
      case false =>
        rw [hu] at e2 hus
        rw [if_neg (by simp)] at hus
        have H3 := H2.putIs x 4 (HOK1.out.setIs HIN.out 4 HOUT.out)
        rw [← hus] at H3
        have HH3 : Hid (RunS S B l (some ⟨b, off, none⟩) cap g gi gt dv2 rv cv' w0 (w2.setCell ⟨gi, x, none⟩ (.int .i64 4)) (undoS l t x) reps) := H3
        clear H2 H3 hus hu
        go_wp2_with fail
        exact ⟨HRES.out HH3.out, HMES.out HH3.out HUL.out⟩
      case true =>
        rw [hu] at e2 hus
        rw [if_pos rfl] at hus
        have HUSB : Hid (undoS l t x = cmdS l (setTr (setIs { t with done := t.done.dropLast } x 3) x 1) 2 x) := hus
        have HO1 : Hid (Ok l (setIs { t with done := t.done.dropLast } x 3)) := HOK1.out.setIs HIN.out 3 HOUT.out
        have HO2 : Hid (Ok l (setTr (setIs { t with done := t.done.dropLast } x 3) x 1)) := HO1.out.setTr HIN.out 1 (by omega) (by omega)
        have H3 := H2.putIs x 3 HO1.out
        have HH3 : Hid (RunS S B l (some ⟨b, off, none⟩) cap g gi gt dv2 rv cv' w0 (w2.setCell ⟨gi, x, none⟩ (.int .i64 3)) (setIs { t with done := t.done.dropLast } x 3) reps) := H3
        clear H2 H3 hus hu
        go_upto_region 17 with fail
        obtain ⟨wB, hwB⟩ : ∃ wB, w2.setCell ⟨gi, x, none⟩ (.int .i64 3) = wB := ⟨_, rfl⟩
        rw [hwB] at HH3 ⊢
        clear hwB c0 c1 d2 d3 e2
        have H3 := HH3.out
        have c2 := H3.blk.cell 2
        simp at c2
        obtain ⟨d2, d3⟩ := H3.trCell x HIN.out
        have H4 := H3.putTr x 1 HO2.out
        have HH4 : Hid (RunS S B l (some ⟨b, off, none⟩) cap g gi gt dv2 rv cv' w0 (wB.setCell ⟨gt, x, none⟩ (.int .i64 1)) (setTr (setIs { t with done := t.done.dropLast } x 3) x 1) reps) := H4
        clear H3 H4
        go_upto_region 18 with fail
        obtain ⟨wC, hwC⟩ : ∃ wC, wB.setCell ⟨gt, x, none⟩ (.int .i64 1) = wC := ⟨_, rfl⟩
        rw [hwC] at HH4 ⊢
        clear hwC c2 d2 d3
        have cc := HCM.out HH4.out 2 x HIN.out HCL2.out
        go_wp2_with (go_at_call 36; go_must (refine cc.mono ?_; rintro e w5 ⟨rfl, cv5, H5⟩))
        rw [← HUSB.out] at H5
        exact ⟨HRES.out H5, HMES.out H5 HUL.out⟩
end
end Go.Proofs.YtdheogonghcokaaGreatDoor

namespace Go.Proofs.YtdheogonghcokaaGreatDoor
open Go.ChangeShapes Go.WideShapes Go.ChangeAt Go.RowKit
set_option linter.unusedVariables false
set_option linter.unusedSimpArgs false

/-- One number is appended: where the new row lies. -/
theorem wpList_appendNumAt {ops : Array Oper} {rest : List Oper} {o : Oper} {a : Act} {w : World} {Q : Exit → Act → World → Prop} (hgd : o.guard = none) (s x : Operand)
    (ho : o.op = .call { callee := .builtin .append, args := #[s, x], argTypes := #[42, 42] })
    (B : Nat) (v : Value) (l : List Int) (hs : a.eval s = v) (hown : OwnNums B w v l) {S : Nat → Prop} {b : Nat} (y : Int) (hx : a.eval x = .slice (some ⟨b, 0, none⟩) 1 1) (hsrc : NumsAt S w (.slice (some ⟨b, 0, none⟩) 1 1) [y])
    (hsz : l.length ≤ 1000000) (hB : B ≤ w.heap.size)
    (h : ∀ v' w', OwnNums B w' v' (l ++ [y]) → Below B w w' → w.grownBy w' v.ownBlock → (v'.ownBlock = v.ownBlock ∨ v'.ownBlock = some w.heap.size) → wpList Tryz.prog ops Q rest (a.put o.dst v') w') : wpList Tryz.prog ops Q (o :: rest) a w := by
  obtain ⟨i, hii, hz0, hz1, hz2⟩ := info_of (t := 3) (z := .int .i64 0) (n := 1) (b := 8) (by kernel_rfl)
  refine wpList_append_own_at w hgd s x 42 ho B 3 i (.int .i64 0) 1 8 Tryz.underlying42 hii hz0 hz1 hz2 rfl (by decide) v l.length (NumsRow l) hs hown ⟨b, 0, none⟩ 1 1 (NumsRow [y]) hx (NumsRow_length [y]) hsrc.news (fun u hu => NumsRow_one hu) ?_ ?_ hB ?_
  · unfold maxLen; omega
  · omega
  · intro v' w' h1 h2 h3 h6
    have h4 : OwnNums B w' v' (l ++ [y]) := by
      unfold OwnNums
      rw [NumsRow_append, List.length_append]
      exact h1
    exact h v' w' h4 ((Below.refl _ w).grown h2 hB (OwnNums.block hown)) h2 h6
section
variable {S : Nat → Prop} {B : Nat} {l : List Step} {a : Option Addr} {cap g gi gt : Nat} {dv rv cv : Value} {w0 w : World} {s : Sg} {reps : List Int}
set_option maxRecDepth 100000 in
theorem specStill (h : RunS S B l a cap g gi gt dv rv cv w0 w s reps) (h1 : s.st = 5) :
    Calls Tryz.prog 35 #[.pointer (some ⟨g, 0, none⟩)] w fun e w' => e = .returned (.tuple #[]) ∧ w' = w := by
  have c5 := h.blk.cell 5
  simp at c5
  rw [h1] at c5
  clear h h1
  go_enter Tryz.func35, Tryz.ntmps35
  go_wp2_with fail
  go_loopw [3] (fun i3 wr => wr = w) (fun _ _ => 0)
  case atStart => rfl
  case round =>
    subst hrel
    go_wp2_with fail
    go_end0
    exact ⟨rfl, rfl⟩
theorem specOn (hcm : CommandC 36) (h : RunS S B l a cap g gi gt dv rv cv w0 w s reps) (hc : s.cmds.length ≤ 800000) (hs : s.st = 1 ∨ s.st = 2 ∨ s.st = 5) :
    Calls Tryz.prog 35 #[.pointer (some ⟨g, 0, none⟩)] w fun e w' => e = .returned (.tuple #[]) ∧ ∃ dv' cv', RunS S B l a cap g gi gt dv' rv cv' w0 w' (goOnS l s) reps := by
  rcases hs with hs | hs | hs
  · refine (specFwd hcm h hc hs).mono ?_
    rintro e w' ⟨rfl, cv', h'⟩
    refine ⟨rfl, dv, cv', ?_⟩
    unfold goOnS; rw [if_pos hs]; exact h'
  · refine (specBack hcm h hc hs).mono ?_
    rintro e w' ⟨rfl, dv', cv', h'⟩
    refine ⟨rfl, dv', cv', ?_⟩
    unfold goOnS; rw [if_neg (by omega), if_pos hs]; exact h'
  · refine (specStill h hs).mono ?_
    rintro e w' ⟨rfl, rfl⟩
    refine ⟨rfl, dv, cv, ?_⟩
    unfold goOnS; rw [if_neg (by omega), if_neg (by omega)]; exact h
end
end Go.Proofs.YtdheogonghcokaaGreatDoor

namespace Go.Proofs.YtdheogonghcokaaGreatDoor
open Go.ChangeShapes Go.WideShapes Go.ChangeAt Go.RowKit
set_option linter.unusedVariables false
set_option linter.unusedSimpArgs false

section
variable {S : Nat → Prop} {B : Nat} {l : List Step} {a : Option Addr} {cap g gi gt : Nat} {dv rv cv : Value} {w0 w : World} {s : Sg} {reps : List Int}
/-- What a message is answered, case by case. -/
theorem code_none {m : Msg} (h : findI (names l) m.step < 0) : codeS l s m = 7 ∧ hearS l s m = s := by
  have : codeS l s m = 7 := by unfold codeS; rw [if_pos h]
  exact ⟨this, by unfold hearS; rw [this, if_neg (by omega)]⟩
theorem code_kind {m : Msg} (h : ¬ findI (names l) m.step < 0) (h1 : m.kind < 1 ∨ 4 < m.kind) : codeS l s m = 19 ∧ hearS l s m = s := by
  have : codeS l s m = 19 := by unfold codeS; rw [if_neg h, if_pos h1]
  exact ⟨this, by unfold hearS; rw [this, if_neg (by omega)]⟩
theorem code_over {m : Msg} (h : ¬ findI (names l) m.step < 0) (h1 : ¬ (m.kind < 1 ∨ 4 < m.kind)) (h2 : s.st ≠ 1 ∧ s.st ≠ 2) : codeS l s m = 14 ∧ hearS l s m = s := by
  have : codeS l s m = 14 := by unfold codeS; rw [if_neg h, if_neg h1, if_pos h2]
  exact ⟨this, by unfold hearS; rw [this, if_neg (by omega)]⟩
theorem code_not {m : Msg} (h : ¬ findI (names l) m.step < 0) (h1 : ¬ (m.kind < 1 ∨ 4 < m.kind)) (h2 : ¬ (s.st ≠ 1 ∧ s.st ≠ 2)) (h3 : isAt s (numOf l m.step) ≠ wantI m.kind) : codeS l s m = 14 ∧ hearS l s m = s := by
  have : codeS l s m = 14 := by unfold codeS; rw [if_neg h, if_neg h1, if_neg h2, if_pos h3]
  exact ⟨this, by unfold hearS; rw [this, if_neg (by omega)]⟩
theorem code_fits {m : Msg} (h : ¬ findI (names l) m.step < 0) (h1 : ¬ (m.kind < 1 ∨ 4 < m.kind)) (h2 : ¬ (s.st ≠ 1 ∧ s.st ≠ 2)) (h3 : ¬ isAt s (numOf l m.step) ≠ wantI m.kind) : codeS l s m = 0 ∧ hearS l s m = goOnS l (moveS l s (numOf l m.step) m.kind) := by
  have : codeS l s m = 0 := by unfold codeS; rw [if_neg h, if_neg h1, if_neg h2, if_neg h3]
  exact ⟨this, by unfold hearS; rw [if_pos this]⟩
theorem move_st (l : List Step) {s : Sg} (h : s.st = 1 ∨ s.st = 2) (k : Nat) (kind : Int) : (moveS l s k kind).st = 1 ∨ (moveS l s k kind).st = 2 ∨ (moveS l s k kind).st = 5 := by
  unfold moveS
  split
  · simp only [setIs]; omega
  · split
    · split
      · simp only [again, cmdS, setTr]; omega
      · simp [setSt]
    · split
      · simp only [setIs]; omega
      · split
        · simp only [again, cmdS, setTr]; omega
        · simp [setSt]
theorem move_one (l : List Step) (s : Sg) (k : Nat) : moveS l s k 1 = { setIs s k 2 with done := s.done ++ [k] } := by simp [moveS]
theorem move_two_a {k : Nat} (h : s.st = 1) (hm : moreB l s k = true) : moveS l s k 2 = cmdS l (setTr s k (trAt s k + 1)) 1 k := by simp [moveS, again, h, hm]
theorem move_two_b {k : Nat} (h : ¬ (s.st = 1 ∧ moreB l s k = true)) : moveS l s k 2 = setSt (setIs s k 0) 2 := by
  unfold moveS
  rw [if_neg (by omega), if_pos rfl, if_neg (by simpa using h)]
theorem move_three (l : List Step) (s : Sg) (k : Nat) : moveS l s k 3 = setIs s k 4 := by simp [moveS]
theorem move_four_a {k : Nat} (hm : moreB l s k = true) : moveS l s k 4 = cmdS l (setTr s k (trAt s k + 1)) 2 k := by simp [moveS, again, hm]
theorem move_four_b {k : Nat} (hm : moreB l s k = false) : moveS l s k 4 = setSt s 5 := by simp [moveS, hm]
theorem RunS.apartD (h : RunS S B l a cap g gi gt dv rv cv w0 w s reps) {v : Value} (hat : v.ownBlock = dv.ownBlock ∨ v.ownBlock = some w.heap.size) : Off v gi ∧ Off v gt ∧ (v.ownBlock = none ∨ v.ownBlock ≠ rv.ownBlock) := by
  obtain ⟨cs, hci, _⟩ := h.is
  obtain ⟨ct, hct, _⟩ := h.tr
  have l1 := hci.lt
  have l2 := hct.lt
  rcases hat with e | e
  · unfold Off; rw [e]; exact ⟨h.di.1, h.di.2, h.dr⟩
  · unfold Off; rw [e]
    refine ⟨fun e => by injection e with e; omega, fun e => by injection e with e; omega, .inr fun e => ?_⟩
    have := h.reps.low e.symm
    omega
theorem RunS.apartR (h : RunS S B l a cap g gi gt dv rv cv w0 w s reps) {v : Value} (hat : v.ownBlock = rv.ownBlock ∨ v.ownBlock = some w.heap.size) : Off v gi ∧ Off v gt ∧ (dv.ownBlock = none ∨ dv.ownBlock ≠ v.ownBlock) := by
  obtain ⟨cs, hci, _⟩ := h.is
  obtain ⟨ct, hct, _⟩ := h.tr
  have l1 := hci.lt
  have l2 := hct.lt
  rcases hat with e | e
  · unfold Off; rw [e]; exact ⟨h.ri.1, h.ri.2, h.dr⟩
  · unfold Off; rw [e]
    refine ⟨fun e => by injection e with e; omega, fun e => by injection e with e; omega, .inr fun e => ?_⟩
    have := h.done.low e
    omega
set_option maxRecDepth 100000 in
set_option maxHeartbeats 8000000 in
theorem specMessage (hcm : CommandC 36) (h : RunS S B l a cap g gi gt dv rv cv w0 w s reps) (ms : ByteArray) (mk : Int) (hc : s.cmds.length ≤ 700000) :
    Calls Tryz.prog 19 #[.pointer (some ⟨g, 0, none⟩), .agg #[.string ms, .int .i64 mk]] w fun e w' => e = .returned (.int .i64 (codeS l s ⟨ms, mk⟩)) ∧ ∃ dv' cv', RunS S B l a cap g gi gt dv' rv cv' w0 w' (hearS l s ⟨ms, mk⟩) reps := by
  have hl : l.length ≤ 20 := h.saga.len.2
  have hl' : (l.length : Int) ≤ 20 := by omega
  have hA : Below w.heap.size w (w.alloc (.cells #[.string ms, .int .i64 mk] 50)) := (Below.refl _ w).alloc (Nat.le_refl _) _
  have kb : Blk (w.alloc (.cells #[.string ms, .int .i64 mk] 50)) w.heap.size 50 #[.string ms, .int .i64 mk] := heap_alloc_new w _
  have HRA := h.go hA
  have HCM : Hid (CommandC 36) := hcm
  have HC : Hid (s.cmds.length ≤ 700000) := hc
  obtain ⟨bx, hbx⟩ : ∃ bx, w.heap.size = bx := ⟨_, rfl⟩
  obtain ⟨C, hC⟩ : ∃ C, codeS l s ⟨ms, mk⟩ = C := ⟨_, rfl⟩
  obtain ⟨R, hR⟩ : ∃ R, hearS l s ⟨ms, mk⟩ = R := ⟨_, rfl⟩
  rw [hC, hR]
  have HCC : Hid (codeS l s ⟨ms, mk⟩ = C) := hC
  have HRC : Hid (hearS l s ⟨ms, mk⟩ = R) := hR
  clear h hc hcm hA hC hR
  go_enter Tryz.func19, Tryz.ntmps19
  go_upto_region 1 with fail
  obtain ⟨wa, hwa⟩ : ∃ wa, w.alloc (.cells #[.string ms, .int .i64 mk] 50) = wa := ⟨_, rfl⟩
  rw [hwa] at HRA kb ⊢
  rw [hbx] at kb
  clear hwa hbx
  have cf := fun W (hW : Below wa.heap.size wa W) => HRA.findC ms hW
  have p0 := fun N : GoodW (fun W => Below wa.heap.size wa W) => (HRA.go N.ok).blk.cell 0
  have pm := fun N : GoodW (fun W => Below wa.heap.size wa W) => (Blk.below kb N.ok).cell 0
  simp at p0 pm
  haveI ne : Nonempty (GoodW (fun W => Below wa.heap.size wa W)) := ⟨⟨_, Below.refl _ _⟩⟩
  have HKB : Hid (Blk wa bx 50 #[.string ms, .int .i64 mk]) := kb
  have HR1 : Hid (RunS S B l a cap g gi gt dv rv cv w0 wa s reps) := HRA
  clear kb HRA
  by_cases hneg : findI (names l) ms < 0
  case pos =>
    obtain ⟨e1, e2⟩ := code_none (l := l) (s := s) (m := ⟨ms, mk⟩) hneg
    rw [HCC.out] at e1
    rw [HRC.out] at e2
    subst e1
    subst e2
    clear HCC HRC
    obtain ⟨fi, hfi⟩ : ∃ fi, findI (names l) ms = fi := ⟨_, rfl⟩
    rw [hfi] at hneg
    simp only [hfi] at cf
    clear hfi
    refine wp_region_calm (fun W => Below wa.heap.size wa W) (by kernel_rfl) (by kernel_rfl) (Below.refl _ _).drew ?_
    repeat (go_big_quiet_step ((go_at_call 17; exact Calls.calm_same _ ((cf _ (GoodW.ok _)).mono fun _ _ ⟨h1, h2⟩ => ⟨h1, h2.symm⟩))))
    refine wpQuiet_nil ?_
    rintro W2 ⟨⟨W3, hW3⟩, hWe⟩
    have hW2 : Below wa.heap.size wa W2 := hWe ▸ hW3
    clear hWe hW3
    clear cf p0 pm
    go_wp2_with fail
    go_ret
    exact ⟨rfl, dv, cv, HR1.out.go hW2⟩
  case neg =>
    obtain ⟨hjl, hj⟩ := find_lt (Int.not_lt.1 hneg)
    have K1 := code_kind (l := l) (s := s) (m := ⟨ms, mk⟩) hneg
    have K2 := code_over (l := l) (s := s) (m := ⟨ms, mk⟩) hneg
    have K3 := code_not (l := l) (s := s) (m := ⟨ms, mk⟩) hneg
    have K4 := code_fits (l := l) (s := s) (m := ⟨ms, mk⟩) hneg
    rw [HCC.out, HRC.out] at K1 K2 K3 K4
    clear HCC HRC hneg
    dsimp only at K1 K2 K3 K4
    simp only [← hj] at cf
    obtain ⟨j, hjj⟩ : ∃ j, numOf l ms = j := ⟨_, rfl⟩
    rw [hjj] at hjl K3 K4
    simp only [hjj] at cf
    clear hj hjj
    have hjl' : (j : Int) < (l.length : Int) := by omega
    refine wp_region_calm (fun W => Below wa.heap.size wa W) (by kernel_rfl) (by kernel_rfl) (Below.refl _ _).drew ?_
    repeat (go_big_quiet_step ((go_at_call 17; exact Calls.calm_same _ ((cf _ (GoodW.ok _)).mono fun _ _ ⟨h1, h2⟩ => ⟨h1, h2.symm⟩))))
    refine wpQuiet_nil ?_
    rintro W2 ⟨⟨W3, hW3⟩, hWe⟩
    have hW2 : Below wa.heap.size wa W2 := hWe ▸ hW3
    clear hWe hW3
    clear cf p0 pm
    have H2 := HR1.out.go hW2
    have k1 := (Blk.below HKB.out hW2).cell 1
    simp at k1
    have HR2 : Hid (RunS S B l a cap g gi gt dv rv cv w0 W2 s reps) := H2
    have HKB2 : Hid (Blk W2 bx 50 #[.string ms, .int .i64 mk]) := Blk.below HKB.out hW2
    clear HR1 HKB ne hW2
    have c5 := H2.blk.cell 5
    have c1 := H2.blk.cell 1
    simp at c5 c1
    have d1 := (H2.isCell j hjl).1
    by_cases hm1 : mk < 1
    case pos =>
      obtain ⟨rfl, rfl⟩ := K1 (.inl hm1)
      clear K1 K2 K3 K4 H2
      go_wp2_with fail
      go_ret
      exact ⟨rfl, dv, cv, HR2.out⟩
    by_cases hm4 : mk > 4
    case pos =>
      obtain ⟨rfl, rfl⟩ := K1 (.inr hm4)
      clear K1 K2 K3 K4 H2
      go_wp2_with fail
      go_ret
      exact ⟨rfl, dv, cv, HR2.out⟩
    have hmm : ¬ (mk < 1 ∨ 4 < mk) := by omega
    have K2' := K2 hmm
    have K3' := K3 hmm
    have K4' := K4 hmm
    clear K1 K2 K3 K4
    obtain ⟨st, hst⟩ : ∃ st, s.st = st := ⟨_, rfl⟩
    rw [hst] at c5 K2' K3' K4'
    have HST : Hid (s.st = st) := hst
    clear hst hmm
    by_cases hs1 : st = 1 ∨ st = 2
    case neg =>
      obtain ⟨rfl, rfl⟩ := K2' (by omega)
      have s1 : (st == 1) = false := by simp; omega
      have s2 : (st != 2) = true := by simp; omega
      clear K2' K3' K4' H2 hs1
      go_wp2_with fail
      go_ret
      exact ⟨rfl, dv, cv, HR2.out⟩
    have K3 := K3' (by omega)
    have K4 := K4' (by omega)
    clear K2' K3' K4'
    obtain ⟨iv, hiv⟩ : ∃ iv, isAt s j = iv := ⟨_, rfl⟩
    rw [hiv] at d1 K3 K4
    have HIV : Hid (isAt s j = iv) := hiv
    clear hiv
    have hmk : mk = 1 ∨ mk = 2 ∨ mk = 3 ∨ mk = 4 := by omega
    by_cases hne : iv = wantI mk
    case neg =>
      obtain ⟨rfl, rfl⟩ := K3 hne
      clear K3 K4 H2
      rcases hs1 with rfl | rfl <;> rcases hmk with rfl | rfl | rfl | rfl <;> simp only [wantI] at hne <;> simp at hne
      all_goals
        go_wp2_with fail
        go_ret
        exact ⟨rfl, dv, cv, HR2.out⟩
    obtain ⟨rfl, hRR⟩ := K4 (by rw [hne]; simp)
    have HRR : Hid (R = goOnS l (moveS l s j mk)) := hRR
    have hin2 : iv ≠ 2 := by rw [hne]; unfold wantI; split <;> omega
    have HNO : Hid (j ∉ s.done) := H2.ok.not (by rw [HIV.out]; exact hin2)
    have HOM : Hid (Ok l (moveS l s j mk)) := H2.ok.move H2.saga.tries hjl mk (by rw [HIV.out]; exact hin2)
    have HMS : Hid ((moveS l s j mk).st = 1 ∨ (moveS l s j mk).st = 2 ∨ (moveS l s j mk).st = 5) := move_st l (by rw [HST.out]; exact hs1) j mk
    have HMC : Hid ((moveS l s j mk).cmds.length ≤ 800000) := by have := move_cmds l s j mk; have := HC.out; show _ ≤ _; omega
    clear K3 K4 hRR hin2
    obtain ⟨b, off, rfl, hbB, hstc⟩ := H2.stepCell
    have d3 := (hstc j hjl).2.2.1
    have c0 := H2.blk.cell 0
    have c2 := H2.blk.cell 2
    simp at c0 c2
    have d2 := (H2.trCell j hjl).1
    have tb := H2.ok.tb j
    obtain ⟨tt, htt⟩ : ∃ tt, trAt s j = tt := ⟨_, rfl⟩
    obtain ⟨ti, hti⟩ : ∃ ti, (stepOf l j).tries = ti := ⟨_, rfl⟩
    have hmore : moreB l s j = decide (tt < ti) := by unfold moreB; rw [htt, hti]
    rw [htt] at d2 tb
    rw [hti] at d3
    have HTT : Hid (trAt s j = tt) := htt
    have HTI0 : Hid (tt < ti → tt < (stepOf l j).tries) := fun h => by rw [hti]; exact h
    have HMORE : Hid (moreB l s j = decide (tt < ti)) := hmore
    clear hstc htt hti hmore H2
    rcases hmk with rfl | rfl | rfl | rfl <;> simp only [wantI] at hne <;> simp at hne <;> subst hne
    case inl =>
      rcases hs1 with rfl | rfl
      all_goals
        go_upto_region 14 with fail
        go_cut [8] from 54 to 69 (fun s8 wx => s8 = .bool (decide (tt < ti)) ∧ Below W2.heap.size W2 wx)
        case first =>
          go_quiet (fail)
          refine meet_then (by assumption) ?_
          go_meet
          exact ⟨rfl, bel_drewN (Below.refl _ _) _⟩
        case rest =>
          obtain ⟨rfl, hbw⟩ := hcut
          obtain ⟨wA, hwA⟩ : ∃ wA, wA = wc := ⟨_, rfl⟩
          subst hwA
          have H3 := HR2.out.go hbw
          clear k1 HR2 c0 c1 c2 c5 d1 d2 d3
          have k1 := (Blk.below HKB2.out hbw).cell 1
          have c1 := H3.blk.cell 1
          have c2 := H3.blk.cell 2
          have c3 := H3.blk.cell 3
          have c5 := H3.blk.cell 5
          have f5 := H3.blk.fro 5
          simp at k1 c1 c2 c3 c5
          rw [HST.out] at c5
          obtain ⟨d1, f1⟩ := H3.isCell j hjl
          obtain ⟨d2, f2⟩ := H3.trCell j hjl
          rw [HIV.out] at d1
          rw [HTT.out] at d2
          clear hbw
          have H4 := H3.putIs j 2 (H3.ok.setIs hjl 2 HNO.out)
          have HH4 : Hid (RunS S B l (some ⟨b, off, none⟩) cap g gi gt dv rv cv w0 (wA.setCell ⟨gi, j, none⟩ (.int .i64 2)) (setIs s j 2) reps) := H4
          clear H3 H4
          go_upto_region 22 with fail
          obtain ⟨wB, hwB⟩ : ∃ wB, wA.setCell ⟨gi, j, none⟩ (.int .i64 2) = wB := ⟨_, rfl⟩
          rw [hwB] at HH4 ⊢
          clear hwB k1 c1 c2 c3 c5 d1 d2 f1 f2 f5
          have hdl := done_len HH4.out.ok
          have hwb : Below wB.heap.size wB (wB.alloc (.cells #[.int .i64 (j : Int)] 3)) := (Below.refl _ wB).alloc (Nat.le_refl _) _
          have hsB := HH4.out.size
          obtain ⟨da, dc, hdv, -⟩ := HH4.out.done.natCells
          have c3 := HH4.out.blk.cell 3
          simp at c3
          rw [hdv] at c3
          have H5 := HH4.out.go hwb
          go_upto_region 31 with (at_builtin; go_must (refine wpList_appendNumAt rfl (.tmp 101) (.tmp 103) rfl B dv (nums s.done) (by simp [Act.eval, hdv]) H5.done (j : Int) rfl (NumsAt.newAt _ (j : Int) _ (by simp)) (by rw [nums_len]; have : s.done.length ≤ l.length := hdl; omega) H5.size ?_; intro v9 w9 hown9 hB9 hgr9 hat9; obtain ⟨a9, c9, e9, -⟩ := hown9.value; obtain ⟨n9, hn9⟩ : ∃ n9, (nums s.done ++ [(j : Int)]).length = n9 := ⟨_, rfl⟩; rw [hn9] at e9; clear hn9; subst e9; have hown8 : OwnNums B w9 (.slice a9 n9 c9) (nums (s.done ++ [j])) := (by rw [nums_append]; exact hown9); obtain ⟨hbk, H6⟩ := H5.growD hown8 hB9 hgr9 (H5.apartD hat9) (by have := HOM.out; rw [move_one] at this; exact this); have g3 := hbk.cell 3; have f3 := hbk.fro 3; simp at g3; rw [hdv] at g3))
          have HM : Hid (RunS S B l (some ⟨b, off, none⟩) cap g gi gt (.slice a9 n9 c9) rv cv w0 (w9.setCell ⟨g, 3, none⟩ (.slice a9 n9 c9)) (moveS l s j 1) reps) := by rw [move_one]; exact H6
          clear H5 H6 HH4 hbk g3 f3 c3 hown8 hown9 hB9 hgr9 hat9 hwb
          have co := specOn HCM.out HM.out HMC.out HMS.out
          go_wp2_with (go_at_call 35; go_must (refine co.mono ?_; rintro e w8 ⟨rfl, dv8, cv8, H8⟩))
          go_ret
          refine ⟨rfl, dv8, cv8, ?_⟩
          rw [HRR.out]; exact H8
    case inr.inl =>
      rcases hs1 with rfl | rfl
      · go_upto_region 14 with fail
        go_cut [8] from 54 to 69 (fun s8 wx => s8 = .bool (decide (tt < ti)) ∧ Below W2.heap.size W2 wx)
        case first =>
          go_quiet (fail)
          refine meet_then (by assumption) ?_
          go_meet
          exact ⟨rfl, bel_drewN (Below.refl _ _) _⟩
        case rest =>
          obtain ⟨rfl, hbw⟩ := hcut
          obtain ⟨wA, hwA⟩ : ∃ wA, wA = wc := ⟨_, rfl⟩
          subst hwA
          have H3 := HR2.out.go hbw
          clear k1 HR2 c0 c1 c2 c5 d1 d2 d3
          have k1 := (Blk.below HKB2.out hbw).cell 1
          have c1 := H3.blk.cell 1
          have c2 := H3.blk.cell 2
          have c3 := H3.blk.cell 3
          have c5 := H3.blk.cell 5
          have f5 := H3.blk.fro 5
          simp at k1 c1 c2 c3 c5
          rw [HST.out] at c5
          obtain ⟨d1, f1⟩ := H3.isCell j hjl
          obtain ⟨d2, f2⟩ := H3.trCell j hjl
          rw [HIV.out] at d1
          rw [HTT.out] at d2
          clear hbw
          by_cases hmo : tt < ti
          · have HTI : Hid (tt < (stepOf l j).tries) := HTI0.out hmo
            have htr : 0 ≤ tt + 1 ∧ tt + 1 ≤ 5 := by
              have h5 := H3.saga.tries j hjl
              rw [← stepOf_eq hjl] at h5
              have := HTI.out
              omega
            have H4 := H3.putTr j (tt + 1) (H3.ok.setTr hjl (tt + 1) htr.1 htr.2)
            have HH4 : Hid (RunS S B l (some ⟨b, off, none⟩) cap g gi gt dv rv cv w0 (wA.setCell ⟨gt, j, none⟩ (.int .i64 (tt + 1))) (setTr s j (tt + 1)) reps) := H4
            clear H3 H4
            go_upto_region 26 with fail
            obtain ⟨wB, hwB⟩ : ∃ wB, wA.setCell ⟨gt, j, none⟩ (.int .i64 (tt + 1)) = wB := ⟨_, rfl⟩
            rw [hwB] at HH4 ⊢
            clear hwB k1 c1 c2 c3 c5 d1 d2 f1 f2 f5
            have cc := HCM.out HH4.out 1 j hjl (by have := HC.out; show s.cmds.length ≤ _; omega)
            go_upto_region 31 with (go_at_call 36; go_must (refine cc.mono ?_; rintro e w5 ⟨rfl, cv5, H5⟩))
            have HM : Hid (RunS S B l (some ⟨b, off, none⟩) cap g gi gt dv rv cv5 w0 w5 (moveS l s j 2) reps) := by rw [move_two_a HST.out (by rw [HMORE.out]; exact decide_eq_true hmo), HTT.out]; exact H5
            clear H5 HH4 cc
            have co := specOn HCM.out HM.out HMC.out HMS.out
            go_wp2_with (go_at_call 35; go_must (refine co.mono ?_; rintro e w8 ⟨rfl, dv8, cv8, H8⟩))
            go_ret
            refine ⟨rfl, dv8, cv8, ?_⟩
            rw [HRR.out]; exact H8
          · have HB : Hid (¬ (s.st = 1 ∧ moreB l s j = true)) := fun h => by rw [HMORE.out] at h; exact hmo (of_decide_eq_true h.2)
            have H4 := H3.putIs j 0 (H3.ok.setIs hjl 0 HNO.out)
            have HH4 : Hid (RunS S B l (some ⟨b, off, none⟩) cap g gi gt dv rv cv w0 (wA.setCell ⟨gi, j, none⟩ (.int .i64 0)) (setIs s j 0) reps) := H4
            clear H3 H4
            go_upto_region 28 with fail
            obtain ⟨wB, hwB⟩ : ∃ wB, wA.setCell ⟨gi, j, none⟩ (.int .i64 0) = wB := ⟨_, rfl⟩
            rw [hwB] at HH4 ⊢
            clear hwB k1 c1 c2 c3 c5 d1 d2 f1 f2 f5
            have c5 := HH4.out.blk.cell 5
            have f5 := HH4.out.blk.fro 5
            simp at c5
            have H5 := HH4.out.putSt 2
            rw [← move_two_b (l := l) HB.out] at H5
            have HM : Hid (RunS S B l (some ⟨b, off, none⟩) cap g gi gt dv rv cv w0 (wB.setCell ⟨g, 5, none⟩ (.int .i64 2)) (moveS l s j 2) reps) := H5
            clear H5 HH4
            have co := specOn HCM.out HM.out HMC.out HMS.out
            go_wp2_with (go_at_call 35; go_must (refine co.mono ?_; rintro e w8 ⟨rfl, dv8, cv8, H8⟩))
            go_ret
            refine ⟨rfl, dv8, cv8, ?_⟩
            rw [HRR.out]; exact H8
      · go_upto_region 14 with fail
        go_cut [8] from 54 to 69 (fun s8 wx => s8 = .bool (decide (tt < ti)) ∧ Below W2.heap.size W2 wx)
        case first =>
          go_quiet (fail)
          refine meet_then (by assumption) ?_
          go_meet
          exact ⟨rfl, bel_drewN (Below.refl _ _) _⟩
        case rest =>
          obtain ⟨rfl, hbw⟩ := hcut
          obtain ⟨wA, hwA⟩ : ∃ wA, wA = wc := ⟨_, rfl⟩
          subst hwA
          have H3 := HR2.out.go hbw
          clear k1 HR2 c0 c1 c2 c5 d1 d2 d3
          have k1 := (Blk.below HKB2.out hbw).cell 1
          have c1 := H3.blk.cell 1
          have c2 := H3.blk.cell 2
          have c3 := H3.blk.cell 3
          have c5 := H3.blk.cell 5
          have f5 := H3.blk.fro 5
          simp at k1 c1 c2 c3 c5
          rw [HST.out] at c5
          obtain ⟨d1, f1⟩ := H3.isCell j hjl
          obtain ⟨d2, f2⟩ := H3.trCell j hjl
          rw [HIV.out] at d1
          rw [HTT.out] at d2
          clear hbw
          have HB : Hid (¬ (s.st = 1 ∧ moreB l s j = true)) := fun h => by have := HST.out; omega
          by_cases hmo : tt < ti
          all_goals
            have H4 := H3.putIs j 0 (H3.ok.setIs hjl 0 HNO.out)
            have HH4 : Hid (RunS S B l (some ⟨b, off, none⟩) cap g gi gt dv rv cv w0 (wA.setCell ⟨gi, j, none⟩ (.int .i64 0)) (setIs s j 0) reps) := H4
            clear H3 H4
            go_upto_region 28 with fail
            obtain ⟨wB, hwB⟩ : ∃ wB, wA.setCell ⟨gi, j, none⟩ (.int .i64 0) = wB := ⟨_, rfl⟩
            rw [hwB] at HH4 ⊢
            clear hwB k1 c1 c2 c3 c5 d1 d2 f1 f2 f5
            have c5 := HH4.out.blk.cell 5
            have f5 := HH4.out.blk.fro 5
            simp at c5
            have H5 := HH4.out.putSt 2
            rw [← move_two_b (l := l) HB.out] at H5
            have HM : Hid (RunS S B l (some ⟨b, off, none⟩) cap g gi gt dv rv cv w0 (wB.setCell ⟨g, 5, none⟩ (.int .i64 2)) (moveS l s j 2) reps) := H5
            clear H5 HH4
            have co := specOn HCM.out HM.out HMC.out HMS.out
            go_wp2_with (go_at_call 35; go_must (refine co.mono ?_; rintro e w8 ⟨rfl, dv8, cv8, H8⟩))
            go_ret
            refine ⟨rfl, dv8, cv8, ?_⟩
            rw [HRR.out]; exact H8
    case inr.inr.inl =>
      rcases hs1 with rfl | rfl
      all_goals
        go_upto_region 14 with fail
        go_cut [8] from 54 to 69 (fun s8 wx => s8 = .bool (decide (tt < ti)) ∧ Below W2.heap.size W2 wx)
        case first =>
          go_quiet (fail)
          refine meet_then (by assumption) ?_
          go_meet
          exact ⟨rfl, bel_drewN (Below.refl _ _) _⟩
        case rest =>
          obtain ⟨rfl, hbw⟩ := hcut
          obtain ⟨wA, hwA⟩ : ∃ wA, wA = wc := ⟨_, rfl⟩
          subst hwA
          have H3 := HR2.out.go hbw
          clear k1 HR2 c0 c1 c2 c5 d1 d2 d3
          have k1 := (Blk.below HKB2.out hbw).cell 1
          have c1 := H3.blk.cell 1
          have c2 := H3.blk.cell 2
          have c3 := H3.blk.cell 3
          have c5 := H3.blk.cell 5
          have f5 := H3.blk.fro 5
          simp at k1 c1 c2 c3 c5
          rw [HST.out] at c5
          obtain ⟨d1, f1⟩ := H3.isCell j hjl
          obtain ⟨d2, f2⟩ := H3.trCell j hjl
          rw [HIV.out] at d1
          rw [HTT.out] at d2
          clear hbw
          have H4 := H3.putIs j 4 (H3.ok.setIs hjl 4 HNO.out)
          rw [← move_three l s j] at H4
          have HM : Hid (RunS S B l (some ⟨b, off, none⟩) cap g gi gt dv rv cv w0 (wA.setCell ⟨gi, j, none⟩ (.int .i64 4)) (moveS l s j 3) reps) := H4
          clear H3 H4
          have co := specOn HCM.out HM.out HMC.out HMS.out
          go_wp2_with (go_at_call 35; go_must (refine co.mono ?_; rintro e w8 ⟨rfl, dv8, cv8, H8⟩))
          go_ret
          refine ⟨rfl, dv8, cv8, ?_⟩
          rw [HRR.out]; exact H8
    case inr.inr.inr =>
      rcases hs1 with rfl | rfl
      all_goals
        go_upto_region 14 with fail
        go_cut [8] from 54 to 69 (fun s8 wx => s8 = .bool (decide (tt < ti)) ∧ Below W2.heap.size W2 wx)
        case first =>
          go_quiet (fail)
          refine meet_then (by assumption) ?_
          go_meet
          exact ⟨rfl, bel_drewN (Below.refl _ _) _⟩
        case rest =>
          obtain ⟨rfl, hbw⟩ := hcut
          obtain ⟨wA, hwA⟩ : ∃ wA, wA = wc := ⟨_, rfl⟩
          subst hwA
          have H3 := HR2.out.go hbw
          clear k1 HR2 c0 c1 c2 c5 d1 d2 d3
          have k1 := (Blk.below HKB2.out hbw).cell 1
          have c1 := H3.blk.cell 1
          have c2 := H3.blk.cell 2
          have c3 := H3.blk.cell 3
          have c5 := H3.blk.cell 5
          have f5 := H3.blk.fro 5
          simp at k1 c1 c2 c3 c5
          rw [HST.out] at c5
          obtain ⟨d1, f1⟩ := H3.isCell j hjl
          obtain ⟨d2, f2⟩ := H3.trCell j hjl
          rw [HIV.out] at d1
          rw [HTT.out] at d2
          clear hbw
          by_cases hmo : tt < ti
          · have HTI : Hid (tt < (stepOf l j).tries) := HTI0.out hmo
            have htr : 0 ≤ tt + 1 ∧ tt + 1 ≤ 5 := by
              have h5 := H3.saga.tries j hjl
              rw [← stepOf_eq hjl] at h5
              have := HTI.out
              omega
            have H4 := H3.putTr j (tt + 1) (H3.ok.setTr hjl (tt + 1) htr.1 htr.2)
            have HH4 : Hid (RunS S B l (some ⟨b, off, none⟩) cap g gi gt dv rv cv w0 (wA.setCell ⟨gt, j, none⟩ (.int .i64 (tt + 1))) (setTr s j (tt + 1)) reps) := H4
            clear H3 H4
            go_upto_region 18 with fail
            obtain ⟨wB, hwB⟩ : ∃ wB, wA.setCell ⟨gt, j, none⟩ (.int .i64 (tt + 1)) = wB := ⟨_, rfl⟩
            rw [hwB] at HH4 ⊢
            clear hwB k1 c1 c2 c3 c5 d1 d2 f1 f2 f5
            have cc := HCM.out HH4.out 2 j hjl (by have := HC.out; show s.cmds.length ≤ _; omega)
            go_upto_region 31 with (go_at_call 36; go_must (refine cc.mono ?_; rintro e w5 ⟨rfl, cv5, H5⟩))
            have HM : Hid (RunS S B l (some ⟨b, off, none⟩) cap g gi gt dv rv cv5 w0 w5 (moveS l s j 4) reps) := by rw [move_four_a (by rw [HMORE.out]; exact decide_eq_true hmo), HTT.out]; exact H5
            clear H5 HH4 cc
            have co := specOn HCM.out HM.out HMC.out HMS.out
            go_wp2_with (go_at_call 35; go_must (refine co.mono ?_; rintro e w8 ⟨rfl, dv8, cv8, H8⟩))
            go_ret
            refine ⟨rfl, dv8, cv8, ?_⟩
            rw [HRR.out]; exact H8
          · have H4 := H3.putSt 5
            rw [← move_four_b (l := l) (k := j) (by rw [HMORE.out]; exact decide_eq_false hmo)] at H4
            have HM : Hid (RunS S B l (some ⟨b, off, none⟩) cap g gi gt dv rv cv w0 (wA.setCell ⟨g, 5, none⟩ (.int .i64 5)) (moveS l s j 4) reps) := H4
            clear H3 H4
            have co := specOn HCM.out HM.out HMC.out HMS.out
            go_wp2_with (go_at_call 35; go_must (refine co.mono ?_; rintro e w8 ⟨rfl, dv8, cv8, H8⟩))
            go_ret
            refine ⟨rfl, dv8, cv8, ?_⟩
            rw [HRR.out]; exact H8
end
end Go.Proofs.YtdheogonghcokaaGreatDoor

namespace Go.Proofs.YtdheogonghcokaaGreatDoor
open Go.ChangeShapes Go.WideShapes Go.ChangeAt Go.RowKit
set_option linter.unusedVariables false
set_option linter.unusedSimpArgs false

/-- A row of zeros is made. -/
theorem made_zeros (n : Nat) (hn : n ≤ 20) : ∃ zc : Array Value, IntsAt zc (List.replicate n 0) ∧ ∀ w, (Instr.makeSlice 42 (.int .i64 (n : Int)) (.int .i64 (n : Int))).run Tryz.prog w = .ok (.slice (some ⟨w.heap.size, 0, none⟩) n n) (w.alloc (.cells zc 3)) := by
  refine ⟨madeCells #[.int .i64 0] n, ⟨by simp [size_madeCells], fun i hi => ?_⟩, fun w => run_make_row' 42 3 (.int .i64 0) 8 Tryz.underlying42 (by kernel_rfl) rfl .i64 .i64 n (by omega) (by omega) w⟩
  have hi' : i < n := by simpa using hi
  rw [← Array.getElem?_toList, toList_madeCells_one, List.getElem?_replicate, if_pos hi', List.getElem_replicate]
/-- Three blocks are made. -/
theorem three (w : World) (zc cs : Array Value) : Blk ((((w.alloc (.cells zc 3)).alloc (.cells zc 3)).alloc (.cells cs 47)).drew) w.heap.size 3 zc ∧ Blk ((((w.alloc (.cells zc 3)).alloc (.cells zc 3)).alloc (.cells cs 47)).drew) (w.heap.size + 1) 3 zc ∧ Blk ((((w.alloc (.cells zc 3)).alloc (.cells zc 3)).alloc (.cells cs 47)).drew) (w.heap.size + 1 + 1) 47 cs ∧ Below w.heap.size w ((((w.alloc (.cells zc 3)).alloc (.cells zc 3)).alloc (.cells cs 47)).drew) := by
  have h0 : Blk (w.alloc (.cells zc 3)) w.heap.size 3 zc := heap_alloc_new w _
  have h1 := h0.below ((Below.refl _ _).alloc (Nat.le_refl _) (.cells zc 3))
  have h2 := h1.below ((Below.refl _ _).alloc (Nat.le_refl _) (.cells cs 47))
  exact ⟨h2, last3 w _ _ _, last3' w _ _ _, (bel3 w _ _ _).drew⟩
section
variable {S : Nat → Prop} {B : Nat} {l : List Step} {a : Option Addr} {cap : Nat} {w : World}
/-- A run that begins. -/
theorem RunS.start {wz : World} {g gi gt : Nat} {ci ct : Array Value} (h : SagaIn S w.heap.size w a cap l) (hb : Below w.heap.size w wz) (hg : Blk wz g 47 #[.slice a l.length cap, .slice (some ⟨gi, 0, none⟩) l.length l.length, .slice (some ⟨gt, 0, none⟩) l.length l.length, .slice none 0 0, .int .i64 0, .int .i64 1, .slice none 0 0, .slice none 0 0, .slice none 0 0])
    (hi : Blk wz gi 3 ci) (ht : Blk wz gt 3 ct) (hzi : IntsAt ci (List.replicate l.length 0)) (hzt : IntsAt ct (List.replicate l.length 0)) (hlow : w.heap.size ≤ g ∧ w.heap.size ≤ gi ∧ w.heap.size ≤ gt) (hne : gi ≠ gt) :
    RunS S w.heap.size l a cap g gi gt (.slice none 0 0) (.slice none 0 0) (.slice none 0 0) w wz (zeroS l) [] :=
  ⟨h.below hb (Nat.le_refl _), hg, ⟨ci, hi, hzi⟩, ⟨ct, ht, hzt⟩, OwnNums.nil _ _, OwnNums.nil _ _, OwnCmds.nil _ _, hlow, hne, ⟨by simp [Off, Value.ownBlock], by simp [Off, Value.ownBlock]⟩, ⟨by simp [Off, Value.ownBlock], by simp [Off, Value.ownBlock]⟩, .inl rfl, Ok.zero l, Nat.le_refl _, hb⟩
set_option maxRecDepth 100000 in
set_option maxHeartbeats 4000000 in
theorem specBegin (hcm : CommandC 36) (h : SagaIn S w.heap.size w a cap l) :
    Calls Tryz.prog 18 #[.slice a l.length cap] w fun e w' => ∃ g gi gt dv cv, e = .returned (.pointer (some ⟨g, 0, none⟩)) ∧ RunS S w.heap.size l a cap g gi gt dv (.slice none 0 0) cv w w' (beginS l) [] := by
  have hl : l.length ≤ 20 := h.len.2
  have hl' : (l.length : Int) ≤ 20 := by omega
  have HS : Hid (SagaIn S w.heap.size w a cap l) := h
  have HCM : Hid (CommandC 36) := hcm
  obtain ⟨zc, hzc, hmk⟩ := made_zeros l.length hl
  have HZC : Hid (IntsAt zc (List.replicate l.length 0)) := hzc
  clear h hcm hzc
  go_enter Tryz.func18, Tryz.ntmps18
  go_upto_region 1 with fail
  go_cut [3] from 4 to 12 (fun s3 wx => ∃ g gi gt, s3 = .pointer (some ⟨g, 0, none⟩) ∧ Blk wx g 47 #[.slice a l.length cap, .slice (some ⟨gi, 0, none⟩) l.length l.length, .slice (some ⟨gt, 0, none⟩) l.length l.length, .slice none 0 0, .int .i64 0, .int .i64 0, .slice none 0 0, .slice none 0 0, .slice none 0 0] ∧ Blk wx gi 3 zc ∧ Blk wx gt 3 zc ∧ (w.heap.size ≤ g ∧ w.heap.size ≤ gi ∧ w.heap.size ≤ gt) ∧ gi ≠ gt ∧ Below w.heap.size w wx)
  case first =>
    go_region
    · refine meet_then (by assumption) ?_
      go_meet
      exact ⟨_, _, _, rfl, (three w zc _).2.2.1, (three w zc _).1, (three w zc _).2.1, by omega, by omega, (three w zc _).2.2.2⟩
    · refine meet_then (by assumption) ?_
      go_meet
      exact ⟨_, _, _, rfl, (three w zc _).2.2.1, (three w zc _).2.1, (three w zc _).1, by omega, by omega, (three w zc _).2.2.2⟩
  case rest =>
    obtain ⟨g, gi, gt, rfl, hg, hgi, hgt, hlow, hne, hb⟩ := hcut
    obtain ⟨wA, hwA⟩ : ∃ wA, wA = wc := ⟨_, rfl⟩
    subst hwA
    have c5 := hg.cell 5
    have f5 := hg.fro 5
    simp at c5
    have n1 := Blk.apart hgi hg (by decide)
    have n2 := Blk.apart hgt hg (by decide)
    have H1 := RunS.start HS.out (hb.setCell (p := ⟨g, 5, none⟩) hlow.1 (.int .i64 1)) (hg.set 5 (.int .i64 1)) (hgi.other n1 5 _) (hgt.other n2 5 _) HZC.out HZC.out hlow hne
    have HH1 : Hid (RunS S w.heap.size l a cap g gi gt (.slice none 0 0) (.slice none 0 0) (.slice none 0 0) w (wA.setCell ⟨g, 5, none⟩ (.int .i64 1)) (zeroS l) []) := H1
    clear H1 hg hgi hgt hlow hne hb n1 n2 hmk
    go_upto_region 3 with fail
    obtain ⟨wB, hwB⟩ : ∃ wB, wA.setCell ⟨g, 5, none⟩ (.int .i64 1) = wB := ⟨_, rfl⟩
    rw [hwB] at HH1 ⊢
    clear hwB c5 f5
    have co := specFwd HCM.out HH1.out (by simp [zeroS]) rfl
    go_wp2_with (go_at_call 35; go_must (refine co.mono ?_; rintro e w5 ⟨rfl, cv5, H5⟩))
    go_ret
    exact ⟨g, gi, gt, _, cv5, rfl, H5⟩
end
end Go.Proofs.YtdheogonghcokaaGreatDoor

namespace Go.Proofs.YtdheogonghcokaaGreatDoor
open Go.ChangeShapes Go.WideShapes Go.ChangeAt Go.RowKit
set_option linter.unusedVariables false
set_option linter.unusedSimpArgs false

theorem results_cell1 {fn : Func} {p : Tmp} {ty : TypeId} (h : fn.results = #[.cell p ty]) (tmps : Array Value) (P : Program) (w : World) :
    (results fn tmps).run P w = ((asAddr (tmps.getD p undef)).run P w).andThen fun a w₁ => (loadVar ty a).run P w₁ := by
  simp only [results, h]
  simp [Sem.run_bind, Result.andThen]
/-- What a RunSaga answers. -/
structure Log where
  code : Int
  st : Int
  reps : List Int
  cmds : List Cmd
  done : List ByteArray
def nameAt (l : List Step) (k : Nat) : ByteArray := (stepOf l k).name
def logOf (l : List Step) (p : Sg × List Int) : Log := ⟨0, p.1.st, p.2, p.1.cmds, p.1.done.map (nameAt l)⟩
noncomputable def logF (l : List Step) (ms : List Msg) : Log :=
  if 4096 < l.length ∨ 4096 < ms.length then ⟨2, 0, [], [], []⟩
  else if sagaB l = false then ⟨1, 0, [], [], []⟩
  else if 300 < ms.length then ⟨10, 0, [], [], []⟩
  else logOf l (hears l (beginS l, []) ms)
/-- An answer in memory. -/
def OwnLog (B : Nat) (w : World) (v : Value) (x : Log) : Prop := ∃ rv cv nv, v = .agg #[.int .i64 x.code, .int .i64 x.st, rv, cv, nv] ∧ OwnNums B w rv x.reps ∧ OwnCmds B w cv x.cmds ∧ OwnTxts B w nv x.done
theorem OwnLog.bare (B : Nat) (w : World) (c : Int) : OwnLog B w (.agg #[.int .i64 c, .int .i64 0, .slice none 0 0, .slice none 0 0, .slice none 0 0]) ⟨c, 0, [], [], []⟩ := ⟨_, _, _, rfl, OwnNums.nil _ _, OwnCmds.nil _ _, OwnTxts.nil _ _⟩
/-- What a RunSaga answers, whatever it is. -/
def RunSagaC (f : Nat) (T : World → Prop) (C : List Step → List Msg → Log) : Prop := ∀ (S : Nat → Prop) (l0 : List Step) (l1 : List Msg) (v0 v1 : Value) (w : World), (∀ b, S b → b < w.heap.size) → StepsAt S w v0 l0 → l0.length ≤ 1048576 → (∀ x ∈ l0, StepsOK 1048576 x) → StepsFull w v0 l0 → MsgsAt S w v1 l1 → l1.length ≤ 1048576 → (∀ W, Below w.heap.size w W → T W) →
  Calls Tryz.prog f #[v0, v1] w fun e w' => (∃ v, e = .returned v ∧ OwnLog w.heap.size w' v (C l0 l1)) ∧ Below w.heap.size w w'
theorem hears_append (l : List Step) : ∀ (a : List Msg) (p : Sg × List Int) (b : List Msg), hears l p (a ++ b) = hears l (hears l p a) b
  | [], _, _ => rfl
  | m :: a, p, b => by simp only [List.cons_append, hears]; exact hears_append l a _ b
theorem hears_take {l : List Step} {p q : Sg × List Int} {ms : List Msg} {k : Nat} (hk : k < ms.length) (h : hears l p (ms.take k) = q) : hears l p (ms.take (k + 1)) = (hearS l q.1 ms[k], q.2 ++ [codeS l q.1 ms[k]]) := by
  rw [List.take_succ_eq_append_getElem hk, hears_append, h]
  simp only [hears]
theorem hear_cmds {l : List Step} {s : Sg} (h : Ok l s) (ht : ∀ i (hi : i < l.length), l[i].tries ≤ 5) (m : Msg) : (hearS l s m).cmds.length ≤ s.cmds.length + l.length + 2 := by
  by_cases hc : codeS l s m = 0
  · have e : hearS l s m = goOnS l (moveS l s (numOf l m.step) m.kind) := by unfold hearS; rw [if_pos hc]
    rw [e]
    unfold codeS at hc
    by_cases h1 : findI (names l) m.step < 0
    · rw [if_pos h1] at hc; omega
    rw [if_neg h1] at hc
    by_cases h2 : m.kind < 1 ∨ 4 < m.kind
    · rw [if_pos h2] at hc; omega
    rw [if_neg h2] at hc
    by_cases h3 : s.st ≠ 1 ∧ s.st ≠ 2
    · rw [if_pos h3] at hc; omega
    rw [if_neg h3] at hc
    by_cases h4 : isAt s (numOf l m.step) ≠ wantI m.kind
    · rw [if_pos h4] at hc; omega
    have hw : isAt s (numOf l m.step) ≠ 2 := by
      rw [Classical.not_not.1 h4]
      unfold wantI
      split <;> omega
    have hok := h.move ht (find_lt (Int.not_lt.1 h1)).1 m.kind hw
    have := goOn_cmds hok
    have := move_cmds l s (numOf l m.step) m.kind
    omega
  · have e : hearS l s m = s := by unfold hearS; rw [if_neg hc]
    rw [e]; omega
theorem saga_in {S : Nat → Prop} {w : World} {a : Option Addr} {cap : Nat} {l : List Step} (hS : ∀ b, S b → b < w.heap.size) (h : StepsAt S w (.slice a l.length cap) l) (hok : ∀ x ∈ l, StepsOK 1048576 x) (hb : sagaB l = true) : SagaIn S w.heap.size w a cap l := by
  have hlen : 1 ≤ l.length ∧ l.length ≤ 20 := Classical.byContradiction fun hn => by rw [sagaB_len hn] at hb; simp at hb
  have hat : ∀ i (hi : i < l.length), StepAt l i hi := fun i hi => Classical.byContradiction fun hn => by rw [sagaB_not i hi hn] at hb; simp at hb
  refine ⟨hS, h, hok, hlen, fun i hi => ?_, fun i hi t ht => ?_⟩
  · have := (hat i hi).1
    unfold stepB0 at this
    simp only [Bool.and_eq_true, decide_eq_true_eq] at this
    omega
  · obtain ⟨k, hk, rfl⟩ := List.getElem_of_mem ht
    have h1 := ((hat i hi).2 k hk).1
    have h2 : hasB (names l) l[i].needs[k] = true := by
      unfold hasB at h1 ⊢
      rw [List.any_eq_true] at h1 ⊢
      obtain ⟨x, hx, he⟩ := h1
      refine ⟨x, ?_, he⟩
      unfold ahead at hx
      unfold names
      rw [List.mem_map] at hx ⊢
      obtain ⟨y, hy, rfl⟩ := hx
      exact ⟨y, List.mem_of_mem_take hy, rfl⟩
    rw [← findI_has] at h2
    exact of_decide_eq_true h2
theorem rowOff {w : World} {B g n k : Nat} {E ty : TypeId} {v : Value} {xs : List Value} {cs : Array Value} (h : w.ownsRow B E k v n xs) (hb : Blk w g ty cs) (hne : ty ≠ E) : Off v g := by
  rcases h.2 with ⟨rfl, _⟩ | ⟨k, cap, cur, rfl, hB, hg, _⟩
  · simp [Off, Value.ownBlock]
  · intro e
    simp [Value.ownBlock] at e
    subst e
    exact Blk.apart hb (show Blk w _ _ _ from hg) hne rfl
theorem rowApart {w : World} {B B' n m k k' : Nat} {E E' : TypeId} {v u : Value} {xs ys : List Value} (h : w.ownsRow B E k v n xs) (h' : w.ownsRow B' E' k' u m ys) (hne : E ≠ E') : v.ownBlock = none ∨ v.ownBlock ≠ u.ownBlock := by
  rcases h'.2 with ⟨rfl, _⟩ | ⟨g, cap, cur, rfl, hB, hg, _⟩
  · cases e : v.ownBlock with
    | none => exact .inl rfl
    | some x => right; simp [Value.ownBlock]
  · right
    exact rowOff h (show Blk w _ _ _ from hg) (fun e => hne e.symm)
/-- The document's run at its end: the names of the done ones are collected. -/
structure RunE (S : Nat → Prop) (B : Nat) (l : List Step) (a : Option Addr) (cap g gi gt : Nat) (dv rv cv nv : Value) (w0 w : World) (s : Sg) (reps : List Int) (ns : List ByteArray) : Prop where
  saga : SagaIn S B w a cap l
  blk : Blk w g 47 #[.slice a l.length cap, .slice (some ⟨gi, 0, none⟩) l.length l.length, .slice (some ⟨gt, 0, none⟩) l.length l.length, dv, .int .i64 0, .int .i64 s.st, rv, cv, nv]
  done : OwnNums B w dv (nums s.done)
  reps : OwnNums B w rv reps
  cmds : OwnCmds B w cv s.cmds
  nms : OwnTxts B w nv ns
  low : B ≤ g
  ok : Ok l s
  base : B ≤ w0.heap.size
  bel : Below B w0 w
section
variable {S : Nat → Prop} {B : Nat} {l : List Step} {a : Option Addr} {cap g gi gt : Nat} {dv rv cv nv : Value} {w0 w : World} {s : Sg} {reps : List Int} {ns : List ByteArray}
theorem RunS.end' (h : RunS S B l a cap g gi gt dv rv cv w0 w s reps) : RunE S B l a cap g gi gt dv rv cv (.slice none 0 0) w0 w s reps [] :=
  ⟨h.saga, h.blk, h.done, h.reps, h.cmds, OwnTxts.nil _ _, h.low.1, h.ok, h.base, h.bel⟩
theorem RunE.size (h : RunE S B l a cap g gi gt dv rv cv nv w0 w s reps ns) : B ≤ w.heap.size := Nat.le_trans h.base h.bel.size
theorem RunE.go (h : RunE S B l a cap g gi gt dv rv cv nv w0 w s reps ns) {w' : World} (hb : Below w.heap.size w w') : RunE S B l a cap g gi gt dv rv cv nv w0 w' s reps ns :=
  ⟨h.saga.below (hb.mono h.size) h.size, Blk.below h.blk hb, h.done.below hb, h.reps.below hb, h.cmds.below hb, OwnTxts.below h.nms hb, h.low, h.ok, h.base, h.bel.trans (hb.mono h.size)⟩
theorem RunE.grow (h : RunE S B l a cap g gi gt dv rv cv nv w0 w s reps ns) {w' : World} {nv' : Value} {ns' : List ByteArray} (hown : OwnTxts B w' nv' ns') (hB : Below B w w') (hgr : w.grownBy w' nv.ownBlock) :
    Blk w' g 47 #[.slice a l.length cap, .slice (some ⟨gi, 0, none⟩) l.length l.length, .slice (some ⟨gt, 0, none⟩) l.length l.length, dv, .int .i64 0, .int .i64 s.st, rv, cv, nv] ∧ RunE S B l a cap g gi gt dv rv cv nv' w0 (w'.setCell ⟨g, 8, none⟩ nv') s reps ns' := by
  have hbk := h.blk.kept hgr (Ne.symm (rowOff h.nms h.blk (by decide)))
  have hd' : OwnNums B w' dv (nums s.done) := h.done.kept hgr (rowApart h.done h.nms (by decide))
  have hr' : OwnNums B w' rv reps := h.reps.kept hgr (rowApart h.reps h.nms (by decide))
  have hc' : OwnCmds B w' cv s.cmds := h.cmds.kept hgr (rowApart h.cmds h.nms (by decide))
  have hb : Below B w (w'.setCell ⟨g, 8, none⟩ nv') := hB.setCell h.low nv'
  exact ⟨hbk, h.saga.below hb h.size, hbk.set 8 _, ownsRow_set hd' (rowOff hd' hbk (by decide)) _, ownsRow_set hr' (rowOff hr' hbk (by decide)) _, ownsRow_set hc' (rowOff hc' hbk (by decide)) _, ownsRow_set hown (rowOff hown hbk (by decide)) _, h.low, h.ok, h.base, h.bel.trans hb⟩
theorem RunE.stepCell (h : RunE S B l a cap g gi gt dv rv cv nv w0 w s reps ns) : ∃ b off, a = some ⟨b, off, none⟩ ∧ b < B ∧ ∀ i (hi : i < l.length), w.cell? ⟨b, off + i * 4, none⟩ = some (.string (nameAt l i)) := by
  obtain ⟨_, a', cap', hv, hc⟩ := h.saga.at'
  simp only [Value.slice.injEq] at hv
  obtain ⟨rfl, -, rfl⟩ := hv
  obtain ⟨b, off, rfl, hS, hcell⟩ := hc (by have := h.saga.len; omega)
  exact ⟨b, off, rfl, h.saga.low b hS, fun i hi => by unfold nameAt; rw [stepOf_eq hi]; exact (hcell i hi).1⟩
end
end Go.Proofs.YtdheogonghcokaaGreatDoor

namespace Go.Proofs.YtdheogonghcokaaGreatDoor
open Go.ChangeShapes Go.WideShapes Go.ChangeAt Go.RowKit Go.Maps
set_option linter.unusedVariables false


theorem toList_data (t : ByteArray) : t.toList = t.data.toList := by
  rw [ByteArray.toList_eq]
theorem beq_bytes (a b : ByteArray) : (a.toList == b.toList) = decide (a = b) := by
  rw [toList_data, toList_data]
  by_cases h : a = b
  · subst h; simp
  · rw [decide_eq_false h, beq_eq_false_iff_ne]
    exact fun e => h (bytes_inj e)

theorem zero3 (w : World) : (zeroValue 3).run Tryz.prog w = .ok (.int .i64 0) w := by kernel_rfl

/-- The map in block B, of at most n entries, holds f of each key, 0 where there is none. -/
def Counts (w : World) (K : TypeId) (B n : Nat) (f : Lit → Int) : Prop :=
  ∃ D : DataW Unit, w.ownsMap Tryz.prog K (plainElem Tryz.prog 3) B n D ∧ ∀ kl, D.atKey kl (.lit (.int .i64 0)) = .lit (.int .i64 (f kl))
def upd (f : Lit → Int) (kl : Lit) (c : Int) : Lit → Int := fun k' => if k'.sameKey kl then c else f k'
theorem upd_same {f : Lit → Int} {kl : Lit} {c : Int} (h : WideAt.IsKeyLit kl) : upd f kl c kl = c := by
  simp [upd, WideAt.sameKey_self h]
theorem upd_other {f : Lit → Int} {kl k' : Lit} {c : Int} (h : k' ≠ kl) : upd f kl c k' = f k' := by
  simp [upd, sameKey_ne h]
theorem Counts.made (w : World) (K : TypeId) : Counts (w.alloc (.map #[] 0)) K w.heap.size 0 (fun _ => 0) :=
  ⟨.map [], World.ownsMap_made _ _ _ _, fun kl => rfl⟩
theorem Counts.lt {w : World} {K : TypeId} {B n : Nat} {f : Lit → Int} (h : Counts w K B n f) : B < w.heap.size := by
  obtain ⟨D, h, _⟩ := h; exact h.lt
theorem Counts.mono {w : World} {K : TypeId} {B n m : Nat} {f : Lit → Int} (h : Counts w K B n f) (hn : n ≤ m) : Counts w K B m f := by
  obtain ⟨D, h, hf⟩ := h; exact ⟨D, h.mono hn, hf⟩
theorem Counts.below {w w' : World} {K : TypeId} {B n : Nat} {f : Lit → Int} (h : Counts w K B n f) (hb : Below w.heap.size w w') : Counts w' K B n f := by
  have hl := h.lt
  obtain ⟨D, ⟨es, clock, hbk, F, hs, hD⟩, hf⟩ := h
  exact ⟨D, ⟨es, clock, (hb.block B hl).trans hbk, F, hs, hD⟩, hf⟩
theorem Counts.alloc {w : World} {K : TypeId} {B n : Nat} {f : Lit → Int} (h : Counts w K B n f) (o : Obj) : Counts (w.alloc o) K B n f := by
  obtain ⟨D, h, hf⟩ := h; exact ⟨D, h.alloc o, hf⟩
theorem Counts.look {w : World} {K t : TypeId} {B n : Nat} {f : Lit → Int} (h : Counts w K B n f) (L : Keyed Tryz.prog K) (ht : Tryz.prog.underlying t = some (.map K 3)) {key : Value} {kl : Lit} (hk : keyOf Tryz.prog K key = some kl) :
    (Instr.lookup t (.map (some B)) key false).run Tryz.prog w = .ok (.int .i64 (f kl)) w ∧ (Lit.int .i64 (f kl)).wf = true := by
  obtain ⟨D, h, hf⟩ := h
  obtain ⟨c, hr, hat, hw⟩ := h.lookup_int L ht Tryz.underlying3 (zero3 w) hk
  rw [hf] at hat
  simp at hat
  subst hat
  exact ⟨hr, hw⟩
theorem Counts.put {w : World} {K : TypeId} {B n : Nat} {f : Lit → Int} {D : DataW Unit} {kl : Lit} {c : Int} (hm : IsMap D) (hk : WideAt.IsKeyLit kl) (hf : ∀ kl, D.atKey kl (.lit (.int .i64 0)) = .lit (.int .i64 (f kl)))
    (h : w.ownsMap Tryz.prog K (plainElem Tryz.prog 3) B n (D.put kl (.lit (.int .i64 c)))) : Counts w K B n (upd f kl c) := by
  refine ⟨_, h, fun k' => ?_⟩
  by_cases e : k' = kl
  · subst e; rw [upd_same hk, atKey_put_same hm hk]
  · rw [upd_other e, atKey_put_other e, hf]
theorem Counts.store {w : World} {K t : TypeId} {B n : Nat} {f : Lit → Int} (h : Counts w K B n f) (L : Keyed Tryz.prog K) (ht : Tryz.prog.underlying t = some (.map K 3)) (hn : n < maxLen) {key : Value} {kl : Lit} (hk : keyOf Tryz.prog K key = some kl) {c : Int} (hc : (Lit.int .i64 c).wf = true) :
    ∃ w', (Instr.mapUpdate t (.map (some B)) key (.int .i64 c)).run Tryz.prog w = .ok () w' ∧ Counts w' K B (n + 1) (upd f kl c) ∧ w.grownBy w' (some B) := by
  obtain ⟨D, h, hf⟩ := h
  obtain ⟨w', hr, ho, hg⟩ := h.update L ht hn hk (plainElem_int Tryz.underlying3 hc)
  exact ⟨w', hr, Counts.put h.isMap (L.key hk) hf ho, hg⟩

theorem wpList_lookC (w : World) {ops : Array Oper} {rest : List Oper} {o : Oper} {a : Act} {Q : Exit → Act → World → Prop}
    (hg : o.guard = none) (m x : Operand) (t : TypeId) (hop : o.op = Op.lookup t m x false) (K : TypeId) (L : Keyed Tryz.prog K) (ht : Tryz.prog.underlying t = some (.map K 3)) (B n : Nat) (f : Lit → Int)
    (hm : a.eval m = .map (some B)) (h : Counts w K B n f) (key : Value) (kl : Lit) (hx : a.eval x = key) (hk : keyOf Tryz.prog K key = some kl)
    (hK : wpList Tryz.prog ops Q rest (a.put o.dst (.int .i64 (f kl))) w) : wpList Tryz.prog ops Q (o :: rest) a w := by
  refine wpList_plain hg fun K' hK' => ?_
  have hr := (h.look L ht hk).1
  unfold Oper.wp
  simp [execOp, hop, hm, hx, hr, Result.andThen]
  exact hK' _ _ hK
theorem wpList_storeC (w : World) {ops : Array Oper} {rest : List Oper} {o : Oper} {a : Act} {Q : Exit → Act → World → Prop}
    (hg : o.guard = none) (m x v : Operand) (t : TypeId) (hop : o.op = Op.mapUpdate t m x v) (K : TypeId) (L : Keyed Tryz.prog K) (ht : Tryz.prog.underlying t = some (.map K 3)) (B n : Nat) (f : Lit → Int)
    (hm : a.eval m = .map (some B)) (h : Counts w K B n f) (hn : n < maxLen) (key : Value) (c : Int) (kl : Lit) (hx : a.eval x = key) (hv : a.eval v = .int .i64 c) (hk : keyOf Tryz.prog K key = some kl) (hc : (Lit.int .i64 c).wf = true)
    (hK : ∀ w', Counts w' K B (n + 1) (upd f kl c) → w.grownBy w' (some B) → wpList Tryz.prog ops Q rest (a.put o.dst undef) w') : wpList Tryz.prog ops Q (o :: rest) a w := by
  refine wpList_plain hg fun K' hK' => ?_
  obtain ⟨w', hr, h1, h2⟩ := h.store L ht hn hk hc
  unfold Oper.wp
  simp [execOp, hop, hm, hx, hv, hr, Result.andThen]
  exact hK' _ _ (hK w' h1 h2)

/-! Keys: texts. -/
theorem law9 : Keyed Tryz.prog 9 := string_keyed Tryz.underlying9
def textKey (s : ByteArray) : Lit := .string s.data.toList
theorem key9 {s : ByteArray} (h : s.size ≤ maxLen) : keyOf Tryz.prog 9 (.string s) = some (textKey s) := WideMaps.keyOf_string_mk Tryz.underlying9 h
theorem textKey_inj {a b : ByteArray} (h : textKey a = textKey b) : a = b := by
  simp only [textKey, Lit.string.injEq] at h
  exact bytes_inj h


/-! Texts in their order. -/
def lessB (x y : ByteArray) : Bool := Go.Op.bytesLess x.toList y.toList
theorem lessB_eq (x y : ByteArray) : lessB x y = decide (x.data.toList < y.data.toList) := by
  unfold lessB
  rw [bytesLess_eq, toList_data, toList_data]
theorem lessB_irrefl (x : ByteArray) : lessB x x = false := by
  rw [lessB_eq, decide_eq_false (List.lt_irrefl _)]
theorem lessB_trans {x y z : ByteArray} (h : lessB x y = true) (h2 : lessB y z = true) : lessB x z = true := by
  rw [lessB_eq, decide_eq_true_eq] at *
  exact List.lt_trans h h2
theorem lessB_total {x y : ByteArray} (h : x ≠ y) : lessB x y = true ∨ lessB y x = true := by
  rw [lessB_eq, lessB_eq, decide_eq_true_eq, decide_eq_true_eq]
  by_cases h1 : x.data.toList < y.data.toList
  · exact .inl h1
  · by_cases h2 : y.data.toList < x.data.toList
    · exact .inr h2
    · exact absurd (bytes_inj (List.le_antisymm (List.not_lt.1 h2) (List.not_lt.1 h1))) h
theorem lessB_asymm {x y : ByteArray} (h : lessB x y = true) : lessB y x = false := by
  cases h2 : lessB y x
  · rfl
  · have := lessB_trans h h2
    rw [lessB_irrefl] at this
    exact this.symm
/-- Two rows that rise and have the same members are one. -/
theorem pw_eq {α : Type} {r : α → α → Prop} (ht : ∀ x y z, r x y → r y z → r x z) (hi : ∀ x, ¬ r x x) : ∀ {a b : List α}, a.Pairwise r → b.Pairwise r → (∀ x, x ∈ a ↔ x ∈ b) → a = b
  | [], [], _, _, _ => rfl
  | [], y :: b, _, _, h => absurd ((h y).2 (by simp)) (by simp)
  | x :: a, [], _, _, h => absurd ((h x).1 (by simp)) (by simp)
  | x :: a, y :: b, ha, hb, h => by
    obtain ⟨a1, a2⟩ := List.pairwise_cons.1 ha
    obtain ⟨b1, b2⟩ := List.pairwise_cons.1 hb
    have hxy : x = y := by
      rcases List.mem_cons.1 ((h x).1 (by simp)) with e | e
      · exact e
      · rcases List.mem_cons.1 ((h y).2 (by simp)) with e2 | e2
        · exact e2.symm
        · exact absurd (ht _ _ _ (a1 y e2) (b1 x e)) (hi x)
    subst hxy
    congr 1
    refine pw_eq ht hi a2 b2 (fun z => ?_)
    have hz := h z
    simp only [List.mem_cons] at hz
    constructor
    · intro hm
      rcases hz.1 (.inr hm) with e | e
      · subst e; exact absurd (a1 z hm) (hi z)
      · exact e
    · intro hm
      rcases hz.2 (.inr hm) with e | e
      · subst e; exact absurd (b1 z hm) (hi z)
      · exact e


/-- A name of ss, behind those of seen, has stood ahead. -/
def dupFrom : List ByteArray → List ByteArray → Bool
  | [], _ => false
  | x :: l, seen => if hasB seen x then true else dupFrom l (seen ++ [x])
/-- f holds 1 of each text of seen, 0 of all others. -/
def Seen (f : Lit → Int) (seen : List ByteArray) : Prop := ∀ t : ByteArray, f (textKey t) = if hasB seen t then 1 else 0
theorem Seen.nil : Seen (fun _ => 0) [] := fun t => by simp [hasB]
theorem hasB_snoc (seen : List ByteArray) (x t : ByteArray) : hasB (seen ++ [x]) t = (hasB seen t || decide (x = t)) := by
  unfold hasB
  rw [List.any_append]
  simp [beq_bytes]
theorem Seen.put {f : Lit → Int} {seen : List ByteArray} (h : Seen f seen) (x : ByteArray) : Seen (upd f (textKey x) 1) (seen ++ [x]) := by
  intro t
  by_cases e : t = x
  · subst e
    rw [upd_same (by exact trivial), hasB_snoc]
    simp
  · rw [upd_other (fun h => e (textKey_inj h)), h t]
    have e' : x ≠ t := fun h => e h.symm
    rw [hasB_snoc]
    simp [e']

set_option maxRecDepth 100000 in
set_option maxHeartbeats 1000000 in
theorem implTwice (ss : List ByteArray) (a : Option Addr) (cap : Nat) (w : World) (hlen : ss.length ≤ 1000000) (hsz : ∀ s ∈ ss, s.size ≤ 1048576)
    (hc : 0 < ss.length → ∃ g, a = some ⟨g, 0, none⟩ ∧ g < w.heap.size ∧ ∀ j (hj : j < ss.length), w.cell? ⟨g, j, none⟩ = some (.string ss[j])) :
    Calls Tryz.prog 105 #[.slice a ss.length cap] w fun e w' => (∃ t, e = .returned (.tuple #[.string t, .bool (dupFrom ss [])])) ∧ Below w.heap.size w w' := by
  have hmm := @run_makeMap Tryz.prog
  have HC : Hid _ := hc
  have hlen' : (ss.length : Int) ≤ 1000000 := by omega
  have HZ : Hid _ := hsz
  clear hc hsz
  obtain ⟨F, hF⟩ : ∃ F, dupFrom ss [] = F := ⟨_, rfl⟩
  rw [hF]
  have HF : Hid (dupFrom ss [] = F) := hF
  clear hF
  go_enter Tryz.func105, Tryz.ntmps105
  go_wp2_with fail
  go_loopw [11] (fun i11 wr => ∃ (k : Nat) (f : Lit → Int), i11 = .int .i64 (k : Int) ∧ k ≤ ss.length ∧ Counts wr 9 w.heap.size k f ∧ Seen f (ss.take k) ∧ dupFrom (ss.drop k) (ss.take k) = F ∧ Below w.heap.size w wr) (fun i11 _ => ss.length - (intOf i11).toNat)
  case atStart => exact ⟨0, _, rfl, by omega, Counts.made _ _, by simpa using Seen.nil, by simpa using HF.out, (Below.refl _ w).alloc (Nat.le_refl _) _⟩
  case round =>
    obtain ⟨k, f, rfl, hk, hcn, hse, hfr, hb⟩ := hrel
    by_cases hkn : k < ss.length
    · have hkn' : (k : Int) < (ss.length : Int) := by omega
      obtain ⟨g, rfl, hgw, hcell⟩ := HC.out (by omega)
      have x1 := hcell k hkn
      rw [List.drop_eq_getElem_cons hkn] at hfr
      have hz := HZ.out ss[k] (List.getElem_mem hkn)
      have htk : ss.take (k + 1) = ss.take k ++ [ss[k]] := List.take_succ_eq_append_getElem hkn
      obtain ⟨s, hs⟩ : ∃ s, ss[k] = s := ⟨_, rfl⟩
      rw [hs] at x1 hfr hz htk
      clear hs hcell
      have d1 := (hb.cell (p := ⟨g, k, none⟩) hgw).trans x1
      have hkey : keyOf Tryz.prog 9 (.string s) = some (textKey s) := key9 (by simp [maxLen]; omega)
      have hfs := hse s
      simp only [dupFrom] at hfr
      obtain ⟨B1, hB1⟩ : ∃ B1, hasB (ss.take k) s = B1 := ⟨_, rfl⟩
      rw [hB1] at hfr hfs
      have hlk := (hcn.look law9 Tryz.underlying130 hkey).1
      clear x1 hB1
      have HCN : Hid _ := hcn
      have HSE : Hid _ := hse
      have HFR : Hid _ := hfr
      have HTK : Hid _ := htk
      have HKY : Hid _ := hkey
      clear hcn hse hfr htk hkey
      cases B1
      · rw [if_neg (by simp)] at hfs
        rw [hfs] at hlk
        clear hfs
        go_wp2_with (first
          | (at_mapUpdate; go_must (refine wpList_storeC _ rfl _ _ _ 130 rfl 9 law9 Tryz.underlying130 w.heap.size k f rfl HCN.out (by simp [maxLen]; omega) _ 1 _ rfl rfl HKY.out (by decide) ?_; intro w1 hc1 hg1; have HC1 : Hid _ := hc1; clear hc1))
          | (at_lookup; have hchk := HC1; refine wpList_lookC _ rfl _ _ 130 rfl 9 law9 Tryz.underlying130 w.heap.size (k + 1) _ rfl HC1.out _ _ rfl HKY.out ?_; rw [upd_same (by exact trivial)]))
        have hbb := hb.grown hg1 hb.size (fun j hj => by cases hj; exact Nat.le_refl _)
        refine ⟨⟨k + 1, _, rfl, by omega, HC1.out, ?_, ?_, hbb⟩, by simp [intOf]; omega⟩
        · rw [HTK.out]; exact Seen.put HSE.out s
        · have := HFR.out
          rw [if_neg (by simp)] at this
          rw [HTK.out]; exact this
      · rw [if_pos rfl] at hfs
        rw [hfs] at hlk
        clear hfs
        have hF := HFR.out
        rw [if_pos rfl] at hF
        subst hF
        go_wp2_with (first
          | (at_mapUpdate; go_must (refine wpList_storeC _ rfl _ _ _ 130 rfl 9 law9 Tryz.underlying130 w.heap.size k f rfl HCN.out (by simp [maxLen]; omega) _ 2 _ rfl rfl HKY.out (by decide) ?_; intro w1 hc1 hg1; have HC1 : Hid _ := hc1; clear hc1))
          | (at_lookup; have hchk := HC1; refine wpList_lookC _ rfl _ _ 130 rfl 9 law9 Tryz.underlying130 w.heap.size (k + 1) _ rfl HC1.out _ _ rfl HKY.out ?_; rw [upd_same (by exact trivial)]))
        have hbb := hb.grown hg1 hb.size (fun j hj => by cases hj; exact Nat.le_refl _)
        go_ret2
        exact ⟨⟨_, rfl⟩, hbb⟩
    · have hkn' : ¬ ((k : Int) < (ss.length : Int)) := by omega
      rw [List.drop_eq_nil_of_le (by omega)] at hfr
      simp only [dupFrom] at hfr
      subst hfr
      go_wp2_with fail
      go_ret2
      exact ⟨⟨_, rfl⟩, hb⟩

theorem cell_lt {w : World} {g j : Nat} {v : Value} (h : w.cell? ⟨g, j, none⟩ = some v) : g < w.heap.size := by
  cases hh : w.heap[g]? with
  | none => simp [World.cell?, hh] at h
  | some o => exact (Array.getElem?_eq_some_iff.1 hh).1

theorem dup_iff : ∀ (ss seen : List ByteArray), dupFrom ss seen = true ↔ ∃ (i : Nat) (hi : i < ss.length), hasB (seen ++ ss.take i) ss[i] = true
  | [], seen => by simp [dupFrom]
  | x :: l, seen => by
    unfold dupFrom
    cases hx : hasB seen x
    · rw [if_neg (by simp), dup_iff l (seen ++ [x])]
      constructor
      · rintro ⟨i, hi, h⟩
        exact ⟨i + 1, by simpa using hi, by simpa using h⟩
      · rintro ⟨i, hi, h⟩
        cases i with
        | zero => simp [hx] at h
        | succ i => exact ⟨i, by simpa using hi, by simpa using h⟩
    · rw [if_pos rfl]
      exact ⟨fun _ => ⟨0, by simp, by simpa using hx⟩, fun _ => rfl⟩
end Go.Proofs.YtdheogonghcokaaGreatDoor
