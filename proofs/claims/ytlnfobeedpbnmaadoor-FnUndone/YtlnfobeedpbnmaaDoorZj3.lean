/-
  What the document's on does where the saga goes back. What the document's message does. What the document's message does. What the document's l11Begin does. What the document's RunSaga answers: plain. A statement that leaves its order open and whose last operation waits for all the others: the others in any order, then that one. What the document's command does. No statement of the seat is proved here.
-/
import Derived.Test.YtlnfobeedpbnmaaDoorZj2
import Derived.Maps.AppendAt
import Derived.Deep.OwnRows
import Derived.Laws.OwnMore
import Derived.OrdersHeld
import Derived.StillTail
import Derived.Deep.RegionHeld3
namespace Go.Proofs.YtlnfobeedpbnmaaDoor
open Go.ChangeShapes Go.WideShapes Go.ChangeAt Go.RowKit
set_option linter.unusedVariables false
set_option linter.unusedSimpArgs false

section
variable {S : Nat → Prop} {B : Nat} {l : List Step} {a : Option Addr} {cap g gi gt : Nat} {dv rv cv : Value} {w0 w : World} {s : Sg} {reps : List Int}
/-- How long the slice in a cell is. -/
def lenIn (w : World) (p : Addr) : Nat := match w.cell? p with | some (.slice _ n _) => n | _ => 0
theorem lenIn_eq {w : World} {p : Addr} {a : Option Addr} {n c : Nat} (h : w.cell? p = some (.slice a n c)) : lenIn w p = n := by unfold lenIn; rw [h]
theorem back_busy (h : busy s = true) (m : Nat) : back l m s = s := by
  cases m <;> (unfold back; rw [if_pos h])
theorem back_zero (h : busy s = false) : back l 0 s = setSt s 4 := by unfold back; rw [if_neg (by rw [h]; simp)]
theorem back_succ (h : busy s = false) (m : Nat) : back l (m + 1) s = back l m (undoS l s (lastOf s)) := by
  rw [show back l (m + 1) s = (if busy s then s else back l m (undoS l s (lastOf s))) from rfl, if_neg (by rw [h]; simp)]
theorem undo_cmds (l : List Step) (s : Sg) (k : Nat) : (undoS l s k).cmds.length ≤ s.cmds.length + 1 := by
  unfold undoS
  split
  · rw [beg_cmds]; exact Nat.le_refl _
  · simp [setIs]
theorem last_at {s : Sg} {m : Nat} (h : s.done.length = m + 1) : s.done[m] = lastOf s := by
  unfold lastOf
  rw [List.getLastD_eq_getLast?, List.getLast?_eq_getElem?]
  have e : s.done.length - 1 = m := by omega
  simp [e, h]
set_option maxRecDepth 100000 in
set_option maxHeartbeats 8000000 in
theorem specBack (hcm : CommandC 31) (h : RunS S B l a cap g gi gt dv rv cv w0 w s reps) (hc : s.cmds.length ≤ 800000) (h1 : s.st = 2) :
    Calls Tryd.prog 30 #[.pointer (some ⟨g, 0, none⟩)] w fun e w' => e = .returned (.tuple #[]) ∧ ∃ dv' cv', RunS S B l a cap g gi gt dv' rv cv' w0 w' (back l s.done.length s) reps := by
  have c5 := h.blk.cell 5
  simp at c5
  rw [h1] at c5
  have hl : l.length ≤ 20 := h.saga.len.2
  have hl' : (l.length : Int) ≤ 20 := by omega
  have hdl := done_len h.ok
  have HR : Hid (RunS S B l a cap g gi gt dv rv cv w0 w s reps) := h
  have HCM : Hid (CommandC 31) := hcm
  have HC : Hid (s.cmds.length ≤ 800000) := hc
  have HST : Hid (s.st = 2) := h1
  obtain ⟨R, hRr⟩ : ∃ R, back l s.done.length s = R := ⟨_, rfl⟩
  rw [hRr]
  have HRR : Hid (back l s.done.length s = R) := hRr
  clear h hc h1 hcm hRr
  go_enter Tryd.func30, Tryd.ntmps30
  go_wp2_with fail
  go_loopw [3] (fun i3 wr => ∃ (dv' cv' : Value) (t : Sg), RunS S B l a cap g gi gt dv' rv cv' w0 wr t reps ∧ t.st = 2 ∧ back l t.done.length t = R ∧ t.cmds.length + t.done.length ≤ 800020) (fun _ wr => lenIn wr ⟨g, 3, none⟩)
  case atStart => exact ⟨dv, cv, s, HR.out, HST.out, HRR.out, by have := HC.out; omega⟩
  case round =>
    clear c5
    obtain ⟨dv', cv', t, hR, hst, hbk, hcl⟩ := hrel
    have HR1 : Hid (RunS S B l a cap g gi gt dv' rv cv' w0 wr t reps) := hR
    have c5 := hR.blk.cell 5
    simp at c5
    rw [hst] at c5
    have a1 := specAny hR 1
    have a3 := specAny hR 3
    have HSTT : Hid (t.st = 2) := hst
    have HBK : Hid (back l t.done.length t = R) := hbk
    have HCL : Hid (t.cmds.length + t.done.length ≤ 800020) := hcl
    obtain ⟨A1, hA1⟩ : ∃ A, anyB t 1 = A := ⟨_, rfl⟩
    obtain ⟨A3, hA3⟩ : ∃ A, anyB t 3 = A := ⟨_, rfl⟩
    rw [hA1] at a1
    rw [hA3] at a3
    have hbz : busy t = (A1 || A3) := by unfold busy; rw [hA1, hA3]
    have HBZ : Hid (busy t = (A1 || A3)) := hbz
    clear hR hst hbk hcl hA1 hA3 hbz
    cases A1
    case true =>
      have hr : R = t := by rw [← HBK.out]; exact back_busy HBZ.out _
      subst hr
      go_wp2_with (go_at_call 43; go_must (refine a1.mono ?_; rintro e w1 ⟨rfl, hq⟩; obtain rfl := hq.symm; clear hq))
      go_end0
      exact ⟨rfl, _, _, HR1.out⟩
    cases A3
    case true =>
      have hr : R = t := by rw [← HBK.out]; exact back_busy HBZ.out _
      subst hr
      go_wp2_with (first
        | (go_at_call 43; have hchk := HS1; refine a3.mono ?_; rintro e w1 ⟨rfl, hq⟩; obtain rfl := hq.symm; clear hq)
        | (go_at_call 43; go_must (refine a1.mono ?_; rintro e w1 ⟨rfl, hq⟩; obtain rfl := hq.symm; clear hq; have HS1 : Hid (0 = 0) := rfl)))
      go_end0
      exact ⟨rfl, _, _, HR1.out⟩
    have hbz : busy t = false := HBZ.out
    obtain ⟨da, dc, hdv, hdc⟩ := HR1.out.done.natCells
    subst hdv
    have c3 := HR1.out.blk.cell 3
    simp at c3
    by_cases h0 : t.done.length = 0
    case pos =>
      have hr : R = setSt t 4 := by rw [← HBK.out, h0]; exact back_zero hbz
      have H9 := HR1.out.putSt 4
      rw [← hr] at H9
      have f5 := HR1.out.blk.fro 5
      rw [h0] at c3
      have HH9 : Hid (RunS S B l a cap g gi gt (.slice da t.done.length dc) rv cv' w0 (wr.setCell ⟨g, 5, none⟩ (.int .i64 4)) R reps) := H9
      clear H9 hr h0 hdc hbz
      go_wp2_with (first
        | (go_at_call 43; have hchk := HS1; refine a3.mono ?_; rintro e w1 ⟨rfl, hq⟩; obtain rfl := hq.symm; clear hq)
        | (go_at_call 43; go_must (refine a1.mono ?_; rintro e w1 ⟨rfl, hq⟩; obtain rfl := hq.symm; clear hq; have HS1 : Hid (0 = 0) := rfl)))
      (try simp only [Exit.inBlock, Exit.then])
      refine bodyPost_ret (results_none rfl _ _ _) rfl ?_
      exact ⟨rfl, _, _, HH9.out⟩
    obtain ⟨m, hm⟩ : ∃ m, t.done.length = m + 1 := ⟨t.done.length - 1, by omega⟩
    have hla := last_at hm
    have hm20 : m < 20 := by have := done_len HR1.out.ok; omega
    obtain ⟨dg, hda, hdB, hdg, hcell⟩ := hdc (by omega)
    subst hda
    have d1 := hcell m (by omega)
    rw [hla] at d1
    rw [hm] at c3
    have hok1 := HR1.out.ok.drop
    have hlin := (HR1.out.ok.dk _ (last_in (s := t) (by omega))).1
    have hlout := HR1.out.ok.last_out (by omega)
    have hdrp := drop_last HR1.out.ok.dn (by omega)
    have hund := back_succ (l := l) hbz m
    rw [← hm, HBK.out] at hund
    have hus : undoS l t (lastOf t) = if (stepOf l (lastOf t)).undo then beg l { t with done := t.done.dropLast } 3 2 (lastOf t) else setIs { t with done := t.done.dropLast } (lastOf t) 4 := rfl
    have hul := undo_len l t (lastOf t)
    have hust := undo_st l t (lastOf t)
    have huc := undo_cmds l t (lastOf t)
    obtain ⟨x, hx⟩ : ∃ x, lastOf t = x := ⟨_, rfl⟩
    rw [hx] at d1 hlin hlout hdrp hund hus hul hust huc
    have HSLEN : Hid (lenIn wr ⟨g, 3, none⟩ = m + 1) := lenIn_eq c3
    have HIN : Hid (x < l.length) := hlin
    have HOUT : Hid (x ∉ t.done.dropLast) := hlout
    have HDRP : Hid (t.done.filter (fun j => !decide (j = x)) = t.done.dropLast) := hdrp
    have HUND : Hid (R = back l m (undoS l t x)) := hund
    have HUS : Hid (undoS l t x = if (stepOf l x).undo then beg l { t with done := t.done.dropLast } 3 2 x else setIs { t with done := t.done.dropLast } x 4) := hus
    have HUL : Hid ((undoS l t x).done = t.done.dropLast) := hul
    have HUST : Hid ((undoS l t x).st = t.st) := hust
    have HUC : Hid ((undoS l t x).cmds.length ≤ t.cmds.length + 1) := huc
    have HM : Hid (t.done.length = m + 1) := hm
    have HOK1 : Hid (Ok l { t with done := t.done.dropLast }) := hok1
    have hxl : (x : Int) < (l.length : Int) := by omega
    have hm1 : ((m + 1 : Nat) : Int) - 1 = (m : Int) := by omega
    clear hla hdc hcell hlin hlout hdrp hund hus hul hust huc hx hm hok1 hbz h0
    go_upto_region 13 with (first
        | (go_at_call 43; have hchk := HS1; refine a3.mono ?_; rintro e w1 ⟨rfl, hq⟩; obtain rfl := hq.symm; clear hq)
        | (go_at_call 43; go_must (refine a1.mono ?_; rintro e w1 ⟨rfl, hq⟩; obtain rfl := hq.symm; clear hq; have HS1 : Hid (0 = 0) := rfl)))
    clear a1 a3
    go_cut [3] from 78 to 90 (fun s3 wx => s3 = .int .i64 (x : Int) ∧ Below wr.heap.size wr wx)
    case first =>
      go_quiet (fail)
      refine meet_then (by assumption) ?_
      go_meet
      exact ⟨rfl, bel_drewN (Below.refl _ _) _⟩
    case rest =>
      obtain ⟨rfl, hbw⟩ := hcut
      obtain ⟨wA, hwA⟩ : ∃ wA, wA = wc := ⟨_, rfl⟩
      subst hwA
      have H1 := HR1.out.go hbw
      have cd := specDrop H1 x
      clear H1 c3 c5 d1 hbw
      go_upto_region 15 with (go_at_call 44; go_must (refine cd.mono ?_; rintro e w2 ⟨rfl, dv2, H2⟩))
      clear cd
      rw [HDRP.out] at H2
      have HH2 : Hid (RunS S B l a cap g gi gt dv2 rv cv' w0 w2 { t with done := t.done.dropLast } reps) := H2
      have hmes : ∀ {dv3 cv3 : Value} {w3 : World} {u : Sg}, RunS S B l a cap g gi gt dv3 rv cv3 w0 w3 u reps → u.done = t.done.dropLast → lenIn w3 ⟨g, 3, none⟩ < lenIn wr ⟨g, 3, none⟩ := fun h3 hu => by
        obtain ⟨ea, ec, hev, -⟩ := h3.done.natCells
        have k3 := h3.blk.cell 3
        simp at k3
        rw [hev] at k3
        rw [lenIn_eq k3, HSLEN.out, hu, List.length_dropLast, HM.out]
        omega
      have HMES : Hid (∀ {dv3 cv3 : Value} {w3 : World} {u : Sg}, RunS S B l a cap g gi gt dv3 rv cv3 w0 w3 u reps → u.done = t.done.dropLast → lenIn w3 ⟨g, 3, none⟩ < lenIn wr ⟨g, 3, none⟩) := hmes
      have hres : ∀ {dv3 cv3 : Value} {w3 : World}, RunS S B l a cap g gi gt dv3 rv cv3 w0 w3 (undoS l t x) reps → ∃ (dv' cv' : Value) (t : Sg), RunS S B l a cap g gi gt dv' rv cv' w0 w3 t reps ∧ t.st = 2 ∧ back l t.done.length t = R ∧ t.cmds.length + t.done.length ≤ 800020 := fun h3 => by
        have hlen : (undoS l t x).done.length = m := by rw [HUL.out, List.length_dropLast, HM.out]; omega
        refine ⟨_, _, _, h3, HUST.out.trans HSTT.out, by rw [hlen]; exact HUND.out.symm, ?_⟩
        have := HUC.out
        have := HCL.out
        have := HM.out
        omega
      have HRES : Hid (∀ {dv3 cv3 : Value} {w3 : World}, RunS S B l a cap g gi gt dv3 rv cv3 w0 w3 (undoS l t x) reps → ∃ (dv' cv' : Value) (t : Sg), RunS S B l a cap g gi gt dv' rv cv' w0 w3 t reps ∧ t.st = 2 ∧ back l t.done.length t = R ∧ t.cmds.length + t.done.length ≤ 800020) := hres
      obtain ⟨b, off, rfl, hbB, hst⟩ := H2.stepCell
      have e2 := (hst x HIN.out).2.1
      have c0 := H2.blk.cell 0
      have c1 := H2.blk.cell 1
      simp at c0 c1
      obtain ⟨d2, d3⟩ := H2.isCell x HIN.out
      have hus := HUS.out
      have hcl2 : t.cmds.length ≤ 900000 := by have := HCL.out; omega
      have HCL2 : Hid (t.cmds.length ≤ 900000) := hcl2
      clear hmes hres hst hcl2
      cases hu : (stepOf l x).undo
      case false =>
        rw [hu] at e2 hus
        rw [if_neg (by simp)] at hus
        have H3 := H2.putIs x 4 (HOK1.out.setIs HIN.out 4 HOUT.out)
        rw [← hus] at H3
        have HH3 : Hid (RunS S B l (some ⟨b, off, none⟩) cap g gi gt dv2 rv cv' w0 (w2.setCell ⟨gi, x, none⟩ (.int .i64 4)) (undoS l t x) reps) := H3
        clear H2 H3 hus hu
        go_wp2_with fail
        exact ⟨HRES.out HH3.out, HMES.out HH3.out HUL.out⟩
      case true =>
        rw [hu] at e2 hus
        rw [if_pos rfl] at hus
        have HUSB : Hid (undoS l t x = cmdS l (setTr (setIs { t with done := t.done.dropLast } x 3) x 1) 2 x) := hus
        have HO1 : Hid (Ok l (setIs { t with done := t.done.dropLast } x 3)) := HOK1.out.setIs HIN.out 3 HOUT.out
        have HO2 : Hid (Ok l (setTr (setIs { t with done := t.done.dropLast } x 3) x 1)) := HO1.out.setTr HIN.out 1 (by omega) (by omega)
        have H3 := H2.putIs x 3 HO1.out
        have HH3 : Hid (RunS S B l (some ⟨b, off, none⟩) cap g gi gt dv2 rv cv' w0 (w2.setCell ⟨gi, x, none⟩ (.int .i64 3)) (setIs { t with done := t.done.dropLast } x 3) reps) := H3
        clear H2 H3 hus hu
        go_upto_region 17 with fail
        obtain ⟨wB, hwB⟩ : ∃ wB, w2.setCell ⟨gi, x, none⟩ (.int .i64 3) = wB := ⟨_, rfl⟩
        rw [hwB] at HH3 ⊢
        clear hwB c0 c1 d2 d3 e2
        have H3 := HH3.out
        have c2 := H3.blk.cell 2
        simp at c2
        obtain ⟨d2, d3⟩ := H3.trCell x HIN.out
        have H4 := H3.putTr x 1 HO2.out
        have HH4 : Hid (RunS S B l (some ⟨b, off, none⟩) cap g gi gt dv2 rv cv' w0 (wB.setCell ⟨gt, x, none⟩ (.int .i64 1)) (setTr (setIs { t with done := t.done.dropLast } x 3) x 1) reps) := H4
        clear H3 H4
        go_upto_region 18 with fail
        obtain ⟨wC, hwC⟩ : ∃ wC, wB.setCell ⟨gt, x, none⟩ (.int .i64 1) = wC := ⟨_, rfl⟩
        rw [hwC] at HH4 ⊢
        clear hwC c2 d2 d3
        have cc := HCM.out HH4.out 2 x HIN.out HCL2.out
        go_wp2_with (go_at_call 31; go_must (refine cc.mono ?_; rintro e w5 ⟨rfl, cv5, H5⟩))
        rw [← HUSB.out] at H5
        exact ⟨HRES.out H5, HMES.out H5 HUL.out⟩
end
end Go.Proofs.YtlnfobeedpbnmaaDoor

namespace Go.Proofs.YtlnfobeedpbnmaaDoor
open Go.ChangeShapes Go.WideShapes Go.ChangeAt Go.RowKit
set_option linter.unusedVariables false
set_option linter.unusedSimpArgs false

/-- One number is appended: where the new row lies. -/
theorem wpList_appendNumAt {ops : Array Oper} {rest : List Oper} {o : Oper} {a : Act} {w : World} {Q : Exit → Act → World → Prop} (hgd : o.guard = none) (s x : Operand)
    (ho : o.op = .call { callee := .builtin .append, args := #[s, x], argTypes := #[27, 27] })
    (B : Nat) (v : Value) (l : List Int) (hs : a.eval s = v) (hown : OwnNums B w v l) {S : Nat → Prop} {b : Nat} (y : Int) (hx : a.eval x = .slice (some ⟨b, 0, none⟩) 1 1) (hsrc : NumsAt S w (.slice (some ⟨b, 0, none⟩) 1 1) [y])
    (hsz : l.length ≤ 1000000) (hB : B ≤ w.heap.size)
    (h : ∀ v' w', OwnNums B w' v' (l ++ [y]) → Below B w w' → w.grownBy w' v.ownBlock → (v'.ownBlock = v.ownBlock ∨ v'.ownBlock = some w.heap.size) → wpList Tryd.prog ops Q rest (a.put o.dst v') w') : wpList Tryd.prog ops Q (o :: rest) a w := by
  obtain ⟨i, hii, hz0, hz1, hz2⟩ := info_of (t := 3) (z := .int .i64 0) (n := 1) (b := 8) (by kernel_rfl)
  refine wpList_append_own_at w hgd s x 27 ho B 3 i (.int .i64 0) 1 8 Tryd.underlying27 hii hz0 hz1 hz2 rfl (by decide) v l.length (NumsRow l) hs hown ⟨b, 0, none⟩ 1 1 (NumsRow [y]) hx (NumsRow_length [y]) hsrc.news (fun u hu => NumsRow_one hu) ?_ ?_ hB ?_
  · unfold maxLen; omega
  · omega
  · intro v' w' h1 h2 h3 h6
    have h4 : OwnNums B w' v' (l ++ [y]) := by
      unfold OwnNums
      rw [NumsRow_append, List.length_append]
      exact h1
    exact h v' w' h4 ((Below.refl _ w).grown h2 hB (OwnNums.block hown)) h2 h6
section
variable {S : Nat → Prop} {B : Nat} {l : List Step} {a : Option Addr} {cap g gi gt : Nat} {dv rv cv : Value} {w0 w : World} {s : Sg} {reps : List Int}
set_option maxRecDepth 100000 in
theorem specStill (h : RunS S B l a cap g gi gt dv rv cv w0 w s reps) (h1 : s.st = 5) :
    Calls Tryd.prog 30 #[.pointer (some ⟨g, 0, none⟩)] w fun e w' => e = .returned (.tuple #[]) ∧ w' = w := by
  have c5 := h.blk.cell 5
  simp at c5
  rw [h1] at c5
  clear h h1
  go_enter Tryd.func30, Tryd.ntmps30
  go_wp2_with fail
  go_loopw [3] (fun i3 wr => wr = w) (fun _ _ => 0)
  case atStart => rfl
  case round =>
    subst hrel
    go_wp2_with fail
    go_end0
    exact ⟨rfl, rfl⟩
theorem specOn (hcm : CommandC 31) (h : RunS S B l a cap g gi gt dv rv cv w0 w s reps) (hc : s.cmds.length ≤ 800000) (hs : s.st = 1 ∨ s.st = 2 ∨ s.st = 5) :
    Calls Tryd.prog 30 #[.pointer (some ⟨g, 0, none⟩)] w fun e w' => e = .returned (.tuple #[]) ∧ ∃ dv' cv', RunS S B l a cap g gi gt dv' rv cv' w0 w' (goOnS l s) reps := by
  rcases hs with hs | hs | hs
  · refine (specFwd hcm h hc hs).mono ?_
    rintro e w' ⟨rfl, cv', h'⟩
    refine ⟨rfl, dv, cv', ?_⟩
    unfold goOnS; rw [if_pos hs]; exact h'
  · refine (specBack hcm h hc hs).mono ?_
    rintro e w' ⟨rfl, dv', cv', h'⟩
    refine ⟨rfl, dv', cv', ?_⟩
    unfold goOnS; rw [if_neg (by omega), if_pos hs]; exact h'
  · refine (specStill h hs).mono ?_
    rintro e w' ⟨rfl, rfl⟩
    refine ⟨rfl, dv, cv, ?_⟩
    unfold goOnS; rw [if_neg (by omega), if_neg (by omega)]; exact h
end
end Go.Proofs.YtlnfobeedpbnmaaDoor

namespace Go.Proofs.YtlnfobeedpbnmaaDoor
open Go.ChangeShapes Go.WideShapes Go.ChangeAt Go.RowKit
set_option linter.unusedVariables false
set_option linter.unusedSimpArgs false

section
variable {S : Nat → Prop} {B : Nat} {l : List Step} {a : Option Addr} {cap g gi gt : Nat} {dv rv cv : Value} {w0 w : World} {s : Sg} {reps : List Int}
/-- What a message is answered, case by case. -/
theorem code_none {m : Msg} (h : findI (names l) m.step < 0) : codeS l s m = 7 ∧ hearS l s m = s := by
  have : codeS l s m = 7 := by unfold codeS; rw [if_pos h]
  exact ⟨this, by unfold hearS; rw [this, if_neg (by omega)]⟩
theorem code_kind {m : Msg} (h : ¬ findI (names l) m.step < 0) (h1 : m.kind < 1 ∨ 4 < m.kind) : codeS l s m = 19 ∧ hearS l s m = s := by
  have : codeS l s m = 19 := by unfold codeS; rw [if_neg h, if_pos h1]
  exact ⟨this, by unfold hearS; rw [this, if_neg (by omega)]⟩
theorem code_over {m : Msg} (h : ¬ findI (names l) m.step < 0) (h1 : ¬ (m.kind < 1 ∨ 4 < m.kind)) (h2 : s.st ≠ 1 ∧ s.st ≠ 2) : codeS l s m = 14 ∧ hearS l s m = s := by
  have : codeS l s m = 14 := by unfold codeS; rw [if_neg h, if_neg h1, if_pos h2]
  exact ⟨this, by unfold hearS; rw [this, if_neg (by omega)]⟩
theorem code_not {m : Msg} (h : ¬ findI (names l) m.step < 0) (h1 : ¬ (m.kind < 1 ∨ 4 < m.kind)) (h2 : ¬ (s.st ≠ 1 ∧ s.st ≠ 2)) (h3 : isAt s (numOf l m.step) ≠ wantI m.kind) : codeS l s m = 14 ∧ hearS l s m = s := by
  have : codeS l s m = 14 := by unfold codeS; rw [if_neg h, if_neg h1, if_neg h2, if_pos h3]
  exact ⟨this, by unfold hearS; rw [this, if_neg (by omega)]⟩
theorem code_fits {m : Msg} (h : ¬ findI (names l) m.step < 0) (h1 : ¬ (m.kind < 1 ∨ 4 < m.kind)) (h2 : ¬ (s.st ≠ 1 ∧ s.st ≠ 2)) (h3 : ¬ isAt s (numOf l m.step) ≠ wantI m.kind) : codeS l s m = 0 ∧ hearS l s m = goOnS l (moveS l s (numOf l m.step) m.kind) := by
  have : codeS l s m = 0 := by unfold codeS; rw [if_neg h, if_neg h1, if_neg h2, if_neg h3]
  exact ⟨this, by unfold hearS; rw [if_pos this]⟩
theorem move_st (l : List Step) {s : Sg} (h : s.st = 1 ∨ s.st = 2) (k : Nat) (kind : Int) : (moveS l s k kind).st = 1 ∨ (moveS l s k kind).st = 2 ∨ (moveS l s k kind).st = 5 := by
  unfold moveS
  split
  · simp only [setIs]; omega
  · split
    · split
      · simp only [again, cmdS, setTr]; omega
      · simp [setSt]
    · split
      · simp only [setIs]; omega
      · split
        · simp only [again, cmdS, setTr]; omega
        · simp [setSt]
theorem move_one (l : List Step) (s : Sg) (k : Nat) : moveS l s k 1 = { setIs s k 2 with done := s.done ++ [k] } := by simp [moveS]
theorem move_two_a {k : Nat} (h : s.st = 1) (hm : moreB l s k = true) : moveS l s k 2 = cmdS l (setTr s k (trAt s k + 1)) 1 k := by simp [moveS, again, h, hm]
theorem move_two_b {k : Nat} (h : ¬ (s.st = 1 ∧ moreB l s k = true)) : moveS l s k 2 = setSt (setIs s k 0) 2 := by
  unfold moveS
  rw [if_neg (by omega), if_pos rfl, if_neg (by simpa using h)]
theorem move_three (l : List Step) (s : Sg) (k : Nat) : moveS l s k 3 = setIs s k 4 := by simp [moveS]
theorem move_four_a {k : Nat} (hm : moreB l s k = true) : moveS l s k 4 = cmdS l (setTr s k (trAt s k + 1)) 2 k := by simp [moveS, again, hm]
theorem move_four_b {k : Nat} (hm : moreB l s k = false) : moveS l s k 4 = setSt s 5 := by simp [moveS, hm]
theorem RunS.apartD (h : RunS S B l a cap g gi gt dv rv cv w0 w s reps) {v : Value} (hat : v.ownBlock = dv.ownBlock ∨ v.ownBlock = some w.heap.size) : Off v gi ∧ Off v gt ∧ (v.ownBlock = none ∨ v.ownBlock ≠ rv.ownBlock) := by
  obtain ⟨cs, hci, _⟩ := h.is
  obtain ⟨ct, hct, _⟩ := h.tr
  have l1 := hci.lt
  have l2 := hct.lt
  rcases hat with e | e
  · unfold Off; rw [e]; exact ⟨h.di.1, h.di.2, h.dr⟩
  · unfold Off; rw [e]
    refine ⟨fun e => by injection e with e; omega, fun e => by injection e with e; omega, .inr fun e => ?_⟩
    have := h.reps.low e.symm
    omega
theorem RunS.apartR (h : RunS S B l a cap g gi gt dv rv cv w0 w s reps) {v : Value} (hat : v.ownBlock = rv.ownBlock ∨ v.ownBlock = some w.heap.size) : Off v gi ∧ Off v gt ∧ (dv.ownBlock = none ∨ dv.ownBlock ≠ v.ownBlock) := by
  obtain ⟨cs, hci, _⟩ := h.is
  obtain ⟨ct, hct, _⟩ := h.tr
  have l1 := hci.lt
  have l2 := hct.lt
  rcases hat with e | e
  · unfold Off; rw [e]; exact ⟨h.ri.1, h.ri.2, h.dr⟩
  · unfold Off; rw [e]
    refine ⟨fun e => by injection e with e; omega, fun e => by injection e with e; omega, .inr fun e => ?_⟩
    have := h.done.low e
    omega
set_option maxRecDepth 100000 in
set_option maxHeartbeats 8000000 in
theorem specMessage (hcm : CommandC 31) (h : RunS S B l a cap g gi gt dv rv cv w0 w s reps) (ms : ByteArray) (mk : Int) (hc : s.cmds.length ≤ 700000) :
    Calls Tryd.prog 18 #[.pointer (some ⟨g, 0, none⟩), .agg #[.string ms, .int .i64 mk]] w fun e w' => e = .returned (.int .i64 (codeS l s ⟨ms, mk⟩)) ∧ ∃ dv' cv', RunS S B l a cap g gi gt dv' rv cv' w0 w' (hearS l s ⟨ms, mk⟩) reps := by
  have hl : l.length ≤ 20 := h.saga.len.2
  have hl' : (l.length : Int) ≤ 20 := by omega
  have hA : Below w.heap.size w (w.alloc (.cells #[.string ms, .int .i64 mk] 36)) := (Below.refl _ w).alloc (Nat.le_refl _) _
  have kb : Blk (w.alloc (.cells #[.string ms, .int .i64 mk] 36)) w.heap.size 36 #[.string ms, .int .i64 mk] := heap_alloc_new w _
  have HRA := h.go hA
  have HCM : Hid (CommandC 31) := hcm
  have HC : Hid (s.cmds.length ≤ 700000) := hc
  obtain ⟨bx, hbx⟩ : ∃ bx, w.heap.size = bx := ⟨_, rfl⟩
  obtain ⟨C, hC⟩ : ∃ C, codeS l s ⟨ms, mk⟩ = C := ⟨_, rfl⟩
  obtain ⟨R, hR⟩ : ∃ R, hearS l s ⟨ms, mk⟩ = R := ⟨_, rfl⟩
  rw [hC, hR]
  have HCC : Hid (codeS l s ⟨ms, mk⟩ = C) := hC
  have HRC : Hid (hearS l s ⟨ms, mk⟩ = R) := hR
  clear h hc hcm hA hC hR
  go_enter Tryd.func18, Tryd.ntmps18
  go_upto_region 1 with fail
  obtain ⟨wa, hwa⟩ : ∃ wa, w.alloc (.cells #[.string ms, .int .i64 mk] 36) = wa := ⟨_, rfl⟩
  rw [hwa] at HRA kb ⊢
  rw [hbx] at kb
  clear hwa hbx
  have cf := fun W (hW : Below wa.heap.size wa W) => HRA.findC ms hW
  have p0 := fun N : GoodW (fun W => Below wa.heap.size wa W) => (HRA.go N.ok).blk.cell 0
  have pm := fun N : GoodW (fun W => Below wa.heap.size wa W) => (Blk.below kb N.ok).cell 0
  simp at p0 pm
  haveI ne : Nonempty (GoodW (fun W => Below wa.heap.size wa W)) := ⟨⟨_, Below.refl _ _⟩⟩
  have HKB : Hid (Blk wa bx 36 #[.string ms, .int .i64 mk]) := kb
  have HR1 : Hid (RunS S B l a cap g gi gt dv rv cv w0 wa s reps) := HRA
  clear kb HRA
  by_cases hneg : findI (names l) ms < 0
  case pos =>
    obtain ⟨e1, e2⟩ := code_none (l := l) (s := s) (m := ⟨ms, mk⟩) hneg
    rw [HCC.out] at e1
    rw [HRC.out] at e2
    subst e1
    subst e2
    clear HCC HRC
    obtain ⟨fi, hfi⟩ : ∃ fi, findI (names l) ms = fi := ⟨_, rfl⟩
    rw [hfi] at hneg
    simp only [hfi] at cf
    clear hfi
    refine wp_region_calm (fun W => Below wa.heap.size wa W) (by kernel_rfl) (by kernel_rfl) (Below.refl _ _).drew ?_
    repeat (go_big_quiet_step ((go_at_call 28; exact Calls.calm_same _ ((cf _ (GoodW.ok _)).mono fun _ _ ⟨h1, h2⟩ => ⟨h1, h2.symm⟩))))
    refine wpQuiet_nil ?_
    rintro W2 ⟨⟨W3, hW3⟩, hWe⟩
    have hW2 : Below wa.heap.size wa W2 := hWe ▸ hW3
    clear hWe hW3
    clear cf p0 pm
    go_wp2_with fail
    go_ret
    exact ⟨rfl, dv, cv, HR1.out.go hW2⟩
  case neg =>
    obtain ⟨hjl, hj⟩ := find_lt (Int.not_lt.1 hneg)
    have K1 := code_kind (l := l) (s := s) (m := ⟨ms, mk⟩) hneg
    have K2 := code_over (l := l) (s := s) (m := ⟨ms, mk⟩) hneg
    have K3 := code_not (l := l) (s := s) (m := ⟨ms, mk⟩) hneg
    have K4 := code_fits (l := l) (s := s) (m := ⟨ms, mk⟩) hneg
    rw [HCC.out, HRC.out] at K1 K2 K3 K4
    clear HCC HRC hneg
    dsimp only at K1 K2 K3 K4
    simp only [← hj] at cf
    obtain ⟨j, hjj⟩ : ∃ j, numOf l ms = j := ⟨_, rfl⟩
    rw [hjj] at hjl K3 K4
    simp only [hjj] at cf
    clear hj hjj
    have hjl' : (j : Int) < (l.length : Int) := by omega
    refine wp_region_calm (fun W => Below wa.heap.size wa W) (by kernel_rfl) (by kernel_rfl) (Below.refl _ _).drew ?_
    repeat (go_big_quiet_step ((go_at_call 28; exact Calls.calm_same _ ((cf _ (GoodW.ok _)).mono fun _ _ ⟨h1, h2⟩ => ⟨h1, h2.symm⟩))))
    refine wpQuiet_nil ?_
    rintro W2 ⟨⟨W3, hW3⟩, hWe⟩
    have hW2 : Below wa.heap.size wa W2 := hWe ▸ hW3
    clear hWe hW3
    clear cf p0 pm
    have H2 := HR1.out.go hW2
    have k1 := (Blk.below HKB.out hW2).cell 1
    simp at k1
    have HR2 : Hid (RunS S B l a cap g gi gt dv rv cv w0 W2 s reps) := H2
    have HKB2 : Hid (Blk W2 bx 36 #[.string ms, .int .i64 mk]) := Blk.below HKB.out hW2
    clear HR1 HKB ne hW2
    have c5 := H2.blk.cell 5
    have c1 := H2.blk.cell 1
    simp at c5 c1
    have d1 := (H2.isCell j hjl).1
    by_cases hm1 : mk < 1
    case pos =>
      obtain ⟨rfl, rfl⟩ := K1 (.inl hm1)
      clear K1 K2 K3 K4 H2
      go_wp2_with fail
      go_ret
      exact ⟨rfl, dv, cv, HR2.out⟩
    by_cases hm4 : mk > 4
    case pos =>
      obtain ⟨rfl, rfl⟩ := K1 (.inr hm4)
      clear K1 K2 K3 K4 H2
      go_wp2_with fail
      go_ret
      exact ⟨rfl, dv, cv, HR2.out⟩
    have hmm : ¬ (mk < 1 ∨ 4 < mk) := by omega
    have K2' := K2 hmm
    have K3' := K3 hmm
    have K4' := K4 hmm
    clear K1 K2 K3 K4
    obtain ⟨st, hst⟩ : ∃ st, s.st = st := ⟨_, rfl⟩
    rw [hst] at c5 K2' K3' K4'
    have HST : Hid (s.st = st) := hst
    clear hst hmm
    by_cases hs1 : st = 1 ∨ st = 2
    case neg =>
      obtain ⟨rfl, rfl⟩ := K2' (by omega)
      have s1 : (st == 1) = false := by simp; omega
      have s2 : (st != 2) = true := by simp; omega
      clear K2' K3' K4' H2 hs1
      go_wp2_with fail
      go_ret
      exact ⟨rfl, dv, cv, HR2.out⟩
    have K3 := K3' (by omega)
    have K4 := K4' (by omega)
    clear K2' K3' K4'
    obtain ⟨iv, hiv⟩ : ∃ iv, isAt s j = iv := ⟨_, rfl⟩
    rw [hiv] at d1 K3 K4
    have HIV : Hid (isAt s j = iv) := hiv
    clear hiv
    have hmk : mk = 1 ∨ mk = 2 ∨ mk = 3 ∨ mk = 4 := by omega
    by_cases hne : iv = wantI mk
    case neg =>
      obtain ⟨rfl, rfl⟩ := K3 hne
      clear K3 K4 H2
      rcases hs1 with rfl | rfl <;> rcases hmk with rfl | rfl | rfl | rfl <;> simp only [wantI] at hne <;> simp at hne
      all_goals
        go_wp2_with fail
        go_ret
        exact ⟨rfl, dv, cv, HR2.out⟩
    obtain ⟨rfl, hRR⟩ := K4 (by rw [hne]; simp)
    have HRR : Hid (R = goOnS l (moveS l s j mk)) := hRR
    have hin2 : iv ≠ 2 := by rw [hne]; unfold wantI; split <;> omega
    have HNO : Hid (j ∉ s.done) := H2.ok.not (by rw [HIV.out]; exact hin2)
    have HOM : Hid (Ok l (moveS l s j mk)) := H2.ok.move H2.saga.tries hjl mk (by rw [HIV.out]; exact hin2)
    have HMS : Hid ((moveS l s j mk).st = 1 ∨ (moveS l s j mk).st = 2 ∨ (moveS l s j mk).st = 5) := move_st l (by rw [HST.out]; exact hs1) j mk
    have HMC : Hid ((moveS l s j mk).cmds.length ≤ 800000) := by have := move_cmds l s j mk; have := HC.out; show _ ≤ _; omega
    clear K3 K4 hRR hin2
    obtain ⟨b, off, rfl, hbB, hstc⟩ := H2.stepCell
    have d3 := (hstc j hjl).2.2.1
    have c0 := H2.blk.cell 0
    have c2 := H2.blk.cell 2
    simp at c0 c2
    have d2 := (H2.trCell j hjl).1
    have tb := H2.ok.tb j
    obtain ⟨tt, htt⟩ : ∃ tt, trAt s j = tt := ⟨_, rfl⟩
    obtain ⟨ti, hti⟩ : ∃ ti, (stepOf l j).tries = ti := ⟨_, rfl⟩
    have hmore : moreB l s j = decide (tt < ti) := by unfold moreB; rw [htt, hti]
    rw [htt] at d2 tb
    rw [hti] at d3
    have HTT : Hid (trAt s j = tt) := htt
    have HTI0 : Hid (tt < ti → tt < (stepOf l j).tries) := fun h => by rw [hti]; exact h
    have HMORE : Hid (moreB l s j = decide (tt < ti)) := hmore
    clear hstc htt hti hmore H2
    rcases hmk with rfl | rfl | rfl | rfl <;> simp only [wantI] at hne <;> simp at hne <;> subst hne
    case inl =>
      rcases hs1 with rfl | rfl
      all_goals
        go_upto_region 14 with fail
        go_cut [8] from 54 to 69 (fun s8 wx => s8 = .bool (decide (tt < ti)) ∧ Below W2.heap.size W2 wx)
        case first =>
          go_quiet (fail)
          refine meet_then (by assumption) ?_
          go_meet
          exact ⟨rfl, bel_drewN (Below.refl _ _) _⟩
        case rest =>
          obtain ⟨rfl, hbw⟩ := hcut
          obtain ⟨wA, hwA⟩ : ∃ wA, wA = wc := ⟨_, rfl⟩
          subst hwA
          have H3 := HR2.out.go hbw
          clear k1 HR2 c0 c1 c2 c5 d1 d2 d3
          have k1 := (Blk.below HKB2.out hbw).cell 1
          have c1 := H3.blk.cell 1
          have c2 := H3.blk.cell 2
          have c3 := H3.blk.cell 3
          have c5 := H3.blk.cell 5
          have f5 := H3.blk.fro 5
          simp at k1 c1 c2 c3 c5
          rw [HST.out] at c5
          obtain ⟨d1, f1⟩ := H3.isCell j hjl
          obtain ⟨d2, f2⟩ := H3.trCell j hjl
          rw [HIV.out] at d1
          rw [HTT.out] at d2
          clear hbw
          have H4 := H3.putIs j 2 (H3.ok.setIs hjl 2 HNO.out)
          have HH4 : Hid (RunS S B l (some ⟨b, off, none⟩) cap g gi gt dv rv cv w0 (wA.setCell ⟨gi, j, none⟩ (.int .i64 2)) (setIs s j 2) reps) := H4
          clear H3 H4
          go_upto_region 22 with fail
          obtain ⟨wB, hwB⟩ : ∃ wB, wA.setCell ⟨gi, j, none⟩ (.int .i64 2) = wB := ⟨_, rfl⟩
          rw [hwB] at HH4 ⊢
          clear hwB k1 c1 c2 c3 c5 d1 d2 f1 f2 f5
          have hdl := done_len HH4.out.ok
          have hwb : Below wB.heap.size wB (wB.alloc (.cells #[.int .i64 (j : Int)] 3)) := (Below.refl _ wB).alloc (Nat.le_refl _) _
          have hsB := HH4.out.size
          obtain ⟨da, dc, hdv, -⟩ := HH4.out.done.natCells
          have c3 := HH4.out.blk.cell 3
          simp at c3
          rw [hdv] at c3
          have H5 := HH4.out.go hwb
          go_upto_region 31 with (at_builtin; go_must (refine wpList_appendNumAt rfl (.tmp 101) (.tmp 103) rfl B dv (nums s.done) (by simp [Act.eval, hdv]) H5.done (j : Int) rfl (NumsAt.newAt _ (j : Int) _ (by simp)) (by rw [nums_len]; have : s.done.length ≤ l.length := hdl; omega) H5.size ?_; intro v9 w9 hown9 hB9 hgr9 hat9; obtain ⟨a9, c9, e9, -⟩ := hown9.value; obtain ⟨n9, hn9⟩ : ∃ n9, (nums s.done ++ [(j : Int)]).length = n9 := ⟨_, rfl⟩; rw [hn9] at e9; clear hn9; subst e9; have hown8 : OwnNums B w9 (.slice a9 n9 c9) (nums (s.done ++ [j])) := (by rw [nums_append]; exact hown9); obtain ⟨hbk, H6⟩ := H5.growD hown8 hB9 hgr9 (H5.apartD hat9) (by have := HOM.out; rw [move_one] at this; exact this); have g3 := hbk.cell 3; have f3 := hbk.fro 3; simp at g3; rw [hdv] at g3))
          have HM : Hid (RunS S B l (some ⟨b, off, none⟩) cap g gi gt (.slice a9 n9 c9) rv cv w0 (w9.setCell ⟨g, 3, none⟩ (.slice a9 n9 c9)) (moveS l s j 1) reps) := by rw [move_one]; exact H6
          clear H5 H6 HH4 hbk g3 f3 c3 hown8 hown9 hB9 hgr9 hat9 hwb
          have co := specOn HCM.out HM.out HMC.out HMS.out
          go_wp2_with (go_at_call 30; go_must (refine co.mono ?_; rintro e w8 ⟨rfl, dv8, cv8, H8⟩))
          go_ret
          refine ⟨rfl, dv8, cv8, ?_⟩
          rw [HRR.out]; exact H8
    case inr.inl =>
      rcases hs1 with rfl | rfl
      · go_upto_region 14 with fail
        go_cut [8] from 54 to 69 (fun s8 wx => s8 = .bool (decide (tt < ti)) ∧ Below W2.heap.size W2 wx)
        case first =>
          go_quiet (fail)
          refine meet_then (by assumption) ?_
          go_meet
          exact ⟨rfl, bel_drewN (Below.refl _ _) _⟩
        case rest =>
          obtain ⟨rfl, hbw⟩ := hcut
          obtain ⟨wA, hwA⟩ : ∃ wA, wA = wc := ⟨_, rfl⟩
          subst hwA
          have H3 := HR2.out.go hbw
          clear k1 HR2 c0 c1 c2 c5 d1 d2 d3
          have k1 := (Blk.below HKB2.out hbw).cell 1
          have c1 := H3.blk.cell 1
          have c2 := H3.blk.cell 2
          have c3 := H3.blk.cell 3
          have c5 := H3.blk.cell 5
          have f5 := H3.blk.fro 5
          simp at k1 c1 c2 c3 c5
          rw [HST.out] at c5
          obtain ⟨d1, f1⟩ := H3.isCell j hjl
          obtain ⟨d2, f2⟩ := H3.trCell j hjl
          rw [HIV.out] at d1
          rw [HTT.out] at d2
          clear hbw
          by_cases hmo : tt < ti
          · have HTI : Hid (tt < (stepOf l j).tries) := HTI0.out hmo
            have htr : 0 ≤ tt + 1 ∧ tt + 1 ≤ 5 := by
              have h5 := H3.saga.tries j hjl
              rw [← stepOf_eq hjl] at h5
              have := HTI.out
              omega
            have H4 := H3.putTr j (tt + 1) (H3.ok.setTr hjl (tt + 1) htr.1 htr.2)
            have HH4 : Hid (RunS S B l (some ⟨b, off, none⟩) cap g gi gt dv rv cv w0 (wA.setCell ⟨gt, j, none⟩ (.int .i64 (tt + 1))) (setTr s j (tt + 1)) reps) := H4
            clear H3 H4
            go_upto_region 26 with fail
            obtain ⟨wB, hwB⟩ : ∃ wB, wA.setCell ⟨gt, j, none⟩ (.int .i64 (tt + 1)) = wB := ⟨_, rfl⟩
            rw [hwB] at HH4 ⊢
            clear hwB k1 c1 c2 c3 c5 d1 d2 f1 f2 f5
            have cc := HCM.out HH4.out 1 j hjl (by have := HC.out; show s.cmds.length ≤ _; omega)
            go_upto_region 31 with (go_at_call 31; go_must (refine cc.mono ?_; rintro e w5 ⟨rfl, cv5, H5⟩))
            have HM : Hid (RunS S B l (some ⟨b, off, none⟩) cap g gi gt dv rv cv5 w0 w5 (moveS l s j 2) reps) := by rw [move_two_a HST.out (by rw [HMORE.out]; exact decide_eq_true hmo), HTT.out]; exact H5
            clear H5 HH4 cc
            have co := specOn HCM.out HM.out HMC.out HMS.out
            go_wp2_with (go_at_call 30; go_must (refine co.mono ?_; rintro e w8 ⟨rfl, dv8, cv8, H8⟩))
            go_ret
            refine ⟨rfl, dv8, cv8, ?_⟩
            rw [HRR.out]; exact H8
          · have HB : Hid (¬ (s.st = 1 ∧ moreB l s j = true)) := fun h => by rw [HMORE.out] at h; exact hmo (of_decide_eq_true h.2)
            have H4 := H3.putIs j 0 (H3.ok.setIs hjl 0 HNO.out)
            have HH4 : Hid (RunS S B l (some ⟨b, off, none⟩) cap g gi gt dv rv cv w0 (wA.setCell ⟨gi, j, none⟩ (.int .i64 0)) (setIs s j 0) reps) := H4
            clear H3 H4
            go_upto_region 28 with fail
            obtain ⟨wB, hwB⟩ : ∃ wB, wA.setCell ⟨gi, j, none⟩ (.int .i64 0) = wB := ⟨_, rfl⟩
            rw [hwB] at HH4 ⊢
            clear hwB k1 c1 c2 c3 c5 d1 d2 f1 f2 f5
            have c5 := HH4.out.blk.cell 5
            have f5 := HH4.out.blk.fro 5
            simp at c5
            have H5 := HH4.out.putSt 2
            rw [← move_two_b (l := l) HB.out] at H5
            have HM : Hid (RunS S B l (some ⟨b, off, none⟩) cap g gi gt dv rv cv w0 (wB.setCell ⟨g, 5, none⟩ (.int .i64 2)) (moveS l s j 2) reps) := H5
            clear H5 HH4
            have co := specOn HCM.out HM.out HMC.out HMS.out
            go_wp2_with (go_at_call 30; go_must (refine co.mono ?_; rintro e w8 ⟨rfl, dv8, cv8, H8⟩))
            go_ret
            refine ⟨rfl, dv8, cv8, ?_⟩
            rw [HRR.out]; exact H8
      · go_upto_region 14 with fail
        go_cut [8] from 54 to 69 (fun s8 wx => s8 = .bool (decide (tt < ti)) ∧ Below W2.heap.size W2 wx)
        case first =>
          go_quiet (fail)
          refine meet_then (by assumption) ?_
          go_meet
          exact ⟨rfl, bel_drewN (Below.refl _ _) _⟩
        case rest =>
          obtain ⟨rfl, hbw⟩ := hcut
          obtain ⟨wA, hwA⟩ : ∃ wA, wA = wc := ⟨_, rfl⟩
          subst hwA
          have H3 := HR2.out.go hbw
          clear k1 HR2 c0 c1 c2 c5 d1 d2 d3
          have k1 := (Blk.below HKB2.out hbw).cell 1
          have c1 := H3.blk.cell 1
          have c2 := H3.blk.cell 2
          have c3 := H3.blk.cell 3
          have c5 := H3.blk.cell 5
          have f5 := H3.blk.fro 5
          simp at k1 c1 c2 c3 c5
          rw [HST.out] at c5
          obtain ⟨d1, f1⟩ := H3.isCell j hjl
          obtain ⟨d2, f2⟩ := H3.trCell j hjl
          rw [HIV.out] at d1
          rw [HTT.out] at d2
          clear hbw
          have HB : Hid (¬ (s.st = 1 ∧ moreB l s j = true)) := fun h => by have := HST.out; omega
          by_cases hmo : tt < ti
          all_goals
            have H4 := H3.putIs j 0 (H3.ok.setIs hjl 0 HNO.out)
            have HH4 : Hid (RunS S B l (some ⟨b, off, none⟩) cap g gi gt dv rv cv w0 (wA.setCell ⟨gi, j, none⟩ (.int .i64 0)) (setIs s j 0) reps) := H4
            clear H3 H4
            go_upto_region 28 with fail
            obtain ⟨wB, hwB⟩ : ∃ wB, wA.setCell ⟨gi, j, none⟩ (.int .i64 0) = wB := ⟨_, rfl⟩
            rw [hwB] at HH4 ⊢
            clear hwB k1 c1 c2 c3 c5 d1 d2 f1 f2 f5
            have c5 := HH4.out.blk.cell 5
            have f5 := HH4.out.blk.fro 5
            simp at c5
            have H5 := HH4.out.putSt 2
            rw [← move_two_b (l := l) HB.out] at H5
            have HM : Hid (RunS S B l (some ⟨b, off, none⟩) cap g gi gt dv rv cv w0 (wB.setCell ⟨g, 5, none⟩ (.int .i64 2)) (moveS l s j 2) reps) := H5
            clear H5 HH4
            have co := specOn HCM.out HM.out HMC.out HMS.out
            go_wp2_with (go_at_call 30; go_must (refine co.mono ?_; rintro e w8 ⟨rfl, dv8, cv8, H8⟩))
            go_ret
            refine ⟨rfl, dv8, cv8, ?_⟩
            rw [HRR.out]; exact H8
    case inr.inr.inl =>
      rcases hs1 with rfl | rfl
      all_goals
        go_upto_region 14 with fail
        go_cut [8] from 54 to 69 (fun s8 wx => s8 = .bool (decide (tt < ti)) ∧ Below W2.heap.size W2 wx)
        case first =>
          go_quiet (fail)
          refine meet_then (by assumption) ?_
          go_meet
          exact ⟨rfl, bel_drewN (Below.refl _ _) _⟩
        case rest =>
          obtain ⟨rfl, hbw⟩ := hcut
          obtain ⟨wA, hwA⟩ : ∃ wA, wA = wc := ⟨_, rfl⟩
          subst hwA
          have H3 := HR2.out.go hbw
          clear k1 HR2 c0 c1 c2 c5 d1 d2 d3
          have k1 := (Blk.below HKB2.out hbw).cell 1
          have c1 := H3.blk.cell 1
          have c2 := H3.blk.cell 2
          have c3 := H3.blk.cell 3
          have c5 := H3.blk.cell 5
          have f5 := H3.blk.fro 5
          simp at k1 c1 c2 c3 c5
          rw [HST.out] at c5
          obtain ⟨d1, f1⟩ := H3.isCell j hjl
          obtain ⟨d2, f2⟩ := H3.trCell j hjl
          rw [HIV.out] at d1
          rw [HTT.out] at d2
          clear hbw
          have H4 := H3.putIs j 4 (H3.ok.setIs hjl 4 HNO.out)
          rw [← move_three l s j] at H4
          have HM : Hid (RunS S B l (some ⟨b, off, none⟩) cap g gi gt dv rv cv w0 (wA.setCell ⟨gi, j, none⟩ (.int .i64 4)) (moveS l s j 3) reps) := H4
          clear H3 H4
          have co := specOn HCM.out HM.out HMC.out HMS.out
          go_wp2_with (go_at_call 30; go_must (refine co.mono ?_; rintro e w8 ⟨rfl, dv8, cv8, H8⟩))
          go_ret
          refine ⟨rfl, dv8, cv8, ?_⟩
          rw [HRR.out]; exact H8
    case inr.inr.inr =>
      rcases hs1 with rfl | rfl
      all_goals
        go_upto_region 14 with fail
        go_cut [8] from 54 to 69 (fun s8 wx => s8 = .bool (decide (tt < ti)) ∧ Below W2.heap.size W2 wx)
        case first =>
          go_quiet (fail)
          refine meet_then (by assumption) ?_
          go_meet
          exact ⟨rfl, bel_drewN (Below.refl _ _) _⟩
        case rest =>
          obtain ⟨rfl, hbw⟩ := hcut
          obtain ⟨wA, hwA⟩ : ∃ wA, wA = wc := ⟨_, rfl⟩
          subst hwA
          have H3 := HR2.out.go hbw
          clear k1 HR2 c0 c1 c2 c5 d1 d2 d3
          have k1 := (Blk.below HKB2.out hbw).cell 1
          have c1 := H3.blk.cell 1
          have c2 := H3.blk.cell 2
          have c3 := H3.blk.cell 3
          have c5 := H3.blk.cell 5
          have f5 := H3.blk.fro 5
          simp at k1 c1 c2 c3 c5
          rw [HST.out] at c5
          obtain ⟨d1, f1⟩ := H3.isCell j hjl
          obtain ⟨d2, f2⟩ := H3.trCell j hjl
          rw [HIV.out] at d1
          rw [HTT.out] at d2
          clear hbw
          by_cases hmo : tt < ti
          · have HTI : Hid (tt < (stepOf l j).tries) := HTI0.out hmo
            have htr : 0 ≤ tt + 1 ∧ tt + 1 ≤ 5 := by
              have h5 := H3.saga.tries j hjl
              rw [← stepOf_eq hjl] at h5
              have := HTI.out
              omega
            have H4 := H3.putTr j (tt + 1) (H3.ok.setTr hjl (tt + 1) htr.1 htr.2)
            have HH4 : Hid (RunS S B l (some ⟨b, off, none⟩) cap g gi gt dv rv cv w0 (wA.setCell ⟨gt, j, none⟩ (.int .i64 (tt + 1))) (setTr s j (tt + 1)) reps) := H4
            clear H3 H4
            go_upto_region 18 with fail
            obtain ⟨wB, hwB⟩ : ∃ wB, wA.setCell ⟨gt, j, none⟩ (.int .i64 (tt + 1)) = wB := ⟨_, rfl⟩
            rw [hwB] at HH4 ⊢
            clear hwB k1 c1 c2 c3 c5 d1 d2 f1 f2 f5
            have cc := HCM.out HH4.out 2 j hjl (by have := HC.out; show s.cmds.length ≤ _; omega)
            go_upto_region 31 with (go_at_call 31; go_must (refine cc.mono ?_; rintro e w5 ⟨rfl, cv5, H5⟩))
            have HM : Hid (RunS S B l (some ⟨b, off, none⟩) cap g gi gt dv rv cv5 w0 w5 (moveS l s j 4) reps) := by rw [move_four_a (by rw [HMORE.out]; exact decide_eq_true hmo), HTT.out]; exact H5
            clear H5 HH4 cc
            have co := specOn HCM.out HM.out HMC.out HMS.out
            go_wp2_with (go_at_call 30; go_must (refine co.mono ?_; rintro e w8 ⟨rfl, dv8, cv8, H8⟩))
            go_ret
            refine ⟨rfl, dv8, cv8, ?_⟩
            rw [HRR.out]; exact H8
          · have H4 := H3.putSt 5
            rw [← move_four_b (l := l) (k := j) (by rw [HMORE.out]; exact decide_eq_false hmo)] at H4
            have HM : Hid (RunS S B l (some ⟨b, off, none⟩) cap g gi gt dv rv cv w0 (wA.setCell ⟨g, 5, none⟩ (.int .i64 5)) (moveS l s j 4) reps) := H4
            clear H3 H4
            have co := specOn HCM.out HM.out HMC.out HMS.out
            go_wp2_with (go_at_call 30; go_must (refine co.mono ?_; rintro e w8 ⟨rfl, dv8, cv8, H8⟩))
            go_ret
            refine ⟨rfl, dv8, cv8, ?_⟩
            rw [HRR.out]; exact H8
end
end Go.Proofs.YtlnfobeedpbnmaaDoor

namespace Go.Proofs.YtlnfobeedpbnmaaDoor
open Go.ChangeShapes Go.WideShapes Go.ChangeAt Go.RowKit
set_option linter.unusedVariables false
set_option linter.unusedSimpArgs false

/-- A row of zeros is made. -/
theorem made_zeros (n : Nat) (hn : n ≤ 20) : ∃ zc : Array Value, IntsAt zc (List.replicate n 0) ∧ ∀ w, (Instr.makeSlice 27 (.int .i64 (n : Int)) (.int .i64 (n : Int))).run Tryd.prog w = .ok (.slice (some ⟨w.heap.size, 0, none⟩) n n) (w.alloc (.cells zc 3)) := by
  refine ⟨madeCells #[.int .i64 0] n, ⟨by simp [size_madeCells], fun i hi => ?_⟩, fun w => run_make_row' 27 3 (.int .i64 0) 8 Tryd.underlying27 (by kernel_rfl) rfl .i64 .i64 n (by omega) (by omega) w⟩
  have hi' : i < n := by simpa using hi
  rw [← Array.getElem?_toList, toList_madeCells_one, List.getElem?_replicate, if_pos hi', List.getElem_replicate]
/-- Three blocks are made. -/
theorem three (w : World) (zc cs : Array Value) : Blk ((((w.alloc (.cells zc 3)).alloc (.cells zc 3)).alloc (.cells cs 53)).drew) w.heap.size 3 zc ∧ Blk ((((w.alloc (.cells zc 3)).alloc (.cells zc 3)).alloc (.cells cs 53)).drew) (w.heap.size + 1) 3 zc ∧ Blk ((((w.alloc (.cells zc 3)).alloc (.cells zc 3)).alloc (.cells cs 53)).drew) (w.heap.size + 1 + 1) 53 cs ∧ Below w.heap.size w ((((w.alloc (.cells zc 3)).alloc (.cells zc 3)).alloc (.cells cs 53)).drew) := by
  have h0 : Blk (w.alloc (.cells zc 3)) w.heap.size 3 zc := heap_alloc_new w _
  have h1 := h0.below ((Below.refl _ _).alloc (Nat.le_refl _) (.cells zc 3))
  have h2 := h1.below ((Below.refl _ _).alloc (Nat.le_refl _) (.cells cs 53))
  exact ⟨h2, last3 w _ _ _, last3' w _ _ _, (bel3 w _ _ _).drew⟩
section
variable {S : Nat → Prop} {B : Nat} {l : List Step} {a : Option Addr} {cap : Nat} {w : World}
/-- A run that begins. -/
theorem RunS.start {wz : World} {g gi gt : Nat} {ci ct : Array Value} (h : SagaIn S w.heap.size w a cap l) (hb : Below w.heap.size w wz) (hg : Blk wz g 53 #[.slice a l.length cap, .slice (some ⟨gi, 0, none⟩) l.length l.length, .slice (some ⟨gt, 0, none⟩) l.length l.length, .slice none 0 0, .int .i64 0, .int .i64 1, .slice none 0 0, .slice none 0 0, .slice none 0 0])
    (hi : Blk wz gi 3 ci) (ht : Blk wz gt 3 ct) (hzi : IntsAt ci (List.replicate l.length 0)) (hzt : IntsAt ct (List.replicate l.length 0)) (hlow : w.heap.size ≤ g ∧ w.heap.size ≤ gi ∧ w.heap.size ≤ gt) (hne : gi ≠ gt) :
    RunS S w.heap.size l a cap g gi gt (.slice none 0 0) (.slice none 0 0) (.slice none 0 0) w wz (zeroS l) [] :=
  ⟨h.below hb (Nat.le_refl _), hg, ⟨ci, hi, hzi⟩, ⟨ct, ht, hzt⟩, OwnNums.nil _ _, OwnNums.nil _ _, OwnCmds.nil _ _, hlow, hne, ⟨by simp [Off, Value.ownBlock], by simp [Off, Value.ownBlock]⟩, ⟨by simp [Off, Value.ownBlock], by simp [Off, Value.ownBlock]⟩, .inl rfl, Ok.zero l, Nat.le_refl _, hb, Frm.below hb⟩
set_option maxRecDepth 100000 in
set_option maxHeartbeats 4000000 in
theorem specBegin (hcm : CommandC 31) (h : SagaIn S w.heap.size w a cap l) :
    Calls Tryd.prog 17 #[.slice a l.length cap] w fun e w' => ∃ g gi gt dv cv, e = .returned (.pointer (some ⟨g, 0, none⟩)) ∧ RunS S w.heap.size l a cap g gi gt dv (.slice none 0 0) cv w w' (beginS l) [] := by
  have hl : l.length ≤ 20 := h.len.2
  have hl' : (l.length : Int) ≤ 20 := by omega
  have HS : Hid (SagaIn S w.heap.size w a cap l) := h
  have HCM : Hid (CommandC 31) := hcm
  obtain ⟨zc, hzc, hmk⟩ := made_zeros l.length hl
  have HZC : Hid (IntsAt zc (List.replicate l.length 0)) := hzc
  clear h hcm hzc
  go_enter Tryd.func17, Tryd.ntmps17
  go_upto_region 1 with fail
  go_cut [3] from 4 to 12 (fun s3 wx => ∃ g gi gt, s3 = .pointer (some ⟨g, 0, none⟩) ∧ Blk wx g 53 #[.slice a l.length cap, .slice (some ⟨gi, 0, none⟩) l.length l.length, .slice (some ⟨gt, 0, none⟩) l.length l.length, .slice none 0 0, .int .i64 0, .int .i64 0, .slice none 0 0, .slice none 0 0, .slice none 0 0] ∧ Blk wx gi 3 zc ∧ Blk wx gt 3 zc ∧ (w.heap.size ≤ g ∧ w.heap.size ≤ gi ∧ w.heap.size ≤ gt) ∧ gi ≠ gt ∧ Below w.heap.size w wx)
  case first =>
    go_region
    · refine meet_then (by assumption) ?_
      go_meet
      exact ⟨_, _, _, rfl, (three w zc _).2.2.1, (three w zc _).1, (three w zc _).2.1, by omega, by omega, (three w zc _).2.2.2⟩
    · refine meet_then (by assumption) ?_
      go_meet
      exact ⟨_, _, _, rfl, (three w zc _).2.2.1, (three w zc _).2.1, (three w zc _).1, by omega, by omega, (three w zc _).2.2.2⟩
  case rest =>
    obtain ⟨g, gi, gt, rfl, hg, hgi, hgt, hlow, hne, hb⟩ := hcut
    obtain ⟨wA, hwA⟩ : ∃ wA, wA = wc := ⟨_, rfl⟩
    subst hwA
    have c5 := hg.cell 5
    have f5 := hg.fro 5
    simp at c5
    have n1 := Blk.apart hgi hg (by decide)
    have n2 := Blk.apart hgt hg (by decide)
    have H1 := RunS.start HS.out (hb.setCell (p := ⟨g, 5, none⟩) hlow.1 (.int .i64 1)) (hg.set 5 (.int .i64 1)) (hgi.other n1 5 _) (hgt.other n2 5 _) HZC.out HZC.out hlow hne
    have HH1 : Hid (RunS S w.heap.size l a cap g gi gt (.slice none 0 0) (.slice none 0 0) (.slice none 0 0) w (wA.setCell ⟨g, 5, none⟩ (.int .i64 1)) (zeroS l) []) := H1
    clear H1 hg hgi hgt hlow hne hb n1 n2 hmk
    go_upto_region 3 with fail
    obtain ⟨wB, hwB⟩ : ∃ wB, wA.setCell ⟨g, 5, none⟩ (.int .i64 1) = wB := ⟨_, rfl⟩
    rw [hwB] at HH1 ⊢
    clear hwB c5 f5
    have co := specFwd HCM.out HH1.out (by simp [zeroS]) rfl
    go_wp2_with (go_at_call 30; go_must (refine co.mono ?_; rintro e w5 ⟨rfl, cv5, H5⟩))
    go_ret
    exact ⟨g, gi, gt, _, cv5, rfl, H5⟩
end
end Go.Proofs.YtlnfobeedpbnmaaDoor

namespace Go.Proofs.YtlnfobeedpbnmaaDoor
open Go.ChangeShapes Go.WideShapes Go.ChangeAt Go.RowKit
set_option linter.unusedVariables false
set_option linter.unusedSimpArgs false

theorem results_cell1 {fn : Func} {p : Tmp} {ty : TypeId} (h : fn.results = #[.cell p ty]) (tmps : Array Value) (P : Program) (w : World) :
    (results fn tmps).run P w = ((asAddr (tmps.getD p undef)).run P w).andThen fun a w₁ => (loadVar ty a).run P w₁ := by
  simp only [results, h]
  simp [Sem.run_bind, Result.andThen]
/-- What a RunSaga answers. -/
structure Log where
  code : Int
  st : Int
  reps : List Int
  cmds : List Cmd
  done : List ByteArray
def nameAt (l : List Step) (k : Nat) : ByteArray := (stepOf l k).name
def logOf (l : List Step) (p : Sg × List Int) : Log := ⟨0, p.1.st, p.2, p.1.cmds, p.1.done.map (nameAt l)⟩
noncomputable def logF (l : List Step) (ms : List Msg) : Log :=
  if 4096 < l.length ∨ 4096 < ms.length then ⟨2, 0, [], [], []⟩
  else if sagaB l = false then ⟨1, 0, [], [], []⟩
  else if 300 < ms.length then ⟨10, 0, [], [], []⟩
  else logOf l (hears l (beginS l, []) ms)
/-- An answer in memory. -/
def OwnLog (B : Nat) (w : World) (v : Value) (x : Log) : Prop := ∃ rv cv nv, v = .agg #[.int .i64 x.code, .int .i64 x.st, rv, cv, nv] ∧ OwnNums B w rv x.reps ∧ OwnCmds B w cv x.cmds ∧ OwnTxts B w nv x.done
theorem OwnLog.bare (B : Nat) (w : World) (c : Int) : OwnLog B w (.agg #[.int .i64 c, .int .i64 0, .slice none 0 0, .slice none 0 0, .slice none 0 0]) ⟨c, 0, [], [], []⟩ := ⟨_, _, _, rfl, OwnNums.nil _ _, OwnCmds.nil _ _, OwnTxts.nil _ _⟩
/-- What a RunSaga answers, whatever it is. -/
def RunSagaC (f : Nat) (T : World → Prop) (C : List Step → List Msg → Log) : Prop := ∀ (S : Nat → Prop) (l0 : List Step) (l1 : List Msg) (v0 v1 : Value) (w : World), (∀ b, S b → b < w.heap.size) → StepsAt S w v0 l0 → l0.length ≤ 1048576 → (∀ x ∈ l0, StepsOK 1048576 x) → StepsFull w v0 l0 → MsgsAt S w v1 l1 → l1.length ≤ 1048576 → (∀ W, Below w.heap.size w W → T W) →
  Calls Tryd.prog f #[v0, v1] w fun e w' => (∃ v, e = .returned v ∧ OwnLog w.heap.size w' v (C l0 l1)) ∧ Below w.heap.size w w'
theorem hears_append (l : List Step) : ∀ (a : List Msg) (p : Sg × List Int) (b : List Msg), hears l p (a ++ b) = hears l (hears l p a) b
  | [], _, _ => rfl
  | m :: a, p, b => by simp only [List.cons_append, hears]; exact hears_append l a _ b
theorem hears_take {l : List Step} {p q : Sg × List Int} {ms : List Msg} {k : Nat} (hk : k < ms.length) (h : hears l p (ms.take k) = q) : hears l p (ms.take (k + 1)) = (hearS l q.1 ms[k], q.2 ++ [codeS l q.1 ms[k]]) := by
  rw [List.take_succ_eq_append_getElem hk, hears_append, h]
  simp only [hears]
theorem hear_cmds {l : List Step} {s : Sg} (h : Ok l s) (ht : ∀ i (hi : i < l.length), l[i].tries ≤ 5) (m : Msg) : (hearS l s m).cmds.length ≤ s.cmds.length + l.length + 2 := by
  by_cases hc : codeS l s m = 0
  · have e : hearS l s m = goOnS l (moveS l s (numOf l m.step) m.kind) := by unfold hearS; rw [if_pos hc]
    rw [e]
    unfold codeS at hc
    by_cases h1 : findI (names l) m.step < 0
    · rw [if_pos h1] at hc; omega
    rw [if_neg h1] at hc
    by_cases h2 : m.kind < 1 ∨ 4 < m.kind
    · rw [if_pos h2] at hc; omega
    rw [if_neg h2] at hc
    by_cases h3 : s.st ≠ 1 ∧ s.st ≠ 2
    · rw [if_pos h3] at hc; omega
    rw [if_neg h3] at hc
    by_cases h4 : isAt s (numOf l m.step) ≠ wantI m.kind
    · rw [if_pos h4] at hc; omega
    have hw : isAt s (numOf l m.step) ≠ 2 := by
      rw [Classical.not_not.1 h4]
      unfold wantI
      split <;> omega
    have hok := h.move ht (find_lt (Int.not_lt.1 h1)).1 m.kind hw
    have := goOn_cmds hok
    have := move_cmds l s (numOf l m.step) m.kind
    omega
  · have e : hearS l s m = s := by unfold hearS; rw [if_neg hc]
    rw [e]; omega
theorem saga_in {S : Nat → Prop} {w : World} {a : Option Addr} {cap : Nat} {l : List Step} (hS : ∀ b, S b → b < w.heap.size) (h : StepsAt S w (.slice a l.length cap) l) (hok : ∀ x ∈ l, StepsOK 1048576 x) (hb : sagaB l = true) : SagaIn S w.heap.size w a cap l := by
  have hlen : 1 ≤ l.length ∧ l.length ≤ 20 := Classical.byContradiction fun hn => by rw [sagaB_len hn] at hb; simp at hb
  have hat : ∀ i (hi : i < l.length), StepAt l i hi := fun i hi => Classical.byContradiction fun hn => by rw [sagaB_not i hi hn] at hb; simp at hb
  refine ⟨hS, h, hok, hlen, fun i hi => ?_, fun i hi t ht => ?_⟩
  · have := (hat i hi).1
    unfold stepB0 at this
    simp only [Bool.and_eq_true, decide_eq_true_eq] at this
    omega
  · obtain ⟨k, hk, rfl⟩ := List.getElem_of_mem ht
    have h1 := ((hat i hi).2 k hk).1
    have h2 : hasB (names l) l[i].needs[k] = true := by
      unfold hasB at h1 ⊢
      rw [List.any_eq_true] at h1 ⊢
      obtain ⟨x, hx, he⟩ := h1
      refine ⟨x, ?_, he⟩
      unfold ahead at hx
      unfold names
      rw [List.mem_map] at hx ⊢
      obtain ⟨y, hy, rfl⟩ := hx
      exact ⟨y, List.mem_of_mem_take hy, rfl⟩
    rw [← findI_has] at h2
    exact of_decide_eq_true h2
theorem rowOff {w : World} {B g n k : Nat} {E ty : TypeId} {v : Value} {xs : List Value} {cs : Array Value} (h : w.ownsRow B E k v n xs) (hb : Blk w g ty cs) (hne : ty ≠ E) : Off v g := by
  rcases h.2 with ⟨rfl, _⟩ | ⟨k, cap, cur, rfl, hB, hg, _⟩
  · simp [Off, Value.ownBlock]
  · intro e
    simp [Value.ownBlock] at e
    subst e
    exact Blk.apart hb (show Blk w _ _ _ from hg) hne rfl
theorem rowApart {w : World} {B B' n m k k' : Nat} {E E' : TypeId} {v u : Value} {xs ys : List Value} (h : w.ownsRow B E k v n xs) (h' : w.ownsRow B' E' k' u m ys) (hne : E ≠ E') : v.ownBlock = none ∨ v.ownBlock ≠ u.ownBlock := by
  rcases h'.2 with ⟨rfl, _⟩ | ⟨g, cap, cur, rfl, hB, hg, _⟩
  · cases e : v.ownBlock with
    | none => exact .inl rfl
    | some x => right; simp [Value.ownBlock]
  · right
    exact rowOff h (show Blk w _ _ _ from hg) (fun e => hne e.symm)
/-- The document's run at its end: the names of the done ones are collected. -/
structure RunE (S : Nat → Prop) (B : Nat) (l : List Step) (a : Option Addr) (cap g gi gt : Nat) (dv rv cv nv : Value) (w0 w : World) (s : Sg) (reps : List Int) (ns : List ByteArray) : Prop where
  saga : SagaIn S B w a cap l
  blk : Blk w g 53 #[.slice a l.length cap, .slice (some ⟨gi, 0, none⟩) l.length l.length, .slice (some ⟨gt, 0, none⟩) l.length l.length, dv, .int .i64 0, .int .i64 s.st, rv, cv, nv]
  done : OwnNums B w dv (nums s.done)
  reps : OwnNums B w rv reps
  cmds : OwnCmds B w cv s.cmds
  nms : OwnTxts B w nv ns
  low : B ≤ g
  ok : Ok l s
  base : B ≤ w0.heap.size
  bel : Below B w0 w
section
variable {S : Nat → Prop} {B : Nat} {l : List Step} {a : Option Addr} {cap g gi gt : Nat} {dv rv cv nv : Value} {w0 w : World} {s : Sg} {reps : List Int} {ns : List ByteArray}
theorem RunS.end' (h : RunS S B l a cap g gi gt dv rv cv w0 w s reps) : RunE S B l a cap g gi gt dv rv cv (.slice none 0 0) w0 w s reps [] :=
  ⟨h.saga, h.blk, h.done, h.reps, h.cmds, OwnTxts.nil _ _, h.low.1, h.ok, h.base, h.bel⟩
theorem RunE.size (h : RunE S B l a cap g gi gt dv rv cv nv w0 w s reps ns) : B ≤ w.heap.size := Nat.le_trans h.base h.bel.size
theorem RunE.go (h : RunE S B l a cap g gi gt dv rv cv nv w0 w s reps ns) {w' : World} (hb : Below w.heap.size w w') : RunE S B l a cap g gi gt dv rv cv nv w0 w' s reps ns :=
  ⟨h.saga.below (hb.mono h.size) h.size, Blk.below h.blk hb, h.done.below hb, h.reps.below hb, h.cmds.below hb, OwnTxts.below h.nms hb, h.low, h.ok, h.base, h.bel.trans (hb.mono h.size)⟩
theorem RunE.grow (h : RunE S B l a cap g gi gt dv rv cv nv w0 w s reps ns) {w' : World} {nv' : Value} {ns' : List ByteArray} (hown : OwnTxts B w' nv' ns') (hB : Below B w w') (hgr : w.grownBy w' nv.ownBlock) :
    Blk w' g 53 #[.slice a l.length cap, .slice (some ⟨gi, 0, none⟩) l.length l.length, .slice (some ⟨gt, 0, none⟩) l.length l.length, dv, .int .i64 0, .int .i64 s.st, rv, cv, nv] ∧ RunE S B l a cap g gi gt dv rv cv nv' w0 (w'.setCell ⟨g, 8, none⟩ nv') s reps ns' := by
  have hbk := h.blk.kept hgr (Ne.symm (rowOff h.nms h.blk (by decide)))
  have hd' : OwnNums B w' dv (nums s.done) := h.done.kept hgr (rowApart h.done h.nms (by decide))
  have hr' : OwnNums B w' rv reps := h.reps.kept hgr (rowApart h.reps h.nms (by decide))
  have hc' : OwnCmds B w' cv s.cmds := h.cmds.kept hgr (rowApart h.cmds h.nms (by decide))
  have hb : Below B w (w'.setCell ⟨g, 8, none⟩ nv') := hB.setCell h.low nv'
  exact ⟨hbk, h.saga.below hb h.size, hbk.set 8 _, ownsRow_set hd' (rowOff hd' hbk (by decide)) _, ownsRow_set hr' (rowOff hr' hbk (by decide)) _, ownsRow_set hc' (rowOff hc' hbk (by decide)) _, ownsRow_set hown (rowOff hown hbk (by decide)) _, h.low, h.ok, h.base, h.bel.trans hb⟩
theorem RunE.stepCell (h : RunE S B l a cap g gi gt dv rv cv nv w0 w s reps ns) : ∃ b off, a = some ⟨b, off, none⟩ ∧ b < B ∧ ∀ i (hi : i < l.length), w.cell? ⟨b, off + i * 4, none⟩ = some (.string (nameAt l i)) := by
  obtain ⟨_, a', cap', hv, hc⟩ := h.saga.at'
  simp only [Value.slice.injEq] at hv
  obtain ⟨rfl, -, rfl⟩ := hv
  obtain ⟨b, off, rfl, hS, hcell⟩ := hc (by have := h.saga.len; omega)
  exact ⟨b, off, rfl, h.saga.low b hS, fun i hi => by unfold nameAt; rw [stepOf_eq hi]; exact (hcell i hi).1⟩
end
end Go.Proofs.YtlnfobeedpbnmaaDoor

namespace Go.Proofs.YtlnfobeedpbnmaaDoor
open Go.ChangeShapes Go.WideShapes Go.ChangeAt Go.RowKit
set_option linter.unusedVariables false
set_option linter.unusedSimpArgs false

section
variable {P : Program} {md : Region.Mode} {ops : Array Oper} {o : Oper} {Q : Exit → Act → World → Prop}
/-- What is asked behind the others: the last one. -/
def lastQ (P : Program) (o : Oper) (Q : Exit → Act → World → Prop) : Exit → Act → World → Prop
  | .normal, a, w => o.wp P a w (fun a' w' => Q .normal a' w') Q
  | .panic c, a, w => Q (.panic c) a w
  | .outgrown, a, w => Q .outgrown a w
  | _, _, _ => False
theorem upon_last {x : Oper} {a : Act} {w : World} {K K' : Act → World → Prop} (hK : ∀ a w, K a w → K' a w) (h : x.wp P a w K (lastQ P o Q)) : x.wp P a w K' Q := by
  unfold Oper.wp at *
  generalize (execOp a.eval x).run P w = r at *
  cases r with
  | ok n w' =>
    cases n <;> simp only [Oper.upon] at h ⊢ <;>
      first
        | exact hK _ _ h
        | exact Calls.mono h (fun e w'' he => by cases e <;> first | exact hK _ _ he | exact he)
        | exact Rows.mono h (fun _ _ he => hK _ _ he)
  | halt x w' => cases x <;> simp only [Oper.upon] at h ⊢ <;> exact h
/-- Each waits for earlier ones alone, none has a guard, the last one waits for all. -/
structure LastOne (md : Region.Mode) (ops : Array Oper) (o : Oper) : Prop where
  back : ∀ (j : Nat) (x : Oper), ops[j]? = some x → x.guard = none ∧ ∀ e ∈ x.after, e.on < j
  own : o.guard = none ∧ ∀ e ∈ o.after, e.on < ops.size
  all : ∀ j, j < ops.size → (∃ e ∈ o.after, Region.binds md e = true ∧ e.on = j) ∨ ∃ (k : Nat) (x : Oper), j < k ∧ ops[k]? = some x ∧ ∃ e ∈ x.after, Region.binds md e = true ∧ e.on = j
/-- Who has come up has waited. -/
def Closed (md : Region.Mode) (ops : Array Oper) (listed : Array Bool) : Prop := ∀ (j : Nat) (x : Oper), ops[j]? = some x → listed.getD j true = true → ∀ e ∈ x.after, Region.binds md e = true → listed.getD e.on false = true
theorem Closed.set {listed : Array Bool} (h : Closed md ops listed) {i : Nat} (hi : i ∈ Region.ready md ops listed) : Closed md ops (listed.setIfInBounds i true) := by
  intro j x hx hj e he hb
  obtain ⟨h1, y, hy, h2⟩ := mem_ready.1 hi
  have key : listed.getD e.on false = true := by
    by_cases e' : i = j
    · subst e'
      obtain rfl := Option.some.inj (hx.symm.trans hy)
      exact h2 e he hb
    · rw [getD_set_ne true e'] at hj
      exact h j x hx hj e he hb
  by_cases e' : i = e.on
  · rw [← e'] at key ⊢
    rw [getD_both h1] at key
    cases key
  · rw [getD_set_ne false e']; exact key
theorem getD_push {listed : Array Bool} {n i : Nat} (hs : listed.size = n) (hi : i < n) (x d : Bool) : (listed.push x).getD i d = listed.getD i d := by
  have h1 : i < listed.size := by omega
  simp [Array.getElem?_push, h1, Nat.ne_of_lt h1]
theorem ready_push {listed : Array Bool} (hl : LastOne md ops o) (hs : listed.size = ops.size) {i : Nat} (hi : i < ops.size) (x : Bool) : i ∈ Region.ready md (ops.push o) (listed.push x) ↔ i ∈ Region.ready md ops listed := by
  rw [mem_ready, mem_ready, getD_push hs hi]
  have e : (ops.push o)[i]? = ops[i]? := by simp [Array.getElem?_push, Nat.ne_of_lt hi]
  rw [e]
  constructor
  · rintro ⟨h1, y, hy, h2⟩
    refine ⟨h1, y, hy, fun e he hb => ?_⟩
    have := h2 e he hb
    rwa [getD_push hs (by have := (hl.back i y hy).2 e he; omega)] at this
  · rintro ⟨h1, y, hy, h2⟩
    refine ⟨h1, y, hy, fun e he hb => ?_⟩
    rw [getD_push hs (by have := (hl.back i y hy).2 e he; omega)]
    exact h2 e he hb
theorem all_listed {listed : Array Bool} (hl : LastOne md ops o) (hs : listed.size = ops.size) (hr : Region.ready md ops listed = []) : ∀ j, j < ops.size → listed.getD j true = true := by
  intro j
  induction j using Nat.strongRecOn with
  | ind j ih =>
    intro hj
    cases h : listed.getD j true
    · have hmem : j ∈ Region.ready md ops listed := by
        rw [mem_ready]
        refine ⟨h, ops[j], by simp [hj], fun e he hb => ?_⟩
        have hlt := (hl.back j ops[j] (by simp [hj])).2 e he
        have h1 := ih e.on hlt (by omega)
        have h2 : e.on < listed.size := by omega
        simp [h2] at h1 ⊢
        exact h1
      rw [hr] at hmem
      cases hmem
    · rfl
theorem last_ready {listed : Array Bool} (hl : LastOne md ops o) (hs : listed.size = ops.size) (hc : Closed md ops listed) : ops.size ∈ Region.ready md (ops.push o) (listed.push false) ↔ ∀ j, j < ops.size → listed.getD j true = true := by
  rw [mem_ready]
  have e : (ops.push o)[ops.size]? = some o := by simp
  rw [e]
  have h0 : (listed.push false).getD ops.size true = false := by simp [← hs]
  rw [h0]
  have turn : ∀ j, j < ops.size → listed.getD j false = true → listed.getD j true = true := fun j hj h => by
    have h3 : j < listed.size := by omega
    simp [h3] at h ⊢
    exact h
  constructor
  · rintro ⟨_, y, hy, h2⟩
    obtain rfl := Option.some.inj hy
    have : ∀ m j, j < ops.size → ops.size - j ≤ m → listed.getD j true = true := by
      intro m
      induction m with
      | zero => intro j hj hm; omega
      | succ m ih =>
        intro j hj hm
        rcases hl.all j hj with ⟨e, he, hb, rfl⟩ | ⟨k, x, hk, hx, e, he, hb, rfl⟩
        · have := h2 e he hb
          rw [getD_push hs hj] at this
          exact turn _ hj this
        · have hks := (Array.getElem?_eq_some_iff.1 hx).1
          exact turn _ hj (hc k x hx (ih k hks (by omega)) e he hb)
    exact fun j hj => this _ j hj (Nat.le_refl _)
  · intro h
    refine ⟨rfl, o, rfl, fun e he hb => ?_⟩
    have hlt := hl.own.2 e he
    rw [getD_push hs hlt]
    have := h e.on hlt
    have h3 : e.on < listed.size := by omega
    simp [h3] at this ⊢
    exact this
theorem ready_all {listed : Array Bool} (hs : listed.size = ops.size) (h : ∀ j, j < ops.size → listed.getD j true = true) : Region.ready md ops listed = [] := by
  refine List.eq_nil_iff_forall_not_mem.2 fun i hi => ?_
  rw [mem_ready] at hi
  obtain ⟨h1, y, hy, _⟩ := hi
  have := h i (Array.getElem?_eq_some_iff.1 hy).1
  rw [h1] at this
  cases this
theorem wpOp_none {i : Nat} {x : Oper} {K : Act → World → Prop} {a : Act} {w : World} (hx : ops[i]? = some x) (hg : x.guard = none) (h : x.wp P a w K Q) : wpOp P ops Q i K a w := by
  unfold wpOp
  simp only [hx]
  have hw : Region.wanted x (yielded ops a.tmps) = true := by simp [Region.wanted, hg]
  rw [if_pos hw]
  exact .inl h
theorem end_ready {listed : Array Bool} (hl : LastOne md ops o) (hs : listed.size = ops.size) (h : ∀ j, j < ops.size → listed.getD j true = true) : Region.ready md (ops.push o) ((listed.push false).setIfInBounds ops.size true) = [] := by
  refine ready_all (by simp [hs]) fun j hj => ?_
  have hj' : j < ops.size + 1 := by simpa using hj
  by_cases e : j = ops.size
  · subst e; simp [← hs]
  · have hlt : j < ops.size := by omega
    rw [getD_set_ne true (Ne.symm e), getD_push hs hlt]
    exact h j hlt
theorem wpAny_nil {Q : Exit → Act → World → Prop} {listed : Array Bool} {a : Act} {w : World} (hr : Region.ready md ops listed = []) (h : Q .normal a w) : ∀ f, wpAny P md ops Q f listed a w
  | 0 => ⟨hr, h⟩
  | _ + 1 => ⟨fun _ => h, by rw [hr]; simp⟩
theorem wpAny_last (hl : LastOne md ops o) : ∀ (f : Nat) (listed : Array Bool) (a : Act) (w : World), listed.size = ops.size → Closed md ops listed → wpAny P md ops (lastQ P o Q) f listed a w → wpAny P md (ops.push o) Q (f + 1) (listed.push false) a w := by
  have atEnd : ∀ (f : Nat) (listed : Array Bool) (a : Act) (w : World), listed.size = ops.size → (∀ j, j < ops.size → listed.getD j true = true) → lastQ P o Q .normal a w → wpOp P (ops.push o) Q ops.size (wpAny P md (ops.push o) Q f ((listed.push false).setIfInBounds ops.size true)) a w := fun f listed a w hs hall hq =>
    wpOp_none (x := o) (by simp) hl.own.1 (Oper.wp_mono (fun a' w' h => wpAny_nil (end_ready hl hs hall) h f) hq)
  intro f
  induction f with
  | zero =>
    intro listed a w hs hcl h
    have hall := all_listed hl hs h.1
    refine ⟨fun hr => ?_, fun i hi => ?_⟩
    · have := (last_ready hl hs hcl).2 hall
      rw [hr] at this
      cases this
    · have hlt : i < ops.size + 1 := by
        obtain ⟨_, y, hy, _⟩ := mem_ready.1 hi
        have := (Array.getElem?_eq_some_iff.1 hy).1
        simpa using this
      by_cases e : i = ops.size
      · subst e; exact atEnd 0 listed a w hs hall h.2
      · have hm := (ready_push hl hs (by omega) false).1 hi
        rw [h.1] at hm
        cases hm
  | succ f ih =>
    intro listed a w hs hcl h
    refine ⟨fun hr => ?_, fun i hi => ?_⟩
    · have h0 : Region.ready md ops listed = [] := by
        refine List.eq_nil_iff_forall_not_mem.2 fun i hi => ?_
        have hlt : i < ops.size := by
          obtain ⟨_, y, hy, _⟩ := mem_ready.1 hi
          exact (Array.getElem?_eq_some_iff.1 hy).1
        have := (ready_push hl hs hlt false).2 hi
        rw [hr] at this
        cases this
      have := (last_ready hl hs hcl).2 (all_listed hl hs h0)
      rw [hr] at this
      cases this
    · have hlt : i < ops.size + 1 := by
        obtain ⟨_, y, hy, _⟩ := mem_ready.1 hi
        have := (Array.getElem?_eq_some_iff.1 hy).1
        simpa using this
      by_cases e : i = ops.size
      · subst e
        have hall := (last_ready hl hs hcl).1 hi
        exact atEnd (f + 1) listed a w hs hall (h.1 (ready_all hs hall))
      · have hi' : i < ops.size := by omega
        have hm := (ready_push hl hs hi' false).1 hi
        have h1 := h.2 i hm
        have hx : ops[i]? = some ops[i] := by simp [hi']
        have hg := (hl.back i _ hx).1
        have hw : Region.wanted ops[i] (yielded ops a.tmps) = true := by simp [Region.wanted, hg]
        unfold wpOp at h1
        simp only [hx] at h1
        rw [if_pos hw] at h1
        have hset : (listed.push false).setIfInBounds i true = (listed.setIfInBounds i true).push false := by
          apply Array.ext'
          have h9 : i < listed.toList.length := by simp; omega
          simp [List.set_append_left _ _ h9]
        have hx' : (ops.push o)[i]? = some ops[i] := by simp [Array.getElem?_push, hi', Nat.ne_of_lt hi']
        have hw' : Region.wanted ops[i] (yielded (ops.push o) a.tmps) = true := by simp [Region.wanted, hg]
        unfold wpOp
        simp only [hx']
        rw [if_pos hw', hset]
        rcases h1 with h1 | ⟨h1, h2⟩
        · exact .inl (upon_last (fun a' w' h3 => ih _ a' w' (by simp [hs]) (hcl.set hm) h3) h1)
        · exact .inr ⟨h1, by obtain ⟨a', w', h3⟩ := h2; exact ⟨a', w', h3⟩⟩
/-- The same, as a test. -/
def lastB (md : Region.Mode) (ops : List Oper) (o : Oper) : Bool :=
  ((List.range ops.length).all fun j => match ops[j]? with | some x => x.guard.isNone && x.after.all (fun e => decide (e.on < j)) | none => false) && o.guard.isNone && o.after.all (fun e => decide (e.on < ops.length)) && (List.range ops.length).all fun j => o.after.any (fun e => Region.binds md e && (e.on == j)) || (List.range ops.length).any fun k => decide (j < k) && (match ops[k]? with | some x => x.after.any (fun e => Region.binds md e && (e.on == j)) | none => false)
theorem lastB_spec {l : List Oper} (h : lastB md l o = true) : LastOne md l.toArray o := by
  unfold lastB at h
  simp only [Bool.and_eq_true, List.all_eq_true, List.mem_range, Option.isNone_iff_eq_none, Array.all_eq_true', decide_eq_true_eq, Array.any_eq_true', beq_iff_eq, Bool.or_eq_true, List.any_eq_true] at h
  obtain ⟨⟨⟨h1, h2⟩, h3⟩, h4⟩ := h
  refine ⟨fun j x hx => ?_, ⟨h2, fun e he => by simpa using h3 e he⟩, fun j hj => ?_⟩
  · have hx' : l[j]? = some x := by simpa using hx
    have hj : j < l.length := (List.getElem?_eq_some_iff.1 hx').1
    have := h1 j hj
    rw [hx'] at this
    simp only [Bool.and_eq_true, Option.isNone_iff_eq_none, Array.all_eq_true', decide_eq_true_eq] at this
    exact this
  · rcases h4 j (by simpa using hj) with ⟨e, he, h5, h6⟩ | ⟨k, hk, hjk, h7⟩
    · exact .inl ⟨e, he, h5, h6⟩
    · cases hx : l[k]? with
      | none => rw [hx] at h7; simp at h7
      | some x =>
        rw [hx] at h7
        simp only [Array.any_eq_true', Bool.and_eq_true, beq_iff_eq] at h7
        obtain ⟨e, he, h5, h6⟩ := h7
        exact .inr ⟨k, x, hjk, by simpa using hx, e, he, h5, h6⟩
theorem wp_region_last {S : World → Prop} {id : Nat} {l : List Oper} {a : Act} {w : World} (n : Nat) (hm : P.follows .mixedOrders = true) (hn : l.take n ++ [o] = l) (hB : lastB .any (l.take n) o = true) (hS : S w.drew)
    (h : S w.drew → wpAnyH P .any (l.take n).toArray (lastQ P o Q) S (l.take n).toArray.size (Array.replicate (l.take n).toArray.size false) a w.drew) : (Code.region id l.toArray true).wp P Q a w := by
  refine wp_region_any hm ?_
  have := wpAny_last (Q := Q) (lastB_spec hB) _ _ a w.drew (by simp) (fun j x hx hj => by
    have hlt := (Array.getElem?_eq_some_iff.1 hx).1
    have hlt' : j < (l.take n).toArray.size := hlt
    have h9 : (Array.replicate (l.take n).toArray.size false).getD j true = false := by rw [Array.getD_eq_getD_getElem?, Array.getElem?_replicate, if_pos hlt']; rfl
    rw [h9] at hj
    cases hj) (wpAny_of_held _ _ _ _ (h hS))
  have e1 : (l.take n).toArray.push o = l.toArray := by simp [hn]
  have e2 : (Array.replicate (l.take n).toArray.size false).push false = Array.replicate l.toArray.size false := by
    rw [← e1, ← Array.replicate_succ]; simp
  have e3 : (l.take n).toArray.size + 1 = l.toArray.size := by rw [← e1]; simp
  rw [e1, e2, e3] at this
  exact this
end
end Go.Proofs.YtlnfobeedpbnmaaDoor

namespace Go.Proofs.YtlnfobeedpbnmaaDoor
open Go.ChangeShapes Go.WideShapes Go.ChangeAt Go.RowKit
set_option linter.unusedVariables false
set_option linter.unusedSimpArgs false

section
variable {S : Nat → Prop} {B : Nat} {l : List Step} {a : Option Addr} {cap g gi gt : Nat} {dv rv cv : Value} {w0 w : World} {s : Sg} {reps : List Int}
set_option maxRecDepth 100000 in
set_option maxHeartbeats 4000000 in
theorem specCommand (h : RunS S B l a cap g gi gt dv rv cv w0 w s reps) (kind : Int) (i : Nat) (hi : i < l.length) (hc : s.cmds.length ≤ 900000) :
    Calls Tryd.prog 31 #[.pointer (some ⟨g, 0, none⟩), .int .i64 kind, .int .i64 (i : Int)] w fun e w' => e = .returned (.tuple #[]) ∧ ∃ cv', RunS S B l a cap g gi gt dv rv cv' w0 w' (cmdS l s kind i) reps := by
  obtain ⟨b, off, rfl, hbB, hst⟩ := h.stepCell
  have e0 := (hst i hi).1
  have e2 := (h.trCell i hi).1
  have c0 := h.blk.cell 0
  have c2 := h.blk.cell 2
  have c7 := h.blk.cell 7
  simp at c0 c2 c7
  have hl : l.length ≤ 20 := h.saga.len.2
  have hl' : (l.length : Int) ≤ 20 := by omega
  have hi' : (i : Int) < (l.length : Int) := by omega
  have hbs := h.size
  unfold cmdS
  obtain ⟨nm, hnm⟩ : ∃ nm, (stepOf l i).name = nm := ⟨_, rfl⟩
  obtain ⟨tt, htt⟩ : ∃ tt, trAt s i = tt := ⟨_, rfl⟩
  rw [hnm] at e0 ⊢
  rw [htt] at e2 ⊢
  have HR : Hid (RunS S B l (some ⟨b, off, none⟩) cap g gi gt dv rv cv w0 w s reps) := h
  have KP : Hid (∀ W, Below w.heap.size w W → W.cell? ⟨g, 0, none⟩ = some (.slice (some ⟨b, off, none⟩) l.length cap) ∧ W.cell? ⟨g, 2, none⟩ = some (.slice (some ⟨gt, 0, none⟩) l.length l.length) ∧ W.cell? ⟨g, 7, none⟩ = some cv ∧ W.cell? ⟨gt, i, none⟩ = some (.int .i64 tt) ∧ W.cell? ⟨b, off + i * 4, none⟩ = some (.string nm)) := fun W hW =>
    ⟨(hW.cell (World.block_lt_of_cell? _ _ c0)).trans c0, (hW.cell (World.block_lt_of_cell? _ _ c2)).trans c2, (hW.cell (World.block_lt_of_cell? _ _ c7)).trans c7, (hW.cell (World.block_lt_of_cell? _ _ e2)).trans e2, (hW.cell (World.block_lt_of_cell? _ _ e0)).trans e0⟩
  have hxg : some g ≠ cv.ownBlock := Ne.symm (h.cmds.off h.blk (by decide))
  have hxt : some gt ≠ cv.ownBlock := by
    obtain ⟨ct, h1, _⟩ := h.tr
    exact Ne.symm (h.cmds.off h1 (by decide))
  have hxb : some b ≠ cv.ownBlock := fun e => by have := OwnCmds.block h.cmds b e.symm; omega
  have HC : Hid (s.cmds.length ≤ 900000) := hc
  clear h hst hnm htt c0 c2 c7 e2 e0 hc
  go_enter Tryd.func31, Tryd.ntmps31
  go_upto_region 0 with fail
  refine wp_region_last (S := (fun w' => w'.cell? ⟨g, 0, none⟩ = some (.slice (some ⟨b, off, none⟩) l.length cap) ∧ w'.cell? ⟨g, 2, none⟩ = some (.slice (some ⟨gt, 0, none⟩) l.length l.length) ∧ w'.cell? ⟨g, 7, none⟩ = some cv ∧ w'.cell? ⟨gt, i, none⟩ = some (.int .i64 tt) ∧ w'.cell? ⟨b, off + i * 4, none⟩ = some (.string nm))) 28 (by kernel_rfl) rfl (by kernel_rfl) (KP.out _ (Below.refl _ _).drew) (fun hHeld => ?_)
  simp only [List.take_succ_cons, List.take_zero]
  refine wpAnyH_take (i := 0) (v := ?_) rfl (by kernel_rfl) (by kernel_rfl) (by kernel_rfl) (fun _ _ _ h => h) (Or.inl ⟨by rfl, ?_⟩) (by assumption) ?_
  rotate_left 1
  · (intro w' hSw; (try dsimp only at hSw); go_simp; all_goals with_reducible rfl)
  (try simp only [Act.put, List.setIfInBounds_toArray, List.set_cons_zero, List.set_cons_succ])
  refine wpAnyH_take (i := 1) (v := ?_) rfl (by kernel_rfl) (by kernel_rfl) (by kernel_rfl) (fun _ _ _ h => h) (Or.inl ⟨by rfl, ?_⟩) (by assumption) ?_
  rotate_left 1
  · (intro w' hSw; (try dsimp only at hSw); go_simp; all_goals with_reducible rfl)
  (try simp only [Act.put, List.setIfInBounds_toArray, List.set_cons_zero, List.set_cons_succ])
  refine wpAnyH_take (i := 2) (v := ?_) rfl (by kernel_rfl) (by kernel_rfl) (by kernel_rfl) (fun _ _ _ h => h) (Or.inl ⟨by rfl, ?_⟩) (by assumption) ?_
  rotate_left 1
  · (intro w' hSw; (try dsimp only at hSw); go_simp; all_goals with_reducible rfl)
  (try simp only [Act.put, List.setIfInBounds_toArray, List.set_cons_zero, List.set_cons_succ])
  refine wpAnyH_take (i := 3) (v := ?_) rfl (by kernel_rfl) (by kernel_rfl) (by kernel_rfl) (fun _ _ _ h => h) (Or.inl ⟨by rfl, ?_⟩) (by assumption) ?_
  rotate_left 1
  · (intro w' hSw; (try dsimp only at hSw); go_simp; all_goals with_reducible rfl)
  (try simp only [Act.put, List.setIfInBounds_toArray, List.set_cons_zero, List.set_cons_succ])
  refine wpAnyH_take (i := 4) (v := ?_) rfl (by kernel_rfl) (by kernel_rfl) (by kernel_rfl) (fun _ _ _ h => h) (Or.inl ⟨by rfl, ?_⟩) (by assumption) ?_
  rotate_left 1
  · (intro w' hSw; (try dsimp only at hSw); go_simp; all_goals with_reducible rfl)
  (try simp only [Act.put, List.setIfInBounds_toArray, List.set_cons_zero, List.set_cons_succ])
  refine wpAnyH_take (i := 5) (v := ?_) rfl (by kernel_rfl) (by kernel_rfl) (by kernel_rfl) (fun _ _ _ h => h) (Or.inl ⟨by rfl, ?_⟩) (by assumption) ?_
  rotate_left 1
  · (intro w' hSw; (try dsimp only at hSw); go_simp; all_goals with_reducible rfl)
  (try simp only [Act.put, List.setIfInBounds_toArray, List.set_cons_zero, List.set_cons_succ])
  refine wpAnyH_take (i := 6) (v := ?_) rfl (by kernel_rfl) (by kernel_rfl) (by kernel_rfl) (fun _ _ _ h => h) (Or.inl ⟨by rfl, ?_⟩) (by assumption) ?_
  rotate_left 1
  · (intro w' hSw; (try dsimp only at hSw); go_simp; all_goals with_reducible rfl)
  (try simp only [Act.put, List.setIfInBounds_toArray, List.set_cons_zero, List.set_cons_succ])
  refine wpAnyH_take (i := 7) (v := ?_) rfl (by kernel_rfl) (by kernel_rfl) (by kernel_rfl) (fun _ _ _ h => h) (Or.inl ⟨by rfl, ?_⟩) (by assumption) ?_
  rotate_left 1
  · (intro w' hSw; (try dsimp only at hSw); go_simp; all_goals with_reducible rfl)
  (try simp only [Act.put, List.setIfInBounds_toArray, List.set_cons_zero, List.set_cons_succ])
  refine wpAnyH_take (i := 8) (v := ?_) rfl (by kernel_rfl) (by kernel_rfl) (by kernel_rfl) (fun _ _ _ h => h) (Or.inl ⟨by rfl, ?_⟩) (by assumption) ?_
  rotate_left 1
  · (intro w' hSw; (try dsimp only at hSw); go_simp; all_goals with_reducible rfl)
  (try simp only [Act.put, List.setIfInBounds_toArray, List.set_cons_zero, List.set_cons_succ])
  refine wpAnyH_take (i := 9) (v := ?_) rfl (by kernel_rfl) (by kernel_rfl) (by kernel_rfl) (fun _ _ _ h => h) (Or.inl ⟨by rfl, ?_⟩) (by assumption) ?_
  rotate_left 1
  · (intro w' hSw; (try dsimp only at hSw); go_simp; all_goals with_reducible rfl)
  (try simp only [Act.put, List.setIfInBounds_toArray, List.set_cons_zero, List.set_cons_succ])
  refine wpAnyH_take (i := 10) (v := ?_) rfl (by kernel_rfl) (by kernel_rfl) (by kernel_rfl) (fun _ _ _ h => h) (Or.inl ⟨by rfl, ?_⟩) (by assumption) ?_
  rotate_left 1
  · (intro w' hSw; (try dsimp only at hSw); go_simp; all_goals with_reducible rfl)
  (try simp only [Act.put, List.setIfInBounds_toArray, List.set_cons_zero, List.set_cons_succ])
  refine wpAnyH_take (i := 11) (v := ?_) rfl (by kernel_rfl) (by kernel_rfl) (by kernel_rfl) (fun _ _ _ h => h) (Or.inl ⟨by rfl, ?_⟩) (by assumption) ?_
  rotate_left 1
  · (intro w' hSw; (try dsimp only at hSw); go_simp; all_goals with_reducible rfl)
  (try simp only [Act.put, List.setIfInBounds_toArray, List.set_cons_zero, List.set_cons_succ])
  refine wpAnyH_take (i := 12) (v := ?_) rfl (by kernel_rfl) (by kernel_rfl) (by kernel_rfl) (fun _ _ _ h => h) (Or.inl ⟨by rfl, ?_⟩) (by assumption) ?_
  rotate_left 1
  · (intro w' hSw; (try dsimp only at hSw); go_simp; all_goals with_reducible rfl)
  (try simp only [Act.put, List.setIfInBounds_toArray, List.set_cons_zero, List.set_cons_succ])
  refine wpAnyH_take (i := 13) (v := ?_) rfl (by kernel_rfl) (by kernel_rfl) (by kernel_rfl) (fun _ _ _ h => h) (Or.inl ⟨by rfl, ?_⟩) (by assumption) ?_
  rotate_left 1
  · (intro w' hSw; (try dsimp only at hSw); go_simp; all_goals with_reducible rfl)
  (try simp only [Act.put, List.setIfInBounds_toArray, List.set_cons_zero, List.set_cons_succ])
  refine wpAnyH_take (i := 14) (v := ?_) rfl (by kernel_rfl) (by kernel_rfl) (by kernel_rfl) (fun _ _ _ h => h) (Or.inl ⟨by rfl, ?_⟩) (by assumption) ?_
  rotate_left 1
  · (intro w' hSw; (try dsimp only at hSw); go_simp; all_goals with_reducible rfl)
  (try simp only [Act.put, List.setIfInBounds_toArray, List.set_cons_zero, List.set_cons_succ])
  refine wpAnyH_take (i := 15) (v := ?_) rfl (by kernel_rfl) (by kernel_rfl) (by kernel_rfl) (fun _ _ _ h => h) (Or.inl ⟨by rfl, ?_⟩) (by assumption) ?_
  rotate_left 1
  · (intro w' hSw; (try dsimp only at hSw); go_simp; all_goals with_reducible rfl)
  (try simp only [Act.put, List.setIfInBounds_toArray, List.set_cons_zero, List.set_cons_succ])
  refine wpAnyH_take (i := 16) (v := ?_) rfl (by kernel_rfl) (by kernel_rfl) (by kernel_rfl) (fun _ _ _ h => h) (Or.inl ⟨by rfl, ?_⟩) (by assumption) ?_
  rotate_left 1
  · (intro w' hSw; (try dsimp only at hSw); go_simp; all_goals with_reducible rfl)
  (try simp only [Act.put, List.setIfInBounds_toArray, List.set_cons_zero, List.set_cons_succ])
  refine wpAnyH_take (i := 17) (v := ?_) rfl (by kernel_rfl) (by kernel_rfl) (by kernel_rfl) (fun _ _ _ h => h) (Or.inl ⟨by rfl, ?_⟩) (by assumption) ?_
  rotate_left 1
  · (intro w' hSw; (try dsimp only at hSw); go_simp; all_goals with_reducible rfl)
  (try simp only [Act.put, List.setIfInBounds_toArray, List.set_cons_zero, List.set_cons_succ])
  refine wpAnyH_take (i := 18) (v := ?_) rfl (by kernel_rfl) (by kernel_rfl) (by kernel_rfl) (fun _ _ _ h => h) (Or.inl ⟨by rfl, ?_⟩) (by assumption) ?_
  rotate_left 1
  · (intro w' hSw; (try dsimp only at hSw); go_simp; all_goals with_reducible rfl)
  (try simp only [Act.put, List.setIfInBounds_toArray, List.set_cons_zero, List.set_cons_succ])
  refine wpAnyH_take (i := 19) (v := ?_) rfl (by kernel_rfl) (by kernel_rfl) (by kernel_rfl) (fun _ _ _ h => h) (Or.inl ⟨by rfl, ?_⟩) (by assumption) ?_
  rotate_left 1
  · (intro w' hSw; (try dsimp only at hSw); go_simp; all_goals with_reducible rfl)
  (try simp only [Act.put, List.setIfInBounds_toArray, List.set_cons_zero, List.set_cons_succ])
  refine wpAnyH_take (i := 20) (v := ?_) rfl (by kernel_rfl) (by kernel_rfl) (by kernel_rfl) (fun _ _ _ h => h) (Or.inl ⟨by rfl, ?_⟩) (by assumption) ?_
  rotate_left 1
  · (intro w' hSw; (try dsimp only at hSw); go_simp; all_goals with_reducible rfl)
  (try simp only [Act.put, List.setIfInBounds_toArray, List.set_cons_zero, List.set_cons_succ])
  refine wpAnyH_take (i := 21) (v := ?_) rfl (by kernel_rfl) (by kernel_rfl) (by kernel_rfl) (fun _ _ _ h => h) (Or.inl ⟨by rfl, ?_⟩) (by assumption) ?_
  rotate_left 1
  · (intro w' hSw; (try dsimp only at hSw); go_simp; all_goals with_reducible rfl)
  (try simp only [Act.put, List.setIfInBounds_toArray, List.set_cons_zero, List.set_cons_succ])
  refine wpAnyH_take (i := 22) (v := ?_) rfl (by kernel_rfl) (by kernel_rfl) (by kernel_rfl) (fun _ _ _ h => h) (Or.inl ⟨by rfl, ?_⟩) (by assumption) ?_
  rotate_left 1
  · (intro w' hSw; (try dsimp only at hSw); go_simp; all_goals with_reducible rfl)
  (try simp only [Act.put, List.setIfInBounds_toArray, List.set_cons_zero, List.set_cons_succ])
  refine wpAnyH_ready (rs := [23]) (by kernel_rfl) (by simp) ?_
  refine AllReadyH.cons rfl (fun K hK => ?_) AllReadyH.nil
  go_simp
  refine hK.out _ _ ?_ (fun hHeld => ?_)
  · exact KP.out _ (((Below.refl _ w).alloc (Nat.le_refl _) _).drew)
  clear hK K
  (try simp only [Act.put, List.setIfInBounds_toArray, List.set_cons_zero, List.set_cons_succ])
  refine wpAnyH_ready (rs := [24]) (by kernel_rfl) (by simp) ?_
  refine AllReadyH.cons rfl (fun K hK => ?_) AllReadyH.nil
  refine step_appendCmds rfl (.tmp 11) (.tmp 29) rfl B cv s.cmds (by simp [Act.eval]) (HR.out.cmds.below (((Below.refl _ w).alloc (Nat.le_refl _) _).drew)) (.slice (some ⟨w.heap.size, 0, none⟩) 1 1) [⟨kind, tt, nm⟩] (by simp [Act.eval]) (CmdsAt.new w kind tt nm) (by simp; exact Nat.le_trans HC.out (by omega)) (by simp; omega) ?_
  intro va vn vc w4 hown4 hB4 hgr4 hnil4
  refine hK.out _ _ ?_ (fun hHeld => ?_)
  · exact ⟨hgr4.cell hHeld.1 hxg, hgr4.cell hHeld.2.1 hxg, hgr4.cell hHeld.2.2.1 hxg, hgr4.cell hHeld.2.2.2.1 hxt, hgr4.cell hHeld.2.2.2.2 hxb⟩
  clear hK K
  (try simp only [Act.put, List.setIfInBounds_toArray, List.set_cons_zero, List.set_cons_succ])
  refine wpAnyH_take (i := 25) (v := ?_) rfl (by kernel_rfl) (by kernel_rfl) (by kernel_rfl) (fun _ _ _ h => h) (Or.inl ⟨by rfl, ?_⟩) (by assumption) ?_
  rotate_left 1
  · (intro w' hSw; (try dsimp only at hSw); go_simp; all_goals with_reducible rfl)
  (try simp only [Act.put, List.setIfInBounds_toArray, List.set_cons_zero, List.set_cons_succ])
  refine wpAnyH_take (i := 26) (v := ?_) rfl (by kernel_rfl) (by kernel_rfl) (by kernel_rfl) (fun _ _ _ h => h) (Or.inl ⟨by rfl, ?_⟩) (by assumption) ?_
  rotate_left 1
  · (intro w' hSw; (try dsimp only at hSw); go_simp; all_goals with_reducible rfl)
  (try simp only [Act.put, List.setIfInBounds_toArray, List.set_cons_zero, List.set_cons_succ])
  refine wpAnyH_take (i := 27) (v := ?_) rfl (by kernel_rfl) (by kernel_rfl) (by kernel_rfl) (fun _ _ _ h => h) (Or.inl ⟨by rfl, ?_⟩) (by assumption) ?_
  rotate_left 1
  · (intro w' hSw; (try dsimp only at hSw); go_simp; all_goals with_reducible rfl)
  (try simp only [Act.put, List.setIfInBounds_toArray, List.set_cons_zero, List.set_cons_succ])
  obtain ⟨hb4, H4⟩ := (HR.out.go (((Below.refl _ w).alloc (Nat.le_refl _) _).drew)).growC hown4 hB4 hgr4
  have g7 := hb4.cell 7
  have f7 := hb4.fro 7
  simp at g7
  refine wpAnyH_done (by kernel_rfl) ?_ _
  show Oper.wp _ _ _ _ _ _
  unfold Oper.wp
  go_simp
  go_end0
  exact ⟨rfl, _, H4⟩
end
end Go.Proofs.YtlnfobeedpbnmaaDoor
