/-
  What the document's on does. No statement of the seat is proved here.
-/
import Derived.Test.YtbpijollcjdkhaaDoorK5
namespace Go.Proofs.YtbpijollcjdkhaaDoor
open Go.ChangeShapes Go.WideShapes Go.ChangeAt Go.RowKit
set_option linter.unusedVariables false
set_option linter.unusedSimpArgs false

section
variable {S : Nat → Prop} {B : Nat} {l : List Step} {a : Option Addr} {cap g gi gt : Nat} {dv rv cv : Value} {w0 w : World} {s : Sg} {reps : List Int}
theorem RunS.drewN (h : RunS S B l a cap g gi gt dv rv cv w0 w s reps) (n : Nat) : RunS S B l a cap g gi gt dv rv cv w0 (w.drewN n) s reps := h.go (bel_drewN (Below.refl _ _) n)
/-- What a command leaves. -/
def CommandC (f : Nat) : Prop := ∀ {S : Nat → Prop} {B : Nat} {l : List Step} {a : Option Addr} {cap g gi gt : Nat} {dv rv cv : Value} {w0 w : World} {s : Sg} {reps : List Int}, RunS S B l a cap g gi gt dv rv cv w0 w s reps → ∀ (kind : Int) (i : Nat), i < l.length → s.cmds.length ≤ 900000 →
    Calls Tryd.prog f #[.pointer (some ⟨g, 0, none⟩), .int .i64 kind, .int .i64 (i : Int)] w fun e w' => e = .returned (.tuple #[]) ∧ ∃ cv', RunS S B l a cap g gi gt dv rv cv' w0 w' (cmdS l s kind i) reps
theorem ask_true {k : Nat} (h : askB l s k = true) : ask l s k = beg l s 1 1 k := by unfold ask; rw [if_pos h]
theorem ask_false {k : Nat} (h : askB l s k = false) : ask l s k = s := by unfold ask; rw [if_neg (by rw [h]; simp)]
theorem ask_idle {k : Nat} (h : askB l s k = true) : isAt s k = 0 := by
  unfold askB at h
  rw [Bool.and_eq_true] at h
  exact of_decide_eq_true h.2
set_option maxRecDepth 100000 in
set_option maxHeartbeats 4000000 in
theorem specFwd (hcm : CommandC 46) (h : RunS S B l a cap g gi gt dv rv cv w0 w s reps) (hc : s.cmds.length ≤ 800000) (h1 : s.st = 1) :
    Calls Tryd.prog 45 #[.pointer (some ⟨g, 0, none⟩)] w fun e w' => e = .returned (.tuple #[]) ∧ ∃ cv', RunS S B l a cap g gi gt dv rv cv' w0 w' (fwd l s) reps := by
  have c5 := h.blk.cell 5
  simp at c5
  rw [h1] at c5
  have hl : l.length ≤ 20 := h.saga.len.2
  have hl' : (l.length : Int) ≤ 20 := by omega
  have hdl := done_len h.ok
  have HR : Hid (RunS S B l a cap g gi gt dv rv cv w0 w s reps) := h
  have HCM : Hid (CommandC 46) := hcm
  have HC : Hid (s.cmds.length ≤ 800000) := hc
  clear h hc h1 hcm
  go_enter Tryd.func45, Tryd.ntmps45
  go_wp2_with fail
  go_loopw [2] (fun i2 wr => ∃ (k : Nat) (cv' : Value), i2 = .int .i64 (k : Int) ∧ k ≤ l.length ∧ RunS S B l a cap g gi gt dv rv cv' w0 wr (asks l s k) reps) (fun i2 _ => l.length - (intOf i2).toNat)
  case atStart => exact ⟨0, cv, rfl, by omega, HR.out⟩
  case round =>
    clear c5
    obtain ⟨k, cv', rfl, hk, hR⟩ := hrel
    have HR1 : Hid (RunS S B l a cap g gi gt dv rv cv' w0 wr (asks l s k) reps) := hR
    have c0 := hR.blk.cell 0
    simp at c0
    by_cases hkn : k < l.length
    case neg =>
      obtain rfl : k = l.length := by omega
      have hkn' : ¬ ((l.length : Int) < (l.length : Int)) := by omega
      obtain ⟨da, dc, hdv, -⟩ := hR.done.natCells
      rw [asks_done] at hdv
      by_cases hd : s.done.length = l.length
      · rw [hd] at hdv
        subst hdv
        have c3 := hR.blk.cell 3
        have c5 := hR.blk.cell 5
        have f5 := hR.blk.fro 5
        simp at c3 c5
        have H9 := fun n => (hR.drewN n).putSt 3
        have hfw : fwd l s = setSt (asks l s l.length) 3 := by unfold fwd; rw [asks_done, if_pos hd]
        have HFW : Hid (fwd l s = setSt (asks l s l.length) 3) := hfw
        have HH9 : Hid (∀ n, RunS S B l a cap g gi gt (.slice da l.length dc) rv cv' w0 ((wr.drewN n).setCell ⟨g, 5, none⟩ (.int .i64 3)) (setSt (asks l s l.length) 3) reps) := H9
        clear H9 hR hfw hd
        go_upto_region 8 with fail
        go_quiet (fail)
        go_wp2_with fail
        (try simp only [Exit.inBlock, Exit.then])
        refine bodyPost_ret (results_none rfl _ _ _) rfl ?_
        refine ⟨rfl, cv', ?_⟩
        rw [HFW.out]; exact HH9.out _
      · have hd' : ¬ ((s.done.length : Int) = (l.length : Int)) := by omega
        subst hdv
        have c3 := hR.blk.cell 3
        simp at c3
        have hfw : fwd l s = asks l s l.length := by unfold fwd; rw [asks_done, if_neg hd]
        have HFW : Hid (fwd l s = asks l s l.length) := hfw
        have HH9 : Hid (∀ n, RunS S B l a cap g gi gt (.slice da s.done.length dc) rv cv' w0 (wr.drewN n) (asks l s l.length) reps) := fun n => hR.drewN n
        clear hR hfw
        go_upto_region 8 with fail
        go_quiet (fail)
        go_wp2_with fail
        (try simp only [Exit.inBlock, Exit.then])
        refine bodyPost_ret (results_none rfl _ _ _) rfl ?_
        refine ⟨rfl, cv', ?_⟩
        rw [HFW.out]; exact HH9.out _
    have hkn' : (k : Int) < (l.length : Int) := by omega
    have crd := specReady hR k hkn
    have hnx := asks_succ l s k
    have hcl := asks_cmds l s k
    obtain ⟨t, ht⟩ : ∃ t, asks l s k = t := ⟨_, rfl⟩
    rw [ht] at crd hR hnx hcl
    have HR2 : Hid (RunS S B l a cap g gi gt dv rv cv' w0 wr t reps) := hR
    have HCL : Hid (t.cmds.length ≤ 900000) := by have := HC.out; show _ ≤ _; omega
    clear hR HR1 ht hcl
    cases hA : askB l t k
    case false =>
      rw [hA] at crd
      rw [ask_false hA] at hnx
      have HNX : Hid (asks l s (k + 1) = t) := hnx
      clear hA hnx
      go_wp2_with (go_at_call 59; go_must (refine crd.mono ?_; rintro e w1 ⟨rfl, hb1⟩))
      refine ⟨⟨k + 1, cv', rfl, by omega, ?_⟩, by simp [intOf]; omega⟩
      rw [HNX.out]; exact HR2.out.go hb1
    case true =>
      rw [hA] at crd
      have hidl := ask_idle hA
      have hnot : k ∉ t.done := HR2.out.ok.not (by omega)
      have HNX : Hid (asks l s (k + 1) = cmdS l (setTr (setIs t k 1) k 1) 1 k) := by rw [hnx, ask_true hA]; rfl
      have HO1 : Hid (Ok l (setIs t k 1)) := HR2.out.ok.setIs hkn 1 hnot
      have HO2 : Hid (Ok l (setTr (setIs t k 1) k 1)) := HO1.out.setTr hkn 1 (by omega) (by omega)
      clear hA hnx hnot hidl
      go_upto_region 5 with (go_at_call 59; go_must (refine crd.mono ?_; rintro e w1 ⟨rfl, hb1⟩))
      have H1 := HR2.out.go hb1
      have d1 := H1.blk.cell 1
      have d2 := H1.isCell k hkn
      simp at d1
      obtain ⟨d2, d3⟩ := d2
      have H2 := H1.putIs k 1 HO1.out
      have HH2 : Hid (RunS S B l a cap g gi gt dv rv cv' w0 (w1.setCell ⟨gi, k, none⟩ (.int .i64 1)) (setIs t k 1) reps) := H2
      clear H1 H2 crd
      go_upto_region 6 with fail
      obtain ⟨wA, hwA⟩ : ∃ wA, w1.setCell ⟨gi, k, none⟩ (.int .i64 1) = wA := ⟨_, rfl⟩
      rw [hwA] at HH2 ⊢
      clear hwA d1 d2 d3 hb1
      have H2 := HH2.out
      have d1 := H2.blk.cell 2
      have d2 := H2.trCell k hkn
      simp at d1
      obtain ⟨d2, d3⟩ := d2
      have H3 := H2.putTr k 1 HO2.out
      have HH3 : Hid (RunS S B l a cap g gi gt dv rv cv' w0 (wA.setCell ⟨gt, k, none⟩ (.int .i64 1)) (setTr (setIs t k 1) k 1) reps) := H3
      clear H2 H3 HH2
      go_upto_region 7 with fail
      obtain ⟨wB, hwB⟩ : ∃ wB, wA.setCell ⟨gt, k, none⟩ (.int .i64 1) = wB := ⟨_, rfl⟩
      rw [hwB] at HH3 ⊢
      clear hwB d1 d2 d3
      have cc := HCM.out HH3.out 1 k hkn HCL.out
      go_wp2_with (go_at_call 46; go_must (refine cc.mono ?_; rintro e w5 ⟨rfl, cv5, H5⟩))
      refine ⟨⟨k + 1, cv5, rfl, by omega, ?_⟩, by simp [intOf]; omega⟩
      rw [HNX.out]; exact H5
end
end Go.Proofs.YtbpijollcjdkhaaDoor
