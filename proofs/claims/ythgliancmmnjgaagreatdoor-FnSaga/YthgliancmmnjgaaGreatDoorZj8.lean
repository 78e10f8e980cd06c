/-
  What the program's SagaEnds answers. The law's own functions on texts; rows of steps, commands and messages. The law on sagas over a drawn one: its walk. No statement of the seat is proved here.
-/
import Derived.Test.YthgliancmmnjgaaGreatDoorZj7
import Derived.Deep.Cut
import Derived.Deep.CutRange
import Derived.Deep.CutBlock
namespace Go.Proofs.YthgliancmmnjgaaGreatDoor
open Go.ChangeShapes Go.WideShapes Go.ChangeAt Go.RowKit
set_option linter.unusedVariables false
set_option linter.unusedSimpArgs false

set_option maxRecDepth 100000 in
theorem implMax3 (a b c : Int) (g : Nat) (w : World) (h0 : w.cell? ⟨g, 0, none⟩ = some (.int .i64 a)) (h1 : w.cell? ⟨g, 1, none⟩ = some (.int .i64 b)) (h2 : w.cell? ⟨g, 2, none⟩ = some (.int .i64 c)) : Calls Tryz.prog 30 #[.slice (some ⟨g, 0, none⟩) 3 3] w fun e w' => (∃ m : Int, e = .returned (.int .i64 m) ∧ decide (4096 < m) = (decide (4096 < a) || decide (4096 < b) || decide (4096 < c))) ∧ w' = w := by
  go_enter Tryz.func30, Tryz.ntmps30
  go_wp2
  refine wp_loop_rounds 3 ?_
  rw [rounds_succ]
  go_wp2
  rw [rounds_succ]
  go_wp2
  rw [rounds_succ]
  go_wp2
  go_ret
  refine ⟨⟨_, rfl, ?_⟩, rfl⟩
  rw [Bool.eq_iff_iff]
  simp only [decide_eq_true_eq, Bool.or_eq_true]
  omega
set_option maxRecDepth 100000 in
theorem implLong3 (a b c : Int) (g : Nat) (w : World) (h0 : w.cell? ⟨g, 0, none⟩ = some (.int .i64 a)) (h1 : w.cell? ⟨g, 1, none⟩ = some (.int .i64 b)) (h2 : w.cell? ⟨g, 2, none⟩ = some (.int .i64 c)) : Calls Tryz.prog 13 #[.slice (some ⟨g, 0, none⟩) 3 3] w fun e w' => e = .returned (.bool (decide (4096 < a) || decide (4096 < b) || decide (4096 < c))) ∧ w' = w := by
  have cm := implMax3 a b c g w h0 h1 h2
  go_enter Tryz.func13, Tryz.ntmps13
  go_wp2_with (go_at_call 30; go_must (refine cm.mono ?_; rintro e w1 ⟨⟨m, rfl, hm⟩, rfl⟩))
  go_ret
  exact ⟨rfl, rfl⟩
theorem three_new (w : World) (a b c : Int) (g : Nat) (hg : g = w.heap.size) : (w.alloc (.cells #[.int .i64 a, .int .i64 b, .int .i64 c] 3)).cell? ⟨g, 0, none⟩ = some (.int .i64 a) ∧ (w.alloc (.cells #[.int .i64 a, .int .i64 b, .int .i64 c] 3)).cell? ⟨g, 1, none⟩ = some (.int .i64 b) ∧ (w.alloc (.cells #[.int .i64 a, .int .i64 b, .int .i64 c] 3)).cell? ⟨g, 2, none⟩ = some (.int .i64 c) := by
  subst hg
  have h : Blk (w.alloc (.cells #[.int .i64 a, .int .i64 b, .int .i64 c] 3)) w.heap.size 3 #[.int .i64 a, .int .i64 b, .int .i64 c] := heap_alloc_last w _
  exact ⟨h.cell 0, h.cell 1, h.cell 2⟩
theorem over_iff (s : Sg) : overB s = true ↔ overP s := by
  unfold overB overP
  simp
set_option maxRecDepth 100000 in
set_option maxHeartbeats 16000000 in
theorem implEnds : EndsC 6 (Lib.Utf8Tabs 0 1) endF := by
  intro S l0 l1 l2 v0 v1 v2 w hS h0 hl0 hok hfull h1 hl1 h2 hl2 hT
  obtain ⟨a0, cap0, rfl⟩ := h0.shape
  obtain ⟨a1, cap1, rfl⟩ := h1.shape
  obtain ⟨a2, cap2, rfl⟩ := h2.shape
  have hl0' : (l0.length : Int) ≤ 1048576 := by omega
  have hl1' : (l1.length : Int) ≤ 1048576 := by omega
  have hl2' : (l2.length : Int) ≤ 1048576 := by omega
  have bL : Below w.heap.size w (w.alloc (.cells #[.int .i64 (l0.length : Int), .int .i64 (l1.length : Int), .int .i64 (l2.length : Int)] 3)) := (Below.refl _ w).alloc (Nat.le_refl _) _
  obtain ⟨t1, t2, t3⟩ := three_new w (l0.length : Int) (l1.length : Int) (l2.length : Int) w.heap.size rfl
  have cl := implLong3 (l0.length : Int) (l1.length : Int) (l2.length : Int) w.heap.size _ t1 t2 t3
  obtain ⟨wl, hwl⟩ : ∃ wl, w.alloc (.cells #[.int .i64 (l0.length : Int), .int .i64 (l1.length : Int), .int .i64 (l2.length : Int)] 3) = wl := ⟨_, rfl⟩
  rw [hwl] at bL cl
  have hSl : ∀ b, S b → b < wl.heap.size := fun b hb => Nat.lt_of_lt_of_le (hS b hb) bL.size
  have h0' : StepsAt S wl (.slice a0 l0.length cap0) l0 := h0.keep (cells_below hS bL)
  have h1' : TxtsAt S wl (.slice a1 l1.length cap1) l1 := h1.keep (cells_below hS bL)
  have h2' : TxtsAt S wl (.slice a2 l2.length cap2) l2 := h2.keep (cells_below hS bL)
  have hfull' : StepsFull wl (.slice a0 l0.length cap0) l0 := by
    refine ⟨hfull.1, fun b off n c e i hi nv hn => hfull.2 b off n c e i hi nv ?_⟩
    obtain ⟨_, a, cap, hv, hc⟩ := h0
    obtain ⟨b', off', ha, hSb, _⟩ := hc (by omega)
    rw [hv] at e
    simp only [Value.slice.injEq] at e
    obtain ⟨e, _, _⟩ := e
    rw [ha] at e
    simp only [Option.some.injEq, Addr.mk.injEq] at e
    rw [← e.1] at hn ⊢
    rw [← cells_below hS bL _ _ hSb]; exact hn
  have co := implSaga S l0 (.slice a0 l0.length cap0) wl hSl h0' hl0 hok hfull' (fun W hW => hT W (good_below bL hW))
  obtain ⟨x0, hx0⟩ : ∃ x0, w.heap.size = x0 := ⟨_, rfl⟩
  rw [hx0] at bL cl ⊢
  have sL : x0 ≤ wl.heap.size := by rw [← hx0]; exact (by rw [← hx0] at bL; exact bL.size)
  have HB : Hid (Below x0 w wl) := bL
  have H0 : Hid (StepsAt S wl (.slice a0 l0.length cap0) l0) := h0'
  have H1 : Hid (TxtsAt S wl (.slice a1 l1.length cap1) l1) := h1'
  have H2 : Hid (TxtsAt S wl (.slice a2 l2.length cap2) l2) := h2'
  have HS : Hid (∀ b, S b → b < wl.heap.size) := hSl
  have HOK : Hid (∀ x ∈ l0, StepsOK 1048576 x) := hok
  have HSL : Hid (x0 ≤ wl.heap.size) := sL
  obtain ⟨R, hR⟩ : ∃ R, endF l0 l1 l2 = R := ⟨_, rfl⟩
  rw [hR]
  have HR : Hid (endF l0 l1 l2 = R) := hR
  clear hS hfull h0 h1 h2 hok hT hSl h0' h1' h2' hfull' hR bL t1 t2 t3 sL
  go_enter Tryz.func6, Tryz.ntmps6
  by_cases hlong : 4096 < l0.length ∨ 4096 < l1.length ∨ 4096 < l2.length
  case pos =>
    have hRe : R = (0, [], 2) := by rw [← HR.out]; unfold endF; rw [if_pos hlong]
    subst hRe
    have hlb : (decide (4096 < (l0.length : Int)) || decide (4096 < (l1.length : Int)) || decide (4096 < (l2.length : Int))) = true := by
      simp only [Bool.or_eq_true, decide_eq_true_eq]; omega
    rw [hlb] at cl
    clear co
    go_wp2_with (go_at_call 13; go_must (refine cl.mono ?_; rintro e w2 ⟨rfl, hq⟩; obtain rfl := hq.symm; clear hq))
    go_ret3
    exact ⟨⟨_, rfl, OwnTxts.nil _ _⟩, HB.out⟩
  have hlb : (decide (4096 < (l0.length : Int)) || decide (4096 < (l1.length : Int)) || decide (4096 < (l2.length : Int))) = false := by
    simp only [Bool.or_eq_false_iff, decide_eq_false_iff_not]; omega
  rw [hlb] at cl
  clear hlb
  obtain ⟨F, hF⟩ : ∃ F, sagaB l0 = F := ⟨_, rfl⟩
  rw [hF] at co
  have HF : Hid (sagaB l0 = F) := hF
  clear hF
  have HNL : Hid (¬ (4096 < l0.length ∨ 4096 < l1.length ∨ 4096 < l2.length)) := hlong
  cases F
  case false =>
    have hRe : R = (0, [], 1) := by rw [← HR.out]; unfold endF; rw [if_neg HNL.out, if_pos HF.out]
    subst hRe
    go_wp2_with (first
      | (go_at_call 13; go_must (refine cl.mono ?_; rintro e w2 ⟨rfl, hq⟩; obtain rfl := hq.symm; clear hq))
      | (go_at_call 14; go_must (refine co.mono ?_; rintro e w1 ⟨rfl, hb1⟩)))
    go_ret3
    exact ⟨⟨_, rfl, OwnTxts.nil _ _⟩, HB.out.trans (hb1.mono HSL.out)⟩
  have hnl0 : l0.length ≤ 4096 := by omega
  have hnl1 : l1.length ≤ 4096 := by omega
  have hnl2 : l2.length ≤ 4096 := by omega
  clear hlong
  go_upto_region 5 with (first
    | (go_at_call 13; go_must (refine cl.mono ?_; rintro e w2 ⟨rfl, hq⟩; obtain rfl := hq.symm; clear hq))
    | (go_at_call 14; go_must (refine co.mono ?_; rintro e w1 ⟨rfl, hb1⟩)))
  have hin : SagaIn S w1.heap.size w1 a0 cap0 l0 := saga_in (fun b hb => Nat.lt_of_lt_of_le (HS.out b hb) hb1.size) (H0.out.keep (cells_below HS.out hb1)) HOK.out HF.out
  have hti1 : TxtsIn w1 a1 l1 := (TxtsAt.isIn H1.out HS.out).below hb1
  have hti2 : TxtsIn w1 a2 l2 := (TxtsAt.isIn H2.out HS.out).below hb1
  have hlen := hin.len
  have hlen' : (l0.length : Int) ≤ 20 := by omega
  have HIN : Hid (SagaIn S w1.heap.size w1 a0 cap0 l0) := hin
  have HT1 : Hid (TxtsIn w1 a1 l1) := hti1
  have HT2 : Hid (TxtsIn w1 a2 l2) := hti2
  have HB1 : Hid (Below x0 w w1) := HB.out.trans (hb1.mono HSL.out)
  have HX1 : Hid (x0 ≤ w1.heap.size) := Nat.le_trans HSL.out hb1.size
  have cb := implRunOf hin
  clear co cl hin HB H0 H1 H2 HS HOK HSL hb1 hti1 hti2
  go_upto_region 6 with (go_at_call 15; go_must (refine cb.mono ?_; rintro e w2 ⟨g, gp, dv0, cv0, rfl, hrun⟩))
  clear cb
  have HR0 : Hid (RunI S w1.heap.size l0 a0 cap0 g gp (.slice none 0 0) [] dv0 cv0 w1 w2 (beginS l0)) := hrun
  have HB12 : Hid (Below w1.heap.size w1 w2) := hrun.bel
  have ca1 := implAreSteps hrun l1 a1 cap1 (by omega) (HT1.out.below hrun.bel)
  have ca2 := fun (W : World) (hW : Below w2.heap.size w2 W) => implAreSteps (hrun.go hW) l2 a2 cap2 (by omega) ((HT2.out.below hrun.bel).below hW)
  clear hrun
  obtain ⟨A1, hA1⟩ : ∃ A1, l1.all (hasB (names l0)) = A1 := ⟨_, rfl⟩
  obtain ⟨A2, hA2⟩ : ∃ A2, l2.all (hasB (names l0)) = A2 := ⟨_, rfl⟩
  rw [hA1] at ca1
  simp only [hA2] at ca2
  have HA1 : Hid (l1.all (hasB (names l0)) = A1) := hA1
  have HA2 : Hid (l2.all (hasB (names l0)) = A2) := hA2
  clear hA1 hA2
  by_cases hnone : A1 = false ∨ A2 = false
  case pos =>
    have hRe : R = (0, [], 7) := by rw [← HR.out]; unfold endF; rw [if_neg HNL.out, if_neg (by rw [HF.out]; simp), HA1.out, HA2.out, if_pos hnone]
    subst hRe
    rcases hnone with rfl | rfl
    · go_wp2_with (go_at_call 16; go_must (refine ca1.mono ?_; rintro e w3 ⟨rfl, hb3⟩))
      go_ret3
      exact ⟨⟨_, rfl, OwnTxts.nil _ _⟩, HB1.out.trans ((HB12.out.trans (hb3.mono HB12.out.size)).mono HX1.out)⟩
    · cases A1
      · go_wp2_with (go_at_call 16; go_must (refine ca1.mono ?_; rintro e w3 ⟨rfl, hb3⟩))
        go_ret3
        exact ⟨⟨_, rfl, OwnTxts.nil _ _⟩, HB1.out.trans ((HB12.out.trans (hb3.mono HB12.out.size)).mono HX1.out)⟩
      · go_wp2_with (first
          | (go_at_call 16; have hchk := hb3; refine (ca2 _ hb3).mono ?_; rintro e w4 ⟨rfl, hb4⟩)
          | (go_at_call 16; go_must (refine ca1.mono ?_; rintro e w3 ⟨rfl, hb3⟩)))
        go_ret3
        exact ⟨⟨_, rfl, OwnTxts.nil _ _⟩, HB1.out.trans ((HB12.out.trans ((good_below hb3 hb4).mono HB12.out.size)).mono HX1.out)⟩
  obtain rfl : A1 = true := by cases A1; exact absurd (Or.inl rfl) hnone; rfl
  obtain rfl : A2 = true := by cases A2; exact absurd (Or.inr rfl) hnone; rfl
  clear hnone
  obtain ⟨E, hE⟩ : ∃ E, endsN l0 l1 l2 (phi l0 (beginS l0)) (beginS l0) = E := ⟨_, rfl⟩
  have hRe : R = (E.st, (doneF l0 E).map (nameAt l0), 0) := by rw [← HR.out]; unfold endF; rw [if_neg HNL.out, if_neg (by rw [HF.out]; simp), if_neg (by rw [HA1.out, HA2.out]; simp), hE]
  have hon := OnWay.begin HF.out hlen.2 l1 l2
  rw [hE] at hon
  have HON : Hid (OnWay l0 l1 l2 E (phi l0 (beginS l0)) (beginS l0)) := hon
  have HRE : Hid (R = (E.st, (doneF l0 E).map (nameAt l0), 0)) := hRe
  clear hE hRe hon
  go_wp2_with (first
    | (go_at_call 16; have hchk := hb3; refine (ca2 _ hb3).mono ?_; rintro e w4 ⟨rfl, hb4⟩)
    | (go_at_call 16; go_must (refine ca1.mono ?_; rintro e w3 ⟨rfl, hb3⟩)))
  have HR4 : Hid (RunI S w1.heap.size l0 a0 cap0 g gp (.slice none 0 0) [] dv0 cv0 w1 w4 (beginS l0)) := HR0.out.go (good_below hb3 hb4)
  clear HR0 ca1 ca2 hb3 hb4 hchk HB12 hwl hx0
  go_loopw [] (fun wr => ∃ (n : Nat) (s : Sg) (dv cv : Value), OnWay l0 l1 l2 E n s ∧ RunI S w1.heap.size l0 a0 cap0 g gp (.slice none 0 0) [] dv cv w1 wr s) (fun wr => measW l0 (fun W s => ∃ dv cv, RunI S w1.heap.size l0 a0 cap0 g gp (.slice none 0 0) [] dv cv w1 W s) wr)
  case atStart => exact ⟨_, _, _, _, HON.out, HR4.out⟩
  case round =>
    obtain ⟨n, s, dv, cv, hway, hR⟩ := hrel
    have HW : Hid (OnWay l0 l1 l2 E n s) := hway
    have HRR : Hid (RunI S w1.heap.size l0 a0 cap0 g gp (.slice none 0 0) [] dv cv w1 wr s) := hR
    have cov := implOver hR
    clear hway hR
    obtain ⟨OB, hOB⟩ : ∃ OB, overB s = OB := ⟨_, rfl⟩
    rw [hOB] at cov
    have HOB : Hid (overB s = OB) := hOB
    clear hOB
    cases OB
    case false =>
      have hno : ¬ overP s := fun h => by have := (over_iff s).2 h; rw [HOB.out] at this; cases this
      have hst : s.st = 1 ∨ s.st = 2 := by unfold overP at hno; omega
      have cn := implNext HRR.out (HW.out.way.bz hst) l1 l2 a1 a2 cap1 cap2 (by omega) (by omega) (HT1.out.below HRR.out.bel) (HT2.out.below HRR.out.bel)
      obtain ⟨m, hm, hlt⟩ := HW.out.step HF.out hlen.2 HRR.out.saga.tries hno
      obtain ⟨x, hx⟩ : ∃ x, ansM l0 s l1 l2 (firstB s) = x := ⟨_, rfl⟩
      have hsx : stepE l0 l1 l2 s = hearS l0 s x := by unfold stepE; rw [hx]
      rw [hx] at cn
      rw [hsx] at hm hlt
      have HM : Hid (OnWay l0 l1 l2 E m (hearS l0 s x)) := hm
      have HLT : Hid (phi l0 (hearS l0 s x) < phi l0 s) := hlt
      have hcm : s.cmds.length ≤ 700000 := by have := HW.out.cmds; omega
      have ch := fun (W : World) (hW : Below wr.heap.size wr W) => implHear (HRR.out.go hW) x.step x.kind hcm
      obtain ⟨xs, xk⟩ := x
      dsimp only at cn ch
      obtain ⟨s9, hs9⟩ : ∃ s9, hearS l0 s ⟨xs, xk⟩ = s9 := ⟨_, rfl⟩
      obtain ⟨c9, hc9⟩ : ∃ c9, codeS l0 s ⟨xs, xk⟩ = c9 := ⟨_, rfl⟩
      rw [hs9] at HM HLT
      simp only [hs9, hc9] at ch
      clear hm hlt hx hsx hs9 hc9 hno hst hcm
      go_wp2_with (first
        | (go_at_call 17; go_must (refine cov.mono ?_; rintro e w3 ⟨rfl, hq⟩; obtain rfl := hq.symm; clear hq))
        | (go_at_call 19; go_must (refine cn.mono ?_; rintro e w5 ⟨rfl, hb5⟩))
        | (go_at_call 18; go_must (refine (ch _ hb5).mono ?_; rintro e w6 ⟨rfl, dv6, cv6, H6⟩)))
      refine ⟨⟨m, s9, dv6, cv6, HM.out, H6⟩, ?_⟩
      rw [measW_eq (s := s9) (fun s s' ⟨d, c, h⟩ ⟨d', c', h'⟩ => h.phi_one h') ⟨dv6, cv6, H6⟩, measW_eq (s := s) (fun s s' ⟨d, c, h⟩ ⟨d', c', h'⟩ => h.phi_one h') ⟨dv, cv, HRR.out⟩]
      exact HLT.out
    case true =>
      have hov := (over_iff s).1 HOB.out
      have hsE := HW.out.over hov
      subst hsE
      have hok2 := HW.out.way.ok2
      have hdl := done_len HRR.out.ok
      have cs := implSortN HRR.out.done (by rw [nums_len]; omega)
      have c3 := HRR.out.blk.cell 3
      simp at c3
      clear hov
      go_upto_region 11 with (first
        | (go_at_call 17; go_must (refine cov.mono ?_; rintro e w3 ⟨rfl, hq⟩; obtain rfl := hq.symm; clear hq))
        | (go_at_call 20; go_must (refine cs.mono ?_; rintro e w5 ⟨rfl, hown5, hgr5⟩)))
      obtain ⟨H5, hb5⟩ := HRR.out.sorted hok2 hown5 hgr5
      have bD : Below w5.heap.size w5 w5.drew := (Below.refl _ _).drew
      have cnm := implNames (H5.go bD)
      have k1 := H5.blk.cell 1
      have k3 := H5.blk.cell 3
      simp at k1 k3
      have KP : Hid (∀ W, Below w5.heap.size w5 W → W.cell? ⟨g, 1, none⟩ = some (.int .i64 s.st) ∧ W.cell? ⟨g, 3, none⟩ = some dv) := fun W hW =>
        ⟨(hW.cell (World.block_lt_of_cell? _ _ k1)).trans k1, (hW.cell (World.block_lt_of_cell? _ _ k3)).trans k3⟩
      have HB5 : Hid (Below x0 w w5) := HB1.out.trans (H5.bel.mono HX1.out)
      have HX5 : Hid (x0 ≤ w5.heap.size) := Nat.le_trans HX1.out (Nat.le_trans H5.base H5.bel.size)
      clear cov cs c3 hown5 hgr5 H5 hb5
      dsimp only at cnm
      go_region_held3 (fun w' => w'.cell? ⟨g, 1, none⟩ = some (.int .i64 s.st) ∧ w'.cell? ⟨g, 3, none⟩ = some dv) (first | go_keep | exact KP.out _ (bD.trans hb6)) (first
        | (go_at_call 21; go_must (refine cnm.mono ?_; rintro e w6 ⟨⟨na, nn, nc, rfl, hown6⟩, hb6⟩)))
      go_wp2_with fail
      go_ret3
      have hRe := HRE.out
      subst hRe
      exact ⟨⟨_, rfl, OwnTxts.mono hown6 HX5.out⟩, HB5.out.trans ((bD.trans hb6).mono HX5.out)⟩
end Go.Proofs.YthgliancmmnjgaaGreatDoor

namespace Go.Proofs.YthgliancmmnjgaaGreatDoor
open Go.ChangeShapes Go.WideShapes Go.ChangeAt Go.RowKit
set_option linter.unusedVariables false
set_option linter.unusedSimpArgs false

set_option maxRecDepth 100000 in
set_option maxHeartbeats 400000 in
theorem lawHas {S : Nat → Prop} {ss : List ByteArray} {v : Value} {w : World} (h : TxtsAt S w v ss) (hl : ss.length ≤ 1000000) (t : ByteArray) :
    Calls Tryz.prog 10 #[v, .string t] w fun e w' => e = .returned (.bool (hasB ss t)) ∧ w' = w := by
  obtain ⟨_, a, cap, rfl, hc⟩ := h
  have HC : Hid _ := hc
  have hl' : (ss.length : Int) ≤ 1000000 := by omega
  clear hc
  go_enter Tryz.func10, Tryz.ntmps10
  go_wp2
  go_loop [5] (fun i => ∃ k : Nat, k ≤ ss.length ∧ i = .int .i64 (k : Int) ∧ (ss.take k).any (fun x => x.toList == t.toList) = false) (fun i => ss.length - (intOf i).toNat)
  case atStart => exact ⟨0, by omega, rfl, rfl⟩
  case round =>
    obtain ⟨k, hk, rfl, h0⟩ := hrel
    have H0 : Hid ((ss.take k).any (fun x => x.toList == t.toList) = false) := h0
    clear h0
    by_cases hkn : k < ss.length
    · have hkn' : (k : Int) < (ss.length : Int) := by omega
      obtain ⟨g, off, rfl, _, hcell0⟩ := HC.out (by omega)
      have hcell := hcell0 k hkn
      clear hcell0
      obtain ⟨x, hx⟩ : ∃ x, ss[k] = x := ⟨_, rfl⟩
      rw [hx] at hcell
      have HX : Hid (ss[k] = x) := hx
      clear hx
      go_wp2
      · have h1 : (x.toList == t.toList) = true := by assumption
        go_ret
        refine ⟨?_, rfl⟩
        have : hasB ss t = true := any_hit ss _ k hkn (by rw [HX.out]; exact h1)
        rw [this]; rfl
      · have h1 : (x.toList == t.toList) = false := by assumption
        go_round
        case rel => exact ⟨k + 1, by omega, by go_num, any_take_succ ss _ k hkn H0 (by rw [HX.out]; exact h1)⟩
        case measure => simp [intOf]; omega
    · have hkn' : ¬ ((k : Int) < (ss.length : Int)) := by omega
      go_wp2
      go_ret
      refine ⟨?_, rfl⟩
      have : hasB ss t = false := by
        have h1 := H0.out
        rw [List.take_of_length_le (by omega)] at h1
        exact h1
      rw [this]; rfl

/-! The paths of what is merged are right. -/

set_option maxRecDepth 100000 in
set_option maxHeartbeats 1000000 in
theorem lawSame {S S' : Nat → Prop} {ss : List ByteArray} {v v' : Value} {w : World} (h : TxtsAt S w v ss) (h' : TxtsAt S' w v' ss) (hl : ss.length ≤ 1000000) :
    Calls Tryz.prog 8 #[v, v'] w fun e w' => e = .returned (.bool true) ∧ Below w.heap.size w w' := by
  obtain ⟨_, a, cap, rfl, hc⟩ := h
  obtain ⟨_, a', cap', rfl, hc'⟩ := h'
  have HC : Hid _ := hc
  have HC' : Hid _ := hc'
  have hl' : (ss.length : Int) ≤ 1000000 := by omega
  clear hc hc'
  go_enter Tryz.func8, Tryz.ntmps8
  go_wp2_with fail
  go_loopw [5] (fun i5 wr => ∃ k : Nat, k ≤ ss.length ∧ i5 = .int .i64 (k : Int) ∧ Below w.heap.size w wr) (fun i5 _ => ss.length - (intOf i5).toNat)
  case atStart => exact ⟨0, by omega, rfl, Below.refl _ _⟩
  case round =>
    obtain ⟨k, hk, rfl, hb⟩ := hrel
    by_cases hkn : k < ss.length
    · have hkn' : (k : Int) < (ss.length : Int) := by omega
      obtain ⟨g, off, rfl, hg, hcell0⟩ := HC.out (by omega)
      obtain ⟨g', off', rfl, hg', hcell0'⟩ := HC'.out (by omega)
      have x0 := hcell0 k hkn
      have y0 := hcell0' k hkn
      have hgl := cell_lt x0
      have hgl' := cell_lt y0
      replace x0 := (hb.cell (p := ⟨g, off + k, none⟩) hgl).trans x0
      replace y0 := (hb.cell (p := ⟨g', off' + k, none⟩) hgl').trans y0
      obtain ⟨x, hx⟩ : ∃ x, ss[k] = x := ⟨_, rfl⟩
      rw [hx] at x0 y0
      clear hx hcell0 hcell0' hgl hgl'
      go_wp2_with fail
      go_quiet (fail)
      go_wp2_with fail
      exact ⟨⟨k + 1, by omega, by go_num, bel_drewN hb _⟩, by simp [intOf]; omega⟩
    · obtain rfl : k = ss.length := by omega
      have hkn' : ¬ ((ss.length : Int) < (ss.length : Int)) := by omega
      go_wp2_with fail
      go_ret
      exact ⟨rfl, hb⟩

/-- The names of steps, read in any later world. -/
theorem step_row {w : World} {a : Option Addr} {n c : Nat} {l : List Step} (h : StepsAt (fun b => b < w.heap.size) w (.slice a n c) l) (h0 : 0 < l.length) : ∃ g off, a = some ⟨g, off, none⟩ ∧ g < w.heap.size ∧ ∀ wr, Below w.heap.size w wr → ∀ i (hi : i < l.length), wr.cell? ⟨g, off + i * 4, none⟩ = some (.string l[i].name) := by
  obtain ⟨_, a', cap, hv, hc⟩ := h
  simp only [Value.slice.injEq] at hv
  obtain ⟨rfl, -, rfl⟩ := hv
  obtain ⟨g, off, rfl, hg, hcell⟩ := hc h0
  exact ⟨g, off, rfl, hg, fun wr hb i hi => (hb.cell (p := ⟨g, off + i * 4, none⟩) hg).trans (hcell i hi).1⟩
theorem cmd_row {B : Nat} {w : World} {a : Option Addr} {n c : Nat} {l : List Cmd} (h : OwnCmds B w (.slice a n c) l) (h0 : 0 < l.length) : ∃ g, a = some ⟨g, 0, none⟩ ∧ g < w.heap.size ∧ ∀ i (hi : i < l.length), w.cell? ⟨g, i * 3, none⟩ = some (.int .i64 l[i].kind) ∧ w.cell? ⟨g, i * 3 + 1, none⟩ = some (.int .i64 l[i].try') ∧ w.cell? ⟨g, i * 3 + 2, none⟩ = some (.string l[i].step) := by
  obtain ⟨a', c', hv, -, hca⟩ := h.value
  simp only [Value.slice.injEq] at hv
  obtain ⟨rfl, -, rfl⟩ := hv
  obtain ⟨g, rfl, _, hg, hcell⟩ := hca h0
  exact ⟨g, rfl, hg, hcell⟩
theorem msg_row {B : Nat} {w : World} {a : Option Addr} {n c : Nat} {l : List Msg} (h : OwnMsgs B w (.slice a n c) l) (h0 : 0 < l.length) : ∃ g, a = some ⟨g, 0, none⟩ ∧ g < w.heap.size ∧ ∀ i (hi : i < l.length), w.cell? ⟨g, i * 2, none⟩ = some (.string l[i].step) ∧ w.cell? ⟨g, i * 2 + 1, none⟩ = some (.int .i64 l[i].kind) := by
  obtain ⟨a', c', hv, -, hca⟩ := h.value
  simp only [Value.slice.injEq] at hv
  obtain ⟨rfl, -, rfl⟩ := hv
  obtain ⟨g, rfl, _, hg, hcell⟩ := hca h0
  exact ⟨g, rfl, hg, hcell⟩
theorem ends_saga {l : List Step} {f : List ByteArray} (h : GoodS l) (hf : f.all (hasB (names l)) = true) (hfl : f.length ≤ 8) : ∃ E : Sg, endF l f [] = (E.st, (doneF l E).map (nameAt l), 0) ∧ overP E ∧ Ok l E ∧ Ok2 l E ∧ Fin l f E := by
  have ht5 : ∀ i (hi : i < l.length), l[i].tries ≤ 5 := fun i hi => by have := h.2.1 i hi; omega
  have hw := Way.begin h.1
  obtain ⟨h1, h2⟩ := endsN_over h.1 ht5 f [] (phi l (beginS l)) hw (Nat.le_refl _)
  have h3 := ends_fin (f := f) h.1 h.2.1 (phi l (beginS l)) hw (Fin.begin l f)
  refine ⟨endsN l f [] (phi l (beginS l)) (beginS l), ?_, h1, h2.ok, h2.ok2, h3⟩
  unfold endF
  rw [if_neg (by have := h.2.2.2.1; simp; omega), if_neg (by rw [h.1]; simp), if_neg (by rw [hf]; simp)]
theorem log_saga {l : List Step} (h : GoodS l) {ms : List Msg} (hm : ms.length ≤ 100) : logF l ms = logOf l (hears l (beginS l, []) ms) := by
  unfold logF
  rw [if_neg (by have := h.2.2.2.1; omega), if_neg (by rw [h.1]; simp), if_neg (by omega)]
end Go.Proofs.YthgliancmmnjgaaGreatDoor

namespace Go.Proofs.YthgliancmmnjgaaGreatDoor
open Go.ChangeShapes Go.WideShapes Go.ChangeAt Go.RowKit
set_option linter.unusedVariables false
set_option linter.unusedSimpArgs false

set_option maxRecDepth 100000 in
set_option maxHeartbeats 64000000 in
theorem sagaLaw (w : World) (a0 : Option Addr) (len0 cap0 : Nat) (a1 : Option Addr) (len1 cap1 : Nat)
    (hc0 : ∀ i, i < len0 → ∃ cb co, a0 = some ⟨cb, co, none⟩ ∧ cb < w.heap.size ∧ ∃ b : Nat, b < 256 ∧ w.cell? ⟨cb, co + i, none⟩ = some (.int .u8 b))
    (hc1 : ∀ i, i < len1 → ∃ cb co, a1 = some ⟨cb, co, none⟩ ∧ cb < w.heap.size ∧ ∃ b : Nat, b < 256 ∧ w.cell? ⟨cb, co + i, none⟩ = some (.int .u8 b)) (hT : ∀ W, Below w.heap.size w W → Lib.Utf8Tabs 0 1 W) :
    Calls Tryz.prog 3 #[.slice a0 len0 cap0, .slice a1 len1 cap1] w fun e w' => e = .returned (.bool true) ∧ Below w.heap.size w w' := by
  by_cases hb0 : 1048576 < len0
  · have hb0' : (1048576 : Int) < (len0 : Int) := by omega
    clear hc0 hc1 hT
    go_enter Tryz.func3, Tryz.ntmps3
    go_wp2_with fail
    go_ret
    exact ⟨rfl, Below.refl _ _⟩
  have hb0' : ¬ (1048576 : Int) < (len0 : Int) := by omega
  by_cases hb1 : 1048576 < len1
  · have hb1' : (1048576 : Int) < (len1 : Int) := by omega
    clear hc0 hc1 hT
    go_enter Tryz.func3, Tryz.ntmps3
    go_wp2_with fail
    go_ret
    exact ⟨rfl, Below.refl _ _⟩
  have hb1' : ¬ (1048576 : Int) < (len1 : Int) := by omega
  have c4 := drawSagaOf a0 len0 cap0 w (by omega) hc0
  have HAT : Hid (∀ W, Below w.heap.size w W → ∀ (i n : Nat), i ≤ 1000 → 0 < n → n ≤ 1000 → Calls Tryz.prog 5 #[.slice a1 len1 cap1, .int .i64 (i : Int), .int .i64 (n : Int)] W fun e w' => (∃ k : Nat, k < n ∧ e = .returned (.int .i64 (k : Int))) ∧ Below W.heap.size W w') := fun W hW i n hi hn0 hn => lawAt a1 len1 cap1 W (by omega) (fun j hj => by
    obtain ⟨cb, co, ha, hcb, b, hb, hcell⟩ := hc1 j hj
    exact ⟨cb, co, ha, Nat.lt_of_lt_of_le hcb hW.size, b, hb, (hW.cell (p := ⟨cb, co + j, none⟩) hcb).trans hcell⟩) i n hi hn0 hn
  have HT : Hid (∀ W, Below w.heap.size w W → Lib.Utf8Tabs 0 1 W) := hT
  clear hc0 hc1 hT
  go_enter Tryz.func3, Tryz.ntmps3
  go_upto_region 4 with (go_at_call 4; go_must (refine c4.mono ?_; rintro e w1 ⟨⟨v0, l, rfl, hat, hfull, hgood⟩, hbw1⟩; obtain ⟨sa, sc, hv0⟩ := hat.shape; subst hv0))
  have HST : Hid (StepsAt (fun b => b < w1.heap.size) w1 (.slice sa l.length sc) l) := hat.mono (fun b h => h.2)
  have HFU : Hid (StepsFull w1 (.slice sa l.length sc) l) := hfull
  have HG : Hid (GoodS l) := hgood
  have HB1 : Hid (Below w.heap.size w w1) := hbw1
  have hl8 : l.length ≤ 8 := hgood.2.2.2.1
  have hl8' : (l.length : Int) ≤ 8 := by omega
  have HE1 : Hid (OwnTxts w1.heap.size (w1.alloc (.cells #[] 9)) (.slice (some ⟨w1.heap.size, 0, none⟩) 0 0) []) := OwnTxts.empty w1.heap.size w1 (Nat.le_refl _)
  clear hat hfull hgood hbw1 c4
  go_wp2_with fail
  go_loopw [6, 7] (fun i6 i7 wr => ∃ (k : Nat) (f : List ByteArray), i7 = .int .i64 (k : Int) ∧ k ≤ l.length ∧ f.length ≤ k ∧ OwnTxts w1.heap.size wr i6 f ∧ f.all (hasB (names l)) = true ∧ Below w1.heap.size w1 wr) (fun _ i7 _ => l.length - (intOf i7).toNat)
  case atStart => exact ⟨0, [], rfl, by omega, by simp, HE1.out, by simp, (Below.refl _ w1).alloc (Nat.le_refl _) _⟩
  case round =>
    obtain ⟨k, f, rfl, hk, hfk, how, hfn, hb⟩ := hrel
    obtain ⟨fa, fc, hv, -⟩ := how.value
    subst hv
    obtain ⟨wF, hwF⟩ : ∃ W, W = wr := ⟨_, rfl⟩
    subst hwF
    have HOW : Hid (OwnTxts w1.heap.size wF (.slice fa f.length fc) f) := how
    have HFN : Hid (f.all (hasB (names l)) = true) := hfn
    have HBF : Hid (Below w1.heap.size w1 wF) := hb
    have hfl : (f.length : Int) ≤ 8 := by omega
    clear how hfn hb HE1
    by_cases hkn : k < l.length
    · have hkn' : (k : Int) < (l.length : Int) := by omega
      obtain ⟨g0, o0, rfl, hg0, hcell⟩ := step_row HST.out (by omega)
      have ca := HAT.out wF (good_below HB1.out HBF.out) k 6 (by omega) (by omega) (by omega)
      go_upto_if 44 with (go_at_call 5; go_must (refine ca.mono ?_; rintro e w2 ⟨⟨q6, hq6, rfl⟩, hb2⟩))
      have hbB : Below w1.heap.size w1 w2 := HBF.out.trans (hb2.mono HBF.out.size)
      have HB2 : Hid (Below w1.heap.size w1 w2) := hbB
      have HO2 : Hid (OwnTxts w1.heap.size w2 (.slice fa f.length fc) f) := OwnTxts.below HOW.out hb2
      have x0 := hcell w2 hbB k hkn
      obtain ⟨nk, hnk⟩ : ∃ nk, l[k].name = nk := ⟨_, rfl⟩
      rw [hnk] at x0
      have HNK : Hid (l[k].name = nk) := hnk
      clear hcell ca hb2 hbB hnk
      by_cases hq0 : q6 = 0
      · subst hq0
        have bA : Below w2.heap.size w2 (w2.alloc (.cells #[.string nk] 9)) := (Below.refl _ w2).alloc (Nat.le_refl _) _
        have HOA : Hid (OwnTxts w1.heap.size (w2.alloc (.cells #[.string nk] 9)) (.slice fa f.length fc) f) := OwnTxts.below HO2.out bA
        have hszA : w1.heap.size ≤ (w2.alloc (.cells #[.string nk] 9)).heap.size := Nat.le_trans HB2.out.size bA.size
        have HBA : Hid (Below w1.heap.size w1 (w2.alloc (.cells #[.string nk] 9))) := HB2.out.trans (bA.mono HB2.out.size)
        clear bA
        go_wp2_with (at_builtin; go_must (refine wpList_appendTxts rfl (.tmp 45) (.tmp 51) rfl w1.heap.size (.slice fa f.length fc) f rfl HOA.out _ [nk] rfl (TxtsAt.new w2 nk) (by simp; omega) hszA ?_; intro v9 w9 hown9 hB9 hgr9 hnil9))
        refine ⟨⟨k + 1, f ++ [nk], by go_num, by omega, by simp; omega, hown9, ?_, HBA.out.trans hB9⟩, by simp [intOf]; omega⟩
        rw [List.all_append, HFN.out, Bool.true_and]
        simp only [List.all_cons, List.all_nil, Bool.and_true]
        unfold hasB
        rw [List.any_eq_true]
        refine ⟨nk, ?_, by simp⟩
        rw [← HNK.out]
        unfold names
        exact List.mem_map_of_mem (List.getElem_mem hkn)
      · have hq0' : ((q6 : Int) == 0) = false := by rw [beq_eq_false_iff_ne]; omega
        go_wp2_with fail
        exact ⟨⟨k + 1, f, by go_num, by omega, by omega, HO2.out, HFN.out, HB2.out⟩, by simp [intOf]; omega⟩
    · obtain rfl : k = l.length := by omega
      have hkn' : ¬ ((l.length : Int) < (l.length : Int)) := by omega
      obtain ⟨E, hE, hEo, hE1, hE2, hE3⟩ := ends_saga HG.out HFN.out (by omega)
      have HEF : Hid (overP E ∧ Ok l E ∧ Ok2 l E ∧ Fin l f E) := ⟨hEo, hE1, hE2, hE3⟩
      have hbA : Below w1.heap.size w1 (wF.alloc (.cells #[] 9)) := HBF.out.alloc HBF.out.size _
      have hnilT : ∀ (W : World) (b : Nat), TxtsAt (fun b => b < W.heap.size) W (.slice (some ⟨b, 0, none⟩) 0 0) [] := fun W b => ⟨by simp, _, 0, rfl, fun h0 => by simp at h0⟩
      have hsteps : ∀ W, Below w1.heap.size w1 W → StepsAt (fun b => b < W.heap.size) W (.slice sa l.length sc) l := fun W hW => (HST.out.keep (cells_below (fun b h => h) hW)).mono (fun b h => Nat.lt_of_lt_of_le h hW.size)
      have hfulls : ∀ W, Below w1.heap.size w1 W → StepsFull W (.slice sa l.length sc) l := fun W hW => StepsFull.keep HFU.out HST.out (cells_below (fun b h => h) hW)
      have hfails : ∀ W, Below wF.heap.size wF W → TxtsAt (fun b => b < W.heap.size) W (.slice fa f.length fc) f := fun W hW => (OwnTxts.below HOW.out hW).at.mono (fun b h => h.2)
      have cI := implEnds (fun b => b < (wF.alloc (.cells #[] 9)).heap.size) l f [] _ _ (.slice (some ⟨wF.heap.size, 0, none⟩) 0 0) (wF.alloc (.cells #[] 9)) (fun b h => h) (hsteps _ hbA) (by omega) HG.out.2.2.1 (hfulls _ hbA) (hfails _ ((Below.refl _ wF).alloc (Nat.le_refl _) _)) (by omega) (hnilT _ _) (by simp) (fun W hW => HT.out W (good_below HB1.out (good_below hbA hW)))
      have cS := fun (W : World) (hW : Below wF.heap.size wF W) (hW1 : Below w1.heap.size w1 W) => specEnds (fun _ => True) (fun b => b < (W.alloc (.cells #[] 9)).heap.size) l f [] _ _ (.slice (some ⟨W.heap.size, 0, none⟩) 0 0) (W.alloc (.cells #[] 9)) (fun b h => h) (hsteps _ (hW1.alloc hW1.size _)) (by omega) HG.out.2.2.1 (hfulls _ (hW1.alloc hW1.size _)) (hfails _ (hW.alloc hW.size _)) (by omega) (hnilT _ _) (by simp) (fun _ _ => trivial)
      simp only [hE] at cI cS
      obtain ⟨ES, hES⟩ : ∃ x, E.st = x := ⟨_, rfl⟩
      obtain ⟨EL, hEL⟩ : ∃ x, (doneF l E).map (nameAt l) = x := ⟨_, rfl⟩
      rw [hES, hEL] at cI
      simp only [hES, hEL] at cS
      have HES : Hid (E.st = ES) := hES
      have HEL : Hid ((doneF l E).map (nameAt l) = EL) := hEL
      have hEL8 : EL.length ≤ 8 := by
        rw [← hEL, List.length_map]
        have : (doneF l E).length ≤ l.length := by unfold doneF; exact Nat.le_trans (List.length_filter_le _ _) (by simp)
        omega
      have hEL8' : (EL.length : Int) ≤ 8 := by omega
      clear hE hEo hE1 hE2 hE3 hES hEL hbA
      go_upto_region 11 with (go_at_call 6; go_must (refine cI.mono ?_; rintro e w3 ⟨⟨p9, rfl, how9⟩, hb3⟩; obtain ⟨pa, pc, hp9, -⟩ := how9.value; subst hp9))
      have hbF3 : Below wF.heap.size wF w3 := ((Below.refl _ wF).alloc (Nat.le_refl _) _).trans (hb3.mono (by simp))
      have hb13 : Below w1.heap.size w1 w3 := good_below HBF.out hbF3
      have cJ := cS w3 hbF3 hb13
      have HB3 : Hid (Below wF.heap.size wF w3) := hbF3
      have HO9 : Hid (OwnTxts (wF.alloc (.cells #[] 9)).heap.size w3 (.slice pa EL.length pc) EL) := how9
      clear cI cS how9 hb3 hbF3
      go_upto_region 12 with (go_at_call 7; go_must (refine cJ.mono ?_; rintro e w4 ⟨⟨p12, rfl, how12⟩, hb4⟩; obtain ⟨ra, rc, hp12, -⟩ := how12.value; subst hp12))
      have hF3 := HB3.out
      have hF4 : Below wF.heap.size wF w4 := hF3.trans (((Below.refl _ w3).alloc (Nat.le_refl _) _ |>.trans (hb4.mono (by simp))).mono hF3.size)
      have h14 : Below w1.heap.size w1 w4 := good_below HBF.out hF4
      have bX : Below w3.heap.size w3 w4 := ((Below.refl _ w3).alloc (Nat.le_refl _) _).trans (hb4.mono (by simp))
      have t9 : TxtsAt (fun b => b < w4.heap.size) w4 (.slice pa EL.length pc) EL := (OwnTxts.below HO9.out bX).at.mono (fun b h => h.2)
      have t12 : TxtsAt (fun b => b < w4.heap.size) w4 (.slice ra EL.length rc) EL := how12.at.mono (fun b h => h.2)
      have cs := lawSame t9 t12 (by omega)
      have HT12 : Hid (TxtsAt (fun b => b < w4.heap.size) w4 (.slice ra EL.length rc) EL) := t12
      have HF4 : Hid (Below wF.heap.size wF w4) := hF4
      have H14 : Hid (Below w1.heap.size w1 w4) := h14
      clear t9 t12 bX hF3 hF4 h14 how12 hb4 cJ HO9 HB3 hb13
      go_upto_region 14 with (go_at_call 8; go_must (refine cs.mono ?_; rintro e w5 ⟨rfl, hb5⟩))
      have HF5 : Hid (Below wF.heap.size wF w5) := good_below HF4.out hb5
      have H15 : Hid (Below w1.heap.size w1 w5) := good_below H14.out hb5
      have HT5 : Hid (TxtsAt (fun b => b < w5.heap.size) w5 (.slice ra EL.length rc) EL) := (HT12.out.keep (cells_below (fun b h => h) hb5)).mono (fun b h => Nat.lt_of_lt_of_le h hb5.size)
      have HE5 : Hid (OwnMsgs w5.heap.size (w5.alloc (.cells #[] 40)) (.slice (some ⟨w5.heap.size, 0, none⟩) 0 0) []) := OwnMsgs.empty w5.heap.size w5 (Nat.le_refl _)
      have HSP : Hid (∀ W, Below w1.heap.size w1 W → StepsAt (fun b => b < W.heap.size) W (.slice sa l.length sc) l) := hsteps
      have HFP : Hid (∀ W, Below w1.heap.size w1 W → StepsFull W (.slice sa l.length sc) l) := hfulls
      have HAP : Hid (∀ W, Below wF.heap.size wF W → TxtsAt (fun b => b < W.heap.size) W (.slice fa f.length fc) f) := hfails
      clear HF4 H14 HT12 hb5 cs hsteps hfulls hfails hnilT
      have hps := begin_psi l
      have HBG : Hid (Way l (beginS l) ∧ Inv l (beginS l) [] ∧ Fin l f (beginS l) ∧ psi l (beginS l) ≤ 32 ∧ (beginS l).cmds.length ≤ 10) := ⟨Way.begin HG.out.1, Inv.begin l, Fin.begin l f, by omega, by have := fwd_cmds l (zeroS l); have h0 : (zeroS l).cmds.length = 0 := rfl; unfold beginS; omega⟩
      clear hps
      go_wp2_with fail
      go_loopw [14, 15] (fun i14 i15 wr => ∃ (ms : List Msg) (s : Sg), i15 = .int .i64 (ms.length : Int) ∧ OwnMsgs w5.heap.size wr i14 ms ∧ s = (hears l (beginS l, []) ms).1 ∧ Way l s ∧ Inv l s ms ∧ Fin l f s ∧ ms.length + psi l s ≤ 32 ∧ s.cmds.length ≤ 10 * (ms.length + 1) ∧ Below w5.heap.size w5 wr) (fun _ i15 _ => 200 - (intOf i15).toNat)
      case atStart => exact ⟨[], beginS l, rfl, HE5.out, rfl, HBG.out.1, HBG.out.2.1, HBG.out.2.2.1, by simpa using HBG.out.2.2.2.1, by simpa using HBG.out.2.2.2.2, (Below.refl _ w5).alloc (Nat.le_refl _) _⟩
      case round =>
        obtain ⟨ms, s, rfl, how, hs, hway, hinv, hfin, hpsi, hcl, hb⟩ := hrel
        obtain ⟨ma, mc, hv, -⟩ := how.value
        subst hv
        obtain ⟨wM, hwM⟩ : ∃ W, W = wr := ⟨_, rfl⟩
        subst hwM
        have hm32 : ms.length ≤ 32 := by omega
        have hm32' : (ms.length : Int) ≤ 32 := by omega
        have h1M : Below w1.heap.size w1 wM := good_below H15.out hb
        have cR := implRunSaga (fun b => b < wM.heap.size) l ms _ _ wM (fun b h => h) (HSP.out wM h1M) (by omega) HG.out.2.2.1 (HFP.out wM h1M) (how.at.mono (fun b h => h.2)) (by omega) (fun W hW => HT.out W (good_below HB1.out (good_below h1M hW)))
        rw [log_saga HG.out (by omega)] at cR
        unfold logOf at cR
        rw [← hs] at cR
        obtain ⟨R, hR⟩ : ∃ R, (hears l (beginS l, []) ms).2 = R := ⟨_, rfl⟩
        rw [hR] at cR
        obtain ⟨SX, hSX⟩ : ∃ x, s.st = x := ⟨_, rfl⟩
        obtain ⟨CM, hCM⟩ : ∃ x, s.cmds = x := ⟨_, rfl⟩
        obtain ⟨D, hD⟩ : ∃ x, s.done.map (nameAt l) = x := ⟨_, rfl⟩
        rw [hSX, hCM, hD] at cR
        have HOM : Hid (OwnMsgs w5.heap.size wM (.slice ma ms.length mc) ms) := how
        have HS : Hid (s = (hears l (beginS l, []) ms).1) := hs
        have HW : Hid (Way l s) := hway
        have HI : Hid (Inv l s ms) := hinv
        have HFI : Hid (Fin l f s) := hfin
        have HPS : Hid (ms.length + psi l s ≤ 32) := hpsi
        have HBM : Hid (Below w5.heap.size w5 wM) := hb
        have HSX : Hid (s.st = SX) := hSX
        have HCM : Hid (s.cmds = CM) := hCM
        have HD : Hid (s.done.map (nameAt l) = D) := hD
        have hCL : CM.length ≤ 10 * (ms.length + 1) := by rw [← hCM]; exact hcl
        have HCL : Hid (CM.length ≤ 10 * (ms.length + 1)) := hCL
        have hCL' : (CM.length : Int) ≤ 1000 := by omega
        have hDL : D.length ≤ 8 := by rw [← hD, List.length_map]; have := done_len hway.ok; omega
        have hDL' : (D.length : Int) ≤ 8 := by omega
        clear how hs hway hinv hfin hpsi hcl hCL hb hR hSX hCM hD h1M HE5 HBG
        go_upto_region 19 with (go_at_call 9; go_must (refine cR.mono ?_; rintro e w6 ⟨⟨v6, rfl, hlog⟩, hb6⟩; obtain ⟨rv, cv, nv, hv6, hrv, hcv, hnv⟩ := hlog; subst hv6; obtain ⟨r1, r2, e1, -⟩ := hrv.value; obtain ⟨c1, c2, e2, -⟩ := hcv.value; obtain ⟨n1, n2, e3, -⟩ := hnv.value; subst e1 e2 e3))
        have bL : Below w6.heap.size w6 (w6.alloc (.cells #[.int .i64 0, .int .i64 SX, .slice r1 R.length r2, .slice c1 CM.length c2, .slice n1 D.length n2] 36)) := (Below.refl _ w6).alloc (Nat.le_refl _) _
        have kL : Blk (w6.alloc (.cells #[.int .i64 0, .int .i64 SX, .slice r1 R.length r2, .slice c1 CM.length c2, .slice n1 D.length n2] 36)) w6.heap.size 36 #[.int .i64 0, .int .i64 SX, .slice r1 R.length r2, .slice c1 CM.length c2, .slice n1 D.length n2] := heap_alloc_last w6 _
        have HCV : Hid (OwnCmds wM.heap.size (w6.alloc (.cells #[.int .i64 0, .int .i64 SX, .slice r1 R.length r2, .slice c1 CM.length c2, .slice n1 D.length n2] 36)) (.slice c1 CM.length c2) CM) := OwnCmds.below hcv bL
        have HNV : Hid (OwnTxts wM.heap.size (w6.alloc (.cells #[.int .i64 0, .int .i64 SX, .slice r1 R.length r2, .slice c1 CM.length c2, .slice n1 D.length n2] 36)) (.slice n1 D.length n2) D) := OwnTxts.below hnv bL
        have HBL : Hid (Below wM.heap.size wM (w6.alloc (.cells #[.int .i64 0, .int .i64 SX, .slice r1 R.length r2, .slice c1 CM.length c2, .slice n1 D.length n2] 36))) := good_below hb6 bL
        generalize w6.alloc (.cells #[.int .i64 0, .int .i64 SX, .slice r1 R.length r2, .slice c1 CM.length c2, .slice n1 D.length n2] 36) = wL at bL kL HCV HNV HBL ⊢
        generalize w6.heap.size = b16 at kL ⊢
        have HKL : Hid (Blk wL b16 36 #[.int .i64 0, .int .i64 SX, .slice r1 R.length r2, .slice c1 CM.length c2, .slice n1 D.length n2]) := kL
        have q0 := kL.cell 0
        have q1 := kL.cell 1
        have q3 := kL.cell 3
        have q4 := kL.cell 4
        simp at q0 q1 q3 q4
        have H5L : Hid (Below w5.heap.size w5 wL) := good_below HBM.out HBL.out
        clear bL kL hrv hcv hnv hb6 cR
        by_cases hov : overP s
        · obtain ⟨e1, e2, e3⟩ := fin_same HW.out.ok HEF.out.2.1 HEF.out.2.2.1 HFI.out HEF.out.2.2.2 HFN.out hov HEF.out.1
          rw [HSX.out, HES.out] at e1
          rw [HD.out, HEL.out] at e2 e3
          have hs1 : (SX != 1) = true := by rw [bne_iff_ne, ← HSX.out]; exact hov.1
          have hs2 : (SX != 2) = true := by rw [bne_iff_ne, ← HSX.out]; exact hov.2
          have hln : ((D.length : Int) != (EL.length : Int)) = false := by rw [bne_eq_false_iff_eq, e2]
          have H3 : Hid (∀ t ∈ EL, hasB D t = true) := e3
          have he1 := e1.symm
          subst he1
          clear e1 e2 e3 hov
          go_wp2_with fail
          go_loopw [17] (fun i17 wr => ∃ (k : Nat), i17 = .int .i64 (k : Int) ∧ k ≤ EL.length ∧ Below wL.heap.size wL wr) (fun i17 _ => EL.length - (intOf i17).toNat)
          case atStart => exact ⟨0, rfl, by omega, Below.refl _ _⟩
          case round =>
            obtain ⟨k, rfl, hk, hbk⟩ := hrel
            obtain ⟨wK, hwK⟩ : ∃ W, W = wr := ⟨_, rfl⟩
            subst hwK
            by_cases hkn : k < EL.length
            · have hkn' : (k : Int) < (EL.length : Int) := by omega
              have h5K := good_below H5L.out hbk
              obtain ⟨_, ra', rc', hrv, hrc⟩ := HT5.out
              simp only [Value.slice.injEq] at hrv
              obtain ⟨rfl, -, rfl⟩ := hrv
              obtain ⟨gt, ot, rfl, hgt, hrcell⟩ := hrc (by omega)
              have r0 := (h5K.cell (p := ⟨gt, ot + k, none⟩) hgt).trans (hrcell k hkn)
              have hh := H3.out EL[k] (List.getElem_mem hkn)
              obtain ⟨t, ht⟩ : ∃ t, EL[k] = t := ⟨_, rfl⟩
              rw [ht] at r0 hh
              have hgtK : gt < wK.heap.size := cell_lt r0
              have kK := HKL.out.below hbk
              have dK := (OwnTxts.below HNV.out hbk).at.mono (S' := fun b => b < wK.heap.size) (fun b h => h.2)
              have y4 : ∀ N : GoodW (fun W => Below wK.heap.size wK W), N.W.cell? ⟨b16, 4, none⟩ = some (.slice n1 D.length n2) := fun N => (kK.below N.ok).cell 4
              have z0 : ∀ N : GoodW (fun W => Below wK.heap.size wK W), N.W.cell? ⟨gt, ot + k, none⟩ = some (.string t) := fun N => (N.ok.cell (p := ⟨gt, ot + k, none⟩) hgtK).trans r0
              have ch : ∀ N : GoodW (fun W => Below wK.heap.size wK W), Calls Tryz.prog 10 #[.slice n1 D.length n2, .string t] N.W fun e w' => e = .returned (.bool true) ∧ Below N.W.heap.size N.W w' := fun N => by
                have := lawHas (dK.keep (cells_below (fun b h => h) N.ok)) (by omega) t
                rw [hh] at this
                exact this.mono fun e w' q => ⟨q.1, by rw [q.2]; exact Below.refl _ _⟩
              clear hrc hrcell ht hh dK h5K r0
              go_upto_region 27 with fail
              haveI ne1 : Nonempty (GoodW (fun W => Below wK.heap.size wK W)) := ⟨⟨_, Below.refl _ wK⟩⟩
              refine wp_region_calm (fun W => Below wK.heap.size wK W) (by kernel_rfl) (by kernel_rfl) (Below.refl _ wK).drew ?_
              repeat (go_big_quiet_step ((go_at_call 10; exact Calls.calm _ (fun w2 hb => good_below (GoodW.ok _) hb) (ch _))))
              refine wpQuiet_nil ?_
              rintro WX ⟨⟨XA, hXA⟩, hEA⟩
              have hWX : Below wK.heap.size wK WX := by rw [hEA]; exact hXA
              clear hEA hXA XA ch y4 z0 ne1
              go_wp2_with fail
              exact ⟨⟨k + 1, by go_num, by omega, good_below hbk hWX⟩, by simp [intOf]; omega⟩
            · have hkn' : ¬ ((k : Int) < (EL.length : Int)) := by omega
              go_wp2_with fail
              go_ret
              exact ⟨rfl, good_below HB1.out (good_below H15.out (good_below H5L.out hbk))⟩
        · have hst : SX = 1 ∨ SX = 2 := by rw [← HSX.out]; unfold overP at hov; omega
          have HNO : Hid (¬ overP s) := hov
          clear hov
          go_upto_region 21 with fail
          go_cut [100] from 93 to 100 (fun s100 wx => s100 = .bool false ∧ wx = wL)
          case first =>
            rcases hst with rfl | rfl
            · go_wp2_with fail
              go_meet
              exact ⟨rfl, rfl⟩
            · go_wp2_with fail
              go_meet
              exact ⟨rfl, rfl⟩
          case rest =>
            obtain ⟨rfl, hwc⟩ := hcut
            have hwc' := hwc.symm
            clear hwc
            subst hwc'
            have HEO : Hid (OwnCmds wL.heap.size (wL.alloc (.cells #[] 42)) (.slice (some ⟨wL.heap.size, 0, none⟩) 0 0) []) := OwnCmds.empty wL.heap.size wL (Nat.le_refl _)
            clear hst q0 q1 q3 q4
            go_wp2_with fail
            go_loopw [18, 19] (fun i18 i19 wr => ∃ (k : Nat) (op : List Cmd), i19 = .int .i64 (k : Int) ∧ k ≤ CM.length ∧ op = (CM.take k).filter (opnB ms) ∧ OwnCmds wL.heap.size wr i18 op ∧ Below wL.heap.size wL wr) (fun _ i19 _ => CM.length - (intOf i19).toNat)
            case atStart => exact ⟨0, [], rfl, by omega, by simp, HEO.out, (Below.refl _ wL).alloc (Nat.le_refl _) _⟩
            case round =>
              obtain ⟨k, op, rfl, hk, hop, how, hbk⟩ := hrel
              obtain ⟨oa, oc, hv, -⟩ := how.value
              subst hv
              obtain ⟨wK, hwK⟩ : ∃ W, W = wr := ⟨_, rfl⟩
              subst hwK
              have HOP : Hid (op = (CM.take k).filter (opnB ms)) := hop
              have HOW4 : Hid (OwnCmds wL.heap.size wK (.slice oa op.length oc) op) := how
              have HBK : Hid (Below wL.heap.size wL wK) := hbk
              have hopl : op.length ≤ CM.length := by rw [hop]; exact Nat.le_trans (List.length_filter_le _ _) (by simp; omega)
              have hopl' : (op.length : Int) ≤ 1000 := by omega
              have kK := HKL.out.below hbk
              have y3 := kK.cell 3
              simp at y3
              clear how hop hbk HEO
              by_cases hkn : k < CM.length
              · have hkn' : (k : Int) < (CM.length : Int) := by omega
                obtain ⟨g3, rfl, hg3, hc3⟩ := cmd_row (OwnCmds.below HCV.out HBK.out) (by omega)
                obtain ⟨x0, x1, x2⟩ := hc3 k hkn
                obtain ⟨c, hc⟩ : ∃ c, CM[k] = c := ⟨_, rfl⟩
                rw [hc] at x0 x1 x2
                have HCK : Hid (CM[k] = c) := hc
                obtain ⟨ck, ct, cs⟩ := c
                dsimp only at x0 x1 x2
                have HMK : Hid (OwnMsgs w5.heap.size wK (.slice ma ms.length mc) ms) := OwnMsgs.below HOM.out (good_below HBL.out HBK.out)
                clear hc3 hc
                go_wp2_with fail
                go_loopw [20, 21] (fun i20 i21 wr => ∃ (j n : Nat), i21 = .int .i64 (j : Int) ∧ j ≤ ms.length ∧ i20 = .int .i64 (n : Int) ∧ n = cnt (ms.take j) cs (decide (ck = 1)) ∧ n ≤ j ∧ Below wK.heap.size wK wr) (fun _ i21 _ => ms.length - (intOf i21).toNat)
                case atStart => exact ⟨0, 0, rfl, by omega, rfl, by simp [cnt], by omega, Below.refl _ _⟩
                case round =>
                  obtain ⟨j, n, rfl, hj, rfl, hn, hnj, hbj⟩ := hrel
                  obtain ⟨wJ, hwJ⟩ : ∃ W, W = wr := ⟨_, rfl⟩
                  subst hwJ
                  have HN : Hid (n = cnt (ms.take j) cs (decide (ck = 1))) := hn
                  have HBJ : Hid (Below wK.heap.size wK wJ) := hbj
                  have hnj' : (n : Int) ≤ 32 := by omega
                  have y3J := (hbj.cell (World.block_lt_of_cell? _ _ y3)).trans y3
                  have x0J := (hbj.cell (World.block_lt_of_cell? _ _ x0)).trans x0
                  have x1J := (hbj.cell (World.block_lt_of_cell? _ _ x1)).trans x1
                  have x2J := (hbj.cell (World.block_lt_of_cell? _ _ x2)).trans x2
                  clear hn
                  by_cases hjn : j < ms.length
                  · have hjn' : (j : Int) < (ms.length : Int) := by omega
                    obtain ⟨gm, rfl, hgm, hcm⟩ := msg_row HMK.out (by omega)
                    obtain ⟨m0, m1⟩ := hcm j hjn
                    obtain ⟨mm, hmm⟩ : ∃ m, ms[j] = m := ⟨_, rfl⟩
                    rw [hmm] at m0 m1
                    have HMM : Hid (ms[j] = mm) := hmm
                    obtain ⟨mst, mk⟩ := mm
                    dsimp only at m0 m1
                    have m0J := (hbj.cell (World.block_lt_of_cell? _ _ m0)).trans m0
                    have m1J := (hbj.cell (World.block_lt_of_cell? _ _ m1)).trans m1
                    obtain ⟨AB, hAB⟩ : ∃ AB, ansB cs (decide (ck = 1)) ⟨mst, mk⟩ = AB := ⟨_, rfl⟩
                    have HAB : Hid (ansB cs (decide (ck = 1)) ⟨mst, mk⟩ = AB) := hAB
                    have hAB2 : ((mst.toList == cs.toList) && (decide (mk ≤ 2) == decide (ck = 1))) = AB := hAB
                    clear hcm hmm m0 m1 hbj hAB
                    go_upto_region 38 with fail
                    go_cut [168] from 141 to 168 (fun s168 wx => s168 = .bool AB ∧ Below wJ.heap.size wJ wx)
                    case first =>
                      cases ha : (mst.toList == cs.toList)
                      · rw [ha] at hAB2
                        simp only [Bool.false_and] at hAB2
                        subst hAB2
                        go_quiet (fail)
                        refine meet_then (by assumption) ?_
                        go_meet
                        exact ⟨rfl, bel_drewN (Below.refl _ wJ) _⟩
                      · rw [ha] at hAB2
                        simp only [Bool.true_and] at hAB2
                        cases hk2 : decide (mk ≤ 2)
                        · cases hc1 : (ck == 1)
                          · have hd : decide (ck = 1) = false := by simpa using hc1
                            rw [hk2, hd] at hAB2
                            simp at hAB2
                            subst hAB2
                            go_quiet (fail)
                            refine meet_then (by assumption) ?_
                            go_meet
                            exact ⟨rfl, bel_drewN (Below.refl _ wJ) _⟩
                          · have hd : decide (ck = 1) = true := by simpa using hc1
                            rw [hk2, hd] at hAB2
                            simp at hAB2
                            subst hAB2
                            go_quiet (fail)
                            refine meet_then (by assumption) ?_
                            go_meet
                            exact ⟨rfl, bel_drewN (Below.refl _ wJ) _⟩
                        · cases hc1 : (ck == 1)
                          · have hd : decide (ck = 1) = false := by simpa using hc1
                            rw [hk2, hd] at hAB2
                            simp at hAB2
                            subst hAB2
                            go_quiet (fail)
                            refine meet_then (by assumption) ?_
                            go_meet
                            exact ⟨rfl, bel_drewN (Below.refl _ wJ) _⟩
                          · have hd : decide (ck = 1) = true := by simpa using hc1
                            rw [hk2, hd] at hAB2
                            simp at hAB2
                            subst hAB2
                            go_quiet (fail)
                            refine meet_then (by assumption) ?_
                            go_meet
                            exact ⟨rfl, bel_drewN (Below.refl _ wJ) _⟩
                    case rest =>
                      obtain ⟨rfl, hbw⟩ := hcut
                      have hcnt : cnt (ms.take (j + 1)) cs (decide (ck = 1)) = n + (if AB = true then 1 else 0) := by
                        rw [List.take_succ_eq_append_getElem hjn, cnt_app, HN.out, HMM.out, HAB.out]
                      cases AB
                      · rw [if_neg (by simp)] at hcnt
                        have HCN : Hid (cnt (ms.take (j + 1)) cs (decide (ck = 1)) = n + 0) := hcnt
                        clear hcnt hAB2
                        go_wp2_with fail
                        exact ⟨⟨j + 1, n, by go_num, by omega, rfl, HCN.out.symm, by omega, good_below HBJ.out hbw⟩, by simp [intOf]; omega⟩
                      · rw [if_pos rfl] at hcnt
                        have HCN : Hid (cnt (ms.take (j + 1)) cs (decide (ck = 1)) = n + 1) := hcnt
                        clear hcnt hAB2
                        go_wp2_with fail
                        exact ⟨⟨j + 1, n + 1, by go_num, by omega, by go_num, HCN.out.symm, by omega, good_below HBJ.out hbw⟩, by simp [intOf]; omega⟩
                  · obtain rfl : j = ms.length := by omega
                    have hjn' : ¬ ((ms.length : Int) < (ms.length : Int)) := by omega
                    have hop1 : opnB ms ⟨ck, ct, cs⟩ = decide ((n : Int) < ct) := by
                      have := HN.out
                      rw [List.take_of_length_le (Nat.le_refl _)] at this
                      rw [this]
                      rfl
                    have hflt : (CM.take (k + 1)).filter (opnB ms) = op ++ (if opnB ms ⟨ck, ct, cs⟩ = true then [⟨ck, ct, cs⟩] else []) := by
                      rw [List.take_succ_eq_append_getElem hkn, List.filter_append, HOP.out, HCK.out]
                      congr 1
                      simp only [List.filter_cons, List.filter_nil]
                    have HFL : Hid ((CM.take (k + 1)).filter (opnB ms) = op ++ (if opnB ms ⟨ck, ct, cs⟩ = true then [⟨ck, ct, cs⟩] else [])) := hflt
                    have HOJ : Hid (OwnCmds wL.heap.size wJ (.slice oa op.length oc) op) := OwnCmds.below HOW4.out hbj
                    have HBLJ : Hid (Below wL.heap.size wL wJ) := good_below HBK.out hbj
                    clear hflt hbj
                    by_cases hlt : (n : Int) < ct
                    · have ho2 : opnB ms ⟨ck, ct, cs⟩ = true := by rw [hop1, decide_eq_true hlt]
                      have HO2 : Hid (opnB ms ⟨ck, ct, cs⟩ = true) := ho2
                      have bA : Below wJ.heap.size wJ (wJ.alloc (.cells #[.int .i64 ck, .int .i64 ct, .string cs] 42)) := (Below.refl _ wJ).alloc (Nat.le_refl _) _
                      have HOA : Hid (OwnCmds wL.heap.size (wJ.alloc (.cells #[.int .i64 ck, .int .i64 ct, .string cs] 42)) (.slice oa op.length oc) op) := OwnCmds.below HOJ.out bA
                      have HBA : Hid (Below wL.heap.size wL (wJ.alloc (.cells #[.int .i64 ck, .int .i64 ct, .string cs] 42))) := good_below HBLJ.out bA
                      have hszA : wL.heap.size ≤ (wJ.alloc (.cells #[.int .i64 ck, .int .i64 ct, .string cs] 42)).heap.size := HBA.out.size
                      clear bA hop1 ho2
                      go_wp2_with (at_builtin; go_must (refine wpList_appendCmds rfl (.tmp 179) (.tmp 185) rfl wL.heap.size (.slice oa op.length oc) op rfl HOA.out _ [⟨ck, ct, cs⟩] rfl (CmdsAt.new wJ ck ct cs) (by simp; omega) hszA ?_; intro v9 w9 hown9 hB9 hgr9 hnil9))
                      refine ⟨⟨k + 1, op ++ [⟨ck, ct, cs⟩], by go_num, by omega, ?_, hown9, HBA.out.trans hB9⟩, by simp [intOf]; omega⟩
                      rw [HFL.out, HO2.out, if_pos rfl]
                    · have ho2 : opnB ms ⟨ck, ct, cs⟩ = false := by rw [hop1, decide_eq_false hlt]
                      have HO2 : Hid (opnB ms ⟨ck, ct, cs⟩ = false) := ho2
                      clear hop1 ho2
                      go_wp2_with fail
                      refine ⟨⟨k + 1, op, by go_num, by omega, ?_, HOJ.out, HBLJ.out⟩, by simp [intOf]; omega⟩
                      rw [HFL.out, HO2.out, if_neg (by simp), List.append_nil]
              · obtain rfl : k = CM.length := by omega
                have hkn' : ¬ ((CM.length : Int) < (CM.length : Int)) := by omega
                have hOPf : op = CM.filter (opnB ms) := by have := HOP.out; rwa [List.take_of_length_le (Nat.le_refl _)] at this
                have hne : op ≠ [] := by rw [hOPf, ← HCM.out]; exact open_some HI.out HW.out HNO.out
                have hop0 : 0 < op.length := List.length_pos_iff.2 hne
                have hz : ((op.length : Int) == 0) = false := by rw [beq_eq_false_iff_ne]; omega
                have HOPF : Hid (op = CM.filter (opnB ms)) := hOPf
                have h5K : Below w5.heap.size w5 wK := good_below H5L.out HBK.out
                have h0K : Below w.heap.size w wK := good_below HB1.out (good_below H15.out h5K)
                have ca := HAT.out wK h0K (ms.length + 9) op.length (by omega) hop0 (by have := HCL.out; omega)
                rw [show (((ms.length + 9 : Nat) : Int)) = (ms.length : Int) + 9 by push_cast; rfl] at ca
                obtain ⟨g8, rfl, hg8, hc8⟩ := cmd_row HOW4.out hop0
                have HC8 : Hid _ := hc8
                clear hOPf hne hc8 h0K kK
                go_upto_region 46 with (go_at_call 5; go_must (refine ca.mono ?_; rintro e w7 ⟨⟨q, hq, rfl⟩, hb7⟩; have hq' : (q : Int) < (op.length : Int) := (by omega); have x0 := (hb7.cell (p := ⟨g8, q * 3, none⟩) hg8).trans (HC8.out q hq).1; have x1 := (hb7.cell (p := ⟨g8, q * 3 + 1, none⟩) hg8).trans (HC8.out q hq).2.1; have x2 := (hb7.cell (p := ⟨g8, q * 3 + 2, none⟩) hg8).trans (HC8.out q hq).2.2; obtain ⟨x, hx⟩ : ∃ x, op[q] = x := ⟨_, rfl⟩; rw [hx] at x0 x1 x2; have HX : Hid (op[q] = x) := hx; clear hx; obtain ⟨xk, xt, xs⟩ := x; dsimp only at x0 x1 x2))
                have kC : Blk (w7.alloc (.cells #[.int .i64 xk, .int .i64 xt, .string xs] 42)) w7.heap.size 42 #[.int .i64 xk, .int .i64 xt, .string xs] := heap_alloc_last w7 _
                have hzC : (w7.alloc (.cells #[.int .i64 xk, .int .i64 xt, .string xs] 42)).heap.size = w7.heap.size + 1 := by simp
                have bC : Below w7.heap.size w7 (w7.alloc (.cells #[.int .i64 xk, .int .i64 xt, .string xs] 42)) := (Below.refl _ w7).alloc (Nat.le_refl _) _
                have kM := heap_alloc_last (w7.alloc (.cells #[.int .i64 xk, .int .i64 xt, .string xs] 42)) (.cells #[.string xs, .int .i64 1] 40)
                have bM : Below (w7.alloc (.cells #[.int .i64 xk, .int .i64 xt, .string xs] 42)).heap.size (w7.alloc (.cells #[.int .i64 xk, .int .i64 xt, .string xs] 42)) ((w7.alloc (.cells #[.int .i64 xk, .int .i64 xt, .string xs] 42)).alloc (.cells #[.string xs, .int .i64 1] 40)) := (Below.refl _ _).alloc (Nat.le_refl _) _
                rw [hzC] at kM
                have kC2 := kC.below bM
                have b7Y : Below w7.heap.size w7 ((w7.alloc (.cells #[.int .i64 xk, .int .i64 xt, .string xs] 42)).alloc (.cells #[.string xs, .int .i64 1] 40)) := good_below bC bM
                have bKY := good_below hb7 b7Y
                generalize (w7.alloc (.cells #[.int .i64 xk, .int .i64 xt, .string xs] 42)).alloc (.cells #[.string xs, .int .i64 1] 40) = wY at kM bM kC2 b7Y bKY ⊢
                have hK7 : wK.heap.size ≤ w7.heap.size := hb7.size
                generalize w7.heap.size = b22 at kM kC2 hK7 ⊢
                have HKM : Hid (Blk wY (b22 + 1) 40 #[.string xs, .int .i64 1]) := kM
                have HBY : Hid (Below wK.heap.size wK wY) := bKY
                have HLY : Hid (Below wL.heap.size wL wY) := good_below HBK.out bKY
                have z0 := kC2.cell 0
                have z2 := kC2.cell 2
                simp at z0 z2
                have hmem : (⟨xk, xt, xs⟩ : Cmd) ∈ s.cmds ∧ opnB ms ⟨xk, xt, xs⟩ = true := by
                  have h1 : (⟨xk, xt, xs⟩ : Cmd) ∈ op := by rw [← HX.out]; exact List.getElem_mem _
                  rw [HOPF.out, List.mem_filter] at h1
                  rw [HCM.out]
                  exact h1
                obtain ⟨kk, hkk, hxs, hcase⟩ := open_hot HI.out hmem.1 hmem.2
                dsimp only at hxs hcase
                have hstep := saga_step (f := f) HG.out.1 HG.out.2.1 HW.out HFI.out HNO.out hkk (by omega)
                obtain ⟨KV, hKV⟩ : ∃ KV, kindOf f (isAt s kk) (nameAt l kk) = KV := ⟨_, rfl⟩
                rw [hKV] at hstep
                rw [← hxs] at hstep hKV
                have HSTEP : Hid _ := hstep
                have HKV : Hid (kindOf f (isAt s kk) xs = KV) := hKV
                have hcc : (xk = 1 ∧ isAt s kk = 1) ∨ (xk = 2 ∧ isAt s kk = 3) := hcase
                have HCC : Hid ((xk = 1 ∧ isAt s kk = 1) ∨ (xk = 2 ∧ isAt s kk = 3)) := hcc
                clear kC bC kM bM b7Y bKY kC2 hb7 ca x0 x1 x2 hmem hxs hcase hcc hstep hKV hzC hop0
                go_upto_if 204 with fail
                go_cut [] from 205 to 210 (fun wx => Blk wx (b22 + 1) 40 #[.string xs, .int .i64 KV] ∧ Below wK.heap.size wK wx)
                case first =>
                  rcases HCC.out with ⟨rfl, hi1⟩ | ⟨rfl, hi3⟩
                  · have hk1 := HKV.out
                    unfold kindOf at hk1
                    rw [hi1, if_neg (by omega)] at hk1
                    have chh := lawHas (HAP.out wY (good_below HF5.out (good_below h5K HBY.out))) (by omega) xs
                    cases hh : hasB f xs
                    · rw [hh, if_neg (by simp)] at hk1
                      rw [hh] at chh
                      subst hk1
                      clear hi1
                      go_wp2_with (go_at_call 10; go_must (refine chh.mono ?_; rintro e w9 ⟨rfl, rfl⟩))
                      go_meet
                      exact ⟨HKM.out, HBY.out⟩
                    · rw [hh, if_pos rfl] at hk1
                      rw [hh] at chh
                      subst hk1
                      have f1 := HKM.out.fro 1
                      have u1 := HKM.out.cell 1
                      simp at u1
                      clear hi1
                      go_wp2_with (go_at_call 10; go_must (refine chh.mono ?_; rintro e w9 ⟨rfl, rfl⟩))
                      go_meet
                      exact ⟨by simpa using HKM.out.set 1 (.int .i64 2), HBY.out.setCell (p := ⟨b22 + 1, 1, none⟩) (by show wK.heap.size ≤ b22 + 1; omega) _⟩
                  · have hk1 := HKV.out
                    unfold kindOf at hk1
                    rw [hi3, if_pos rfl] at hk1
                    subst hk1
                    have f1 := HKM.out.fro 1
                    have u1 := HKM.out.cell 1
                    simp at u1
                    clear hi3
                    go_wp2_with fail
                    go_meet
                    exact ⟨by simpa using HKM.out.set 1 (.int .i64 3), HBY.out.setCell (p := ⟨b22 + 1, 1, none⟩) (by show wK.heap.size ≤ b22 + 1; omega) _⟩
                case rest =>
                  obtain ⟨hkz, hbz⟩ := hcut
                  obtain ⟨wZ, hwZ⟩ : ∃ W, W = wc := ⟨_, rfl⟩
                  subst hwZ
                  have v0 := hkz.cell 0
                  have v1 := hkz.cell 1
                  simp at v0 v1
                  have bA : Below wZ.heap.size wZ (wZ.alloc (.cells #[.string xs, .int .i64 KV] 40)) := (Below.refl _ wZ).alloc (Nat.le_refl _) _
                  have hbKA := good_below hbz bA
                  have HMA : Hid (OwnMsgs w5.heap.size (wZ.alloc (.cells #[.string xs, .int .i64 KV] 40)) (.slice ma ms.length mc) ms) := OwnMsgs.below HOM.out (good_below HBL.out (good_below HBK.out hbKA))
                  have HB5A : Hid (Below w5.heap.size w5 (wZ.alloc (.cells #[.string xs, .int .i64 KV] 40))) := good_below h5K hbKA
                  have hszA : w5.heap.size ≤ (wZ.alloc (.cells #[.string xs, .int .i64 KV] 40)).heap.size := HB5A.out.size
                  clear bA hbKA hkz hbz
                  go_wp2_with (at_builtin; go_must (refine wpList_appendMsgs rfl (.tmp 211) (.tmp 213) rfl w5.heap.size (.slice ma ms.length mc) ms rfl HMA.out _ [⟨xs, KV⟩] rfl (MsgsAt.new wZ xs KV) (by simp; omega) hszA ?_; intro v9 w9 hown9 hB9 hgr9 hnil9))
                  obtain ⟨g1, g2, g3, g4, g5⟩ := HSTEP.out
                  refine ⟨⟨ms ++ [⟨xs, KV⟩], hearS l s ⟨xs, KV⟩, by simp, hown9, ?_, g1, g4 ms HI.out, g2, ?_, ?_, HB5A.out.trans hB9⟩, by simp [intOf]; omega⟩
                  · rw [hears_append, HS.out]
                    rfl
                  · have := HPS.out
                    rw [List.length_append]
                    simp only [List.length_cons, List.length_nil]
                    omega
                  · have h1 := hear_cmds HW.out.ok (fun i hi => by have := HG.out.2.1 i hi; omega) ⟨xs, KV⟩
                    have h2 := HCL.out
                    rw [← HCM.out] at h2
                    rw [List.length_append]
                    simp only [List.length_cons, List.length_nil]
                    omega
end Go.Proofs.YthgliancmmnjgaaGreatDoor
