/-
  What the program's RunSaga answers. What the document's answer is. How a SagaEnds goes on and what it answers: plain; a measure that a world tells. What the document's SagaEnds answers. What the program's areSteps and nextAnswer answer. What the program's nextAnswer answers. Contracts of the library at this program. slices.Sort over numbers of one's own; the program's run with its done ones sorted. No statement of the seat is proved here.
-/
import Derived.Test.YthgliancmmnjgaaGreatDoorZj6
import Derived.Sort.Grow
namespace Go.Proofs.YthgliancmmnjgaaGreatDoor
open Go.ChangeShapes Go.WideShapes Go.ChangeAt Go.RowKit
set_option linter.unusedVariables false
set_option linter.unusedSimpArgs false

theorem lastQ_normal {P : Program} {o : Oper} {Q : Exit → Act → World → Prop} {a : Act} {w : World} (h : o.wp P a w (fun a' w' => Q .normal a' w') Q) : lastQ P o Q .normal a w := h
set_option maxRecDepth 100000 in
set_option maxHeartbeats 16000000 in
theorem implRunSaga : RunSagaC 9 (Lib.Utf8Tabs 0 1) logF := by
  intro S l0 l1 v0 v1 w hS h0 hl0 hok hfull h1 hl1 hT
  obtain ⟨a0, cap0, rfl⟩ := h0.shape
  obtain ⟨a1, cap1, rfl⟩ := h1.shape
  have hl0' : (l0.length : Int) ≤ 1048576 := by omega
  have hl1' : (l1.length : Int) ≤ 1048576 := by omega
  have bA : Below w.heap.size w (w.alloc (.cells #[.int .i64 0, .int .i64 0, .slice none 0 0, .slice none 0 0, .slice none 0 0] 36)) := (Below.refl _ w).alloc (Nat.le_refl _) _
  have kA : Blk (w.alloc (.cells #[.int .i64 0, .int .i64 0, .slice none 0 0, .slice none 0 0, .slice none 0 0] 36)) w.heap.size 36 #[.int .i64 0, .int .i64 0, .slice none 0 0, .slice none 0 0, .slice none 0 0] := heap_alloc_last w _
  obtain ⟨wa, hwa⟩ : ∃ wa, w.alloc (.cells #[.int .i64 0, .int .i64 0, .slice none 0 0, .slice none 0 0, .slice none 0 0] 36) = wa := ⟨_, rfl⟩
  rw [hwa] at bA kA
  obtain ⟨x0, hx0⟩ : ∃ x0, w.heap.size = x0 := ⟨_, rfl⟩
  have sA : wa.heap.size = x0 + 1 := by rw [← hwa, ← hx0]; simp
  have bL : Below wa.heap.size wa (wa.alloc (.cells #[.int .i64 (l0.length : Int), .int .i64 (l1.length : Int)] 3)) := (Below.refl _ wa).alloc (Nat.le_refl _) _
  obtain ⟨t1, t2⟩ := two_newI wa (l0.length : Int) (l1.length : Int) wa.heap.size rfl
  have cl := implLong2 (l0.length : Int) (l1.length : Int) wa.heap.size _ t1 t2
  obtain ⟨wl, hwl⟩ : ∃ wl, wa.alloc (.cells #[.int .i64 (l0.length : Int), .int .i64 (l1.length : Int)] 3) = wl := ⟨_, rfl⟩
  rw [hwl] at bL cl
  have bB := good_below bA bL
  have kL := kA.below bL
  have hSl : ∀ b, S b → b < wl.heap.size := fun b hb => Nat.lt_of_lt_of_le (hS b hb) bB.size
  have h0' : StepsAt S wl (.slice a0 l0.length cap0) l0 := h0.keep (cells_below hS bB)
  have h1' : MsgsAt S wl (.slice a1 l1.length cap1) l1 := h1.keep (cells_below hS bB)
  have hfull' : StepsFull wl (.slice a0 l0.length cap0) l0 := StepsFull.keep hfull h0 (cells_below hS bB)
  have co := implSaga S l0 (.slice a0 l0.length cap0) wl hSl h0' hl0 hok hfull' (fun W hW => hT W (good_below bB hW))
  rw [hx0] at bA kA bB kL ⊢
  have sL : x0 < wl.heap.size := by have := bL.size; omega
  have HB : Hid (Below x0 w wl) := bB
  have HK : Hid (Blk wl x0 36 #[.int .i64 0, .int .i64 0, .slice none 0 0, .slice none 0 0, .slice none 0 0]) := kL
  have H0 : Hid (StepsAt S wl (.slice a0 l0.length cap0) l0) := h0'
  have H1 : Hid (MsgsAt S wl (.slice a1 l1.length cap1) l1) := h1'
  have HS : Hid (∀ b, S b → b < wl.heap.size) := hSl
  have HOK : Hid (∀ x ∈ l0, StepsOK 1048576 x) := hok
  have HSL : Hid (x0 < wl.heap.size) := sL
  obtain ⟨R, hR⟩ : ∃ R, logF l0 l1 = R := ⟨_, rfl⟩
  rw [hR]
  have HR : Hid (logF l0 l1 = R) := hR
  clear hS hfull h0 h1 hok hT hSl h0' h1' hfull' bA kA sA hR bL t1 t2 bB kL sL
  go_enter Tryz.func9, Tryz.ntmps9
  by_cases hlong : 4096 < l0.length ∨ 4096 < l1.length
  case pos =>
    have hRe : R = ⟨2, 0, [], [], []⟩ := by rw [← HR.out]; unfold logF; rw [if_pos hlong]
    subst hRe
    have hlb : (decide (4096 < (l0.length : Int)) || decide (4096 < (l1.length : Int))) = true := by
      rcases hlong with h | h
      · rw [decide_eq_true (by omega : (4096 : Int) < (l0.length : Int))]; rfl
      · rw [decide_eq_true (by omega : (4096 : Int) < (l1.length : Int)), Bool.or_true]
    rw [hlb] at cl
    clear co
    go_upto_region 2 with (go_at_call 13; go_must (refine cl.mono ?_; rintro e w2 ⟨rfl, hq⟩; obtain rfl := hq.symm; clear hq))
    have r0 := HK.out.cell 0
    have r1 := HK.out.cell 1
    have r2 := HK.out.cell 2
    have r3 := HK.out.cell 3
    have r4 := HK.out.cell 4
    have f0 := HK.out.fro 0
    have f1 := HK.out.fro 1
    have f2 := HK.out.fro 2
    have f3 := HK.out.fro 3
    have f4 := HK.out.fro 4
    simp at r0 r1 r2 r3 r4
    go_wp2_with fail
    obtain ⟨u0, u1, u2, u3, u4⟩ := set5_cells HK.out (.int .i64 2) (.int .i64 0) (.slice none 0 0) (.slice none 0 0) (.slice none 0 0)
    unfold set5 at u0 u1 u2 u3 u4
    (try simp only [Exit.inBlock, Exit.then])
    refine bodyPost_ret (v := .agg #[.int .i64 2, .int .i64 0, .slice none 0 0, .slice none 0 0, .slice none 0 0]) (by rw [results_cell1 Tryz.results9]; simp [go_sem, u0, u1, u2, u3, u4]) rfl ?_
    exact ⟨⟨_, rfl, OwnLog.bare _ _ 2⟩, set5_below (HB.out) (Nat.le_refl _) _ _ _ _ _⟩
  have hlb : (decide (4096 < (l0.length : Int)) || decide (4096 < (l1.length : Int))) = false := by
    rw [decide_eq_false (by omega : ¬ (4096 : Int) < (l0.length : Int)), decide_eq_false (by omega : ¬ (4096 : Int) < (l1.length : Int))]; rfl
  rw [hlb] at cl
  obtain ⟨F, hF⟩ : ∃ F, sagaB l0 = F := ⟨_, rfl⟩
  rw [hF] at co
  have HF : Hid (sagaB l0 = F) := hF
  have HNL : Hid (¬ (4096 < l0.length ∨ 4096 < l1.length)) := hlong
  clear hF hlb hlong
  cases F
  case false =>
    have hRe : R = ⟨1, 0, [], [], []⟩ := by rw [← HR.out]; unfold logF; rw [if_neg HNL.out, if_pos HF.out]
    subst hRe
    go_upto_region 4 with (first
      | (go_at_call 13; go_must (refine cl.mono ?_; rintro e w2 ⟨rfl, hq⟩; obtain rfl := hq.symm; clear hq))
      | (go_at_call 14; go_must (refine co.mono ?_; rintro e w1 ⟨rfl, hb1⟩)))
    have kB := HK.out.below hb1
    have r0 := kB.cell 0
    have r1 := kB.cell 1
    have r2 := kB.cell 2
    have r3 := kB.cell 3
    have r4 := kB.cell 4
    have f0 := kB.fro 0
    have f1 := kB.fro 1
    have f2 := kB.fro 2
    have f3 := kB.fro 3
    have f4 := kB.fro 4
    simp at r0 r1 r2 r3 r4
    go_wp2_with fail
    obtain ⟨u0, u1, u2, u3, u4⟩ := set5_cells kB (.int .i64 1) (.int .i64 0) (.slice none 0 0) (.slice none 0 0) (.slice none 0 0)
    unfold set5 at u0 u1 u2 u3 u4
    (try simp only [Exit.inBlock, Exit.then])
    refine bodyPost_ret (v := .agg #[.int .i64 1, .int .i64 0, .slice none 0 0, .slice none 0 0, .slice none 0 0]) (by rw [results_cell1 Tryz.results9]; simp [go_sem, u0, u1, u2, u3, u4]) rfl ?_
    exact ⟨⟨_, rfl, OwnLog.bare _ _ 1⟩, set5_below (HB.out.trans (hb1.mono (Nat.le_of_lt HSL.out))) (Nat.le_refl _) _ _ _ _ _⟩
  by_cases hmany : 300 < l1.length
  case pos =>
    have hmany' : (300 : Int) < (l1.length : Int) := by omega
    have hRe : R = ⟨10, 0, [], [], []⟩ := by rw [← HR.out]; unfold logF; rw [if_neg HNL.out, if_neg (by rw [HF.out]; simp), if_pos hmany]
    subst hRe
    go_upto_region 6 with (first
      | (go_at_call 13; go_must (refine cl.mono ?_; rintro e w2 ⟨rfl, hq⟩; obtain rfl := hq.symm; clear hq))
      | (go_at_call 14; go_must (refine co.mono ?_; rintro e w1 ⟨rfl, hb1⟩)))
    have kB := HK.out.below hb1
    have r0 := kB.cell 0
    have r1 := kB.cell 1
    have r2 := kB.cell 2
    have r3 := kB.cell 3
    have r4 := kB.cell 4
    have f0 := kB.fro 0
    have f1 := kB.fro 1
    have f2 := kB.fro 2
    have f3 := kB.fro 3
    have f4 := kB.fro 4
    simp at r0 r1 r2 r3 r4
    go_wp2_with fail
    obtain ⟨u0, u1, u2, u3, u4⟩ := set5_cells kB (.int .i64 10) (.int .i64 0) (.slice none 0 0) (.slice none 0 0) (.slice none 0 0)
    unfold set5 at u0 u1 u2 u3 u4
    (try simp only [Exit.inBlock, Exit.then])
    refine bodyPost_ret (v := .agg #[.int .i64 10, .int .i64 0, .slice none 0 0, .slice none 0 0, .slice none 0 0]) (by rw [results_cell1 Tryz.results9]; simp [go_sem, u0, u1, u2, u3, u4]) rfl ?_
    exact ⟨⟨_, rfl, OwnLog.bare _ _ 10⟩, set5_below (HB.out.trans (hb1.mono (Nat.le_of_lt HSL.out))) (Nat.le_refl _) _ _ _ _ _⟩
  have hmany' : ¬ ((300 : Int) < (l1.length : Int)) := by omega
  have hl3 : l1.length ≤ 300 := by omega
  have hRe : R = logOf l0 (hears l0 (beginS l0, []) l1) := by rw [← HR.out]; unfold logF; rw [if_neg HNL.out, if_neg (by rw [HF.out]; simp), if_neg hmany]
  have HRE : Hid (R = logOf l0 (hears l0 (beginS l0, []) l1)) := hRe
  clear hRe hmany
  go_upto_region 7 with (first
    | (go_at_call 13; go_must (refine cl.mono ?_; rintro e w2 ⟨rfl, hq⟩; obtain rfl := hq.symm; clear hq))
    | (go_at_call 14; go_must (refine co.mono ?_; rintro e w1 ⟨rfl, hb1⟩)))
  have hin : SagaIn S w1.heap.size w1 a0 cap0 l0 := saga_in (fun b hb => Nat.lt_of_lt_of_le (HS.out b hb) hb1.size) (H0.out.keep (cells_below HS.out hb1)) HOK.out HF.out
  have hms : MsgsAt S w1 (.slice a1 l1.length cap1) l1 := H1.out.keep (cells_below HS.out hb1)
  have hlen := hin.len
  have hlen' : (l0.length : Int) ≤ 20 := by omega
  have HIN : Hid (SagaIn S w1.heap.size w1 a0 cap0 l0) := hin
  have HMS : Hid (MsgsAt S w1 (.slice a1 l1.length cap1) l1) := hms
  have HB1 : Hid (Below x0 w w1) := HB.out.trans (hb1.mono (Nat.le_of_lt HSL.out))
  have HK1 : Hid (Blk w1 x0 36 #[.int .i64 0, .int .i64 0, .slice none 0 0, .slice none 0 0, .slice none 0 0]) := HK.out.below hb1
  have HX1 : Hid (x0 < w1.heap.size) := Nat.lt_of_lt_of_le HSL.out hb1.size
  have cb := implRunOf hin
  clear co cl hin hms HB HK H0 H1 HS HOK HSL hb1
  go_upto_region 8 with (go_at_call 15; go_must (refine cb.mono ?_; rintro e w2 ⟨g, gp, dv0, cv0, rfl, hrun⟩))
  clear cb
  have HR0 : Hid (RunI S w1.heap.size l0 a0 cap0 g gp (.slice none 0 0) [] dv0 cv0 w1 w2 (beginS l0)) := hrun
  clear hrun
  have hbc : (beginS l0).cmds.length ≤ 20 := by have := fwd_cmds l0 (zeroS l0); simp only [zeroS, List.length_nil] at this; unfold beginS; simp only [zeroS]; omega
  have HBC : Hid ((beginS l0).cmds.length ≤ 20) := hbc
  clear hbc
  go_wp2_with fail
  go_loopw [6, 8, 31] (fun i6 i8 i31 wr => ∃ (k : Nat) (dv cv : Value) (ra : Option Addr) (rn rc : Nat) (q : Sg × List Int), i31 = .int .i64 (k : Int) ∧ i6 = .slice ra rn rc ∧ k ≤ l1.length ∧ hears l0 (beginS l0, []) (l1.take k) = q ∧ q.2.length = k ∧ q.1.cmds.length ≤ 20 + k * 22 ∧ RunI S w1.heap.size l0 a0 cap0 g gp (.slice ra rn rc) q.2 dv cv w1 wr q.1) (fun _ _ i31 _ => l1.length - (intOf i31).toNat)
  case atStart => exact ⟨0, dv0, cv0, none, 0, 0, (beginS l0, []), rfl, rfl, by omega, by simp [hears], rfl, by have := HBC.out; simpa using this, HR0.out⟩
  case round =>
    obtain ⟨k, dv, cv, ra, rn, rc, q, rfl, rfl, hk, hq, hq2, hqc, hR⟩ := hrel
    have HQ : Hid (hears l0 (beginS l0, []) (l1.take k) = q) := hq
    have HQ2 : Hid (q.2.length = k) := hq2
    have HQC : Hid (q.1.cmds.length ≤ 20 + k * 22) := hqc
    have HRR : Hid (RunI S w1.heap.size l0 a0 cap0 g gp (.slice ra rn rc) q.2 dv cv w1 wr q.1) := hR
    clear hq hq2 hqc hR
    by_cases hkn : k < l1.length
    case pos =>
      have hkn' : (k : Int) < (l1.length : Int) := by omega
      obtain ⟨_, ma, mc, hmv, hmc⟩ := HMS.out
      simp only [Value.slice.injEq] at hmv
      obtain ⟨rfl, -, rfl⟩ := hmv
      obtain ⟨mb, mo, rfl, hmS, hmcell⟩ := hmc (by omega)
      have hmlt : mb < w1.heap.size := HIN.out.low mb hmS
      have m0 := (HRR.out.bel.cell (p := ⟨mb, mo + k * 2, none⟩) hmlt).trans (hmcell k hkn).1
      have m1 := (HRR.out.bel.cell (p := ⟨mb, mo + k * 2 + 1, none⟩) hmlt).trans (hmcell k hkn).2
      have htk := hears_take hkn HQ.out
      have hhc := hear_cmds HRR.out.ok HRR.out.saga.tries l1[k]
      obtain ⟨x, hx⟩ : ∃ x, l1[k] = x := ⟨_, rfl⟩
      rw [hx] at m0 m1 htk hhc
      obtain ⟨xs, xk⟩ := x
      dsimp only at m0 m1
      obtain ⟨c9, hc9⟩ : ∃ c, codeS l0 q.1 ⟨xs, xk⟩ = c := ⟨_, rfl⟩
      obtain ⟨s9, hs9⟩ : ∃ s, hearS l0 q.1 ⟨xs, xk⟩ = s := ⟨_, rfl⟩
      have cm := fun (W : World) (hW : Below wr.heap.size wr W) => implHear (HRR.out.go hW) xs xk (by have := HQC.out; omega)
      rw [hc9, hs9] at htk
      simp only [hc9, hs9] at cm
      rw [hs9] at hhc
      have HTK : Hid (hears l0 (beginS l0, []) (l1.take (k + 1)) = (s9, q.2 ++ [c9])) := htk
      have HHC : Hid (s9.cmds.length ≤ q.1.cmds.length + l0.length + 2) := hhc
      have hrl : q.2.length ≤ 1000 := by have := HQ2.out; omega
      clear hmc hmcell htk hx hc9 hs9 hhc
      go_upto_region 12 with fail
      have bx := (Below.refl wr.heap.size wr).alloc (Nat.le_refl _) (.cells #[.string xs, .int .i64 xk] 40)
      have cm' := cm _ bx
      clear cm m0 m1
      go_upto_region 13 with (first
        | (go_at_call 18; go_must (refine cm'.mono ?_; rintro e w3 ⟨rfl, dv3, cv3, H3⟩; have hwb : Below w3.heap.size w3 (w3.alloc (.cells #[.int .i64 c9] 3)) := (Below.refl _ w3).alloc (Nat.le_refl _) _; have H5 := H3.go hwb; clear H3))
        | (at_builtin; go_must (refine wpList_appendNumAt rfl (.tmp 35) (.tmp 39) rfl w1.heap.size (.slice ra rn rc) q.2 rfl H5.rps c9 rfl (NumsAt.newAt _ c9 _ (by simp)) (by omega) H5.size ?_; intro v9 w9 hown9 hB9 hgr9 hat9; obtain ⟨a9, k9, e9, -⟩ := hown9.value; obtain ⟨n9, hn9⟩ : ∃ n9, (q.2 ++ [c9]).length = n9 := ⟨_, rfl⟩; rw [hn9] at e9; clear hn9; subst e9; have H6 := H5.growR hown9 hB9 hgr9 hat9)))
      have HH6 : Hid (RunI S w1.heap.size l0 a0 cap0 g gp (.slice a9 n9 k9) (q.2 ++ [c9]) dv3 cv3 w1 w9 s9) := H6
      clear H5 H6 hown9 hB9 hgr9 hat9 hwb cm' bx
      go_wp2_with fail
      refine ⟨⟨k + 1, dv3, cv3, a9, n9, k9, (s9, q.2 ++ [c9]), rfl, rfl, by omega, HTK.out, by have := HQ2.out; simp; omega, by have := HHC.out; have := HQC.out; dsimp only; omega, HH6.out⟩, by simp [intOf]; omega⟩
    case neg =>
      obtain rfl : k = l1.length := by omega
      have hkn' : ¬ ((l1.length : Int) < (l1.length : Int)) := by omega
      have hq := HQ.out
      rw [List.take_length] at hq
      have hRq : R = logOf l0 q := by rw [HRE.out, hq]
      have HRQ : Hid (R = logOf l0 q) := hRq
      clear hq hRq
      obtain ⟨s, reps⟩ := q
      dsimp only at HRR
      obtain ⟨ca, cc, hcv, -⟩ := HRR.out.cmds.value
      obtain ⟨cn, hcn⟩ : ∃ cn, s.cmds.length = cn := ⟨_, rfl⟩
      rw [hcn] at hcv
      subst hcv
      have bD : Below wr.heap.size wr wr.drew := (Below.refl _ _).drew
      have cnm := implNames (HRR.out.go bD)
      have c1 := HRR.out.blk.cell 1
      have c3 := HRR.out.blk.cell 3
      have c4 := HRR.out.blk.cell 4
      simp at c1 c3 c4
      have KP : Hid (∀ W, Below wr.heap.size wr W → W.cell? ⟨g, 1, none⟩ = some (.int .i64 s.st) ∧ W.cell? ⟨g, 4, none⟩ = some (.slice ca cn cc) ∧ W.cell? ⟨g, 3, none⟩ = some dv) := fun W hW =>
        ⟨(hW.cell (World.block_lt_of_cell? _ _ c1)).trans c1, (hW.cell (World.block_lt_of_cell? _ _ c4)).trans c4, (hW.cell (World.block_lt_of_cell? _ _ c3)).trans c3⟩
      clear c1 c3 c4 hcn
      go_upto_region 14 with fail
      refine wp_region_last (S := (fun w' => w'.cell? ⟨g, 1, none⟩ = some (.int .i64 s.st) ∧ w'.cell? ⟨g, 4, none⟩ = some (.slice ca cn cc) ∧ w'.cell? ⟨g, 3, none⟩ = some dv)) 16 (by kernel_rfl) rfl (by kernel_rfl) (KP.out _ bD) (fun hHeld => ?_)
      simp only [List.take_succ_cons, List.take_zero]
      refine wpAnyH_take (i := 0) (v := ?_) rfl (by kernel_rfl) (by kernel_rfl) (by kernel_rfl) (fun _ _ _ h => h) (Or.inl ⟨by rfl, ?_⟩) (by assumption) ?_
      rotate_left 1
      · (intro w' hSw; (try dsimp only at hSw); go_simp; all_goals with_reducible rfl)
      (try simp only [Act.put, List.setIfInBounds_toArray, List.set_cons_zero, List.set_cons_succ])
      refine wpAnyH_take (i := 1) (v := ?_) rfl (by kernel_rfl) (by kernel_rfl) (by kernel_rfl) (fun _ _ _ h => h) (Or.inl ⟨by rfl, ?_⟩) (by assumption) ?_
      rotate_left 1
      · (intro w' hSw; (try dsimp only at hSw); go_simp; all_goals with_reducible rfl)
      (try simp only [Act.put, List.setIfInBounds_toArray, List.set_cons_zero, List.set_cons_succ])
      refine wpAnyH_take (i := 2) (v := ?_) rfl (by kernel_rfl) (by kernel_rfl) (by kernel_rfl) (fun _ _ _ h => h) (Or.inl ⟨by rfl, ?_⟩) (by assumption) ?_
      rotate_left 1
      · (intro w' hSw; (try dsimp only at hSw); go_simp; all_goals with_reducible rfl)
      (try simp only [Act.put, List.setIfInBounds_toArray, List.set_cons_zero, List.set_cons_succ])
      refine wpAnyH_take (i := 3) (v := ?_) rfl (by kernel_rfl) (by kernel_rfl) (by kernel_rfl) (fun _ _ _ h => h) (Or.inl ⟨by rfl, ?_⟩) (by assumption) ?_
      rotate_left 1
      · (intro w' hSw; (try dsimp only at hSw); go_simp; all_goals with_reducible rfl)
      (try simp only [Act.put, List.setIfInBounds_toArray, List.set_cons_zero, List.set_cons_succ])
      refine wpAnyH_take (i := 4) (v := ?_) rfl (by kernel_rfl) (by kernel_rfl) (by kernel_rfl) (fun _ _ _ h => h) (Or.inl ⟨by rfl, ?_⟩) (by assumption) ?_
      rotate_left 1
      · (intro w' hSw; (try dsimp only at hSw); go_simp; all_goals with_reducible rfl)
      (try simp only [Act.put, List.setIfInBounds_toArray, List.set_cons_zero, List.set_cons_succ])
      refine wpAnyH_take (i := 5) (v := ?_) rfl (by kernel_rfl) (by kernel_rfl) (by kernel_rfl) (fun _ _ _ h => h) (Or.inl ⟨by rfl, ?_⟩) (by assumption) ?_
      rotate_left 1
      · (intro w' hSw; (try dsimp only at hSw); go_simp; all_goals with_reducible rfl)
      (try simp only [Act.put, List.setIfInBounds_toArray, List.set_cons_zero, List.set_cons_succ])
      refine wpAnyH_take (i := 6) (v := ?_) rfl (by kernel_rfl) (by kernel_rfl) (by kernel_rfl) (fun _ _ _ h => h) (Or.inl ⟨by rfl, ?_⟩) (by assumption) ?_
      rotate_left 1
      · (intro w' hSw; (try dsimp only at hSw); go_simp; all_goals with_reducible rfl)
      (try simp only [Act.put, List.setIfInBounds_toArray, List.set_cons_zero, List.set_cons_succ])
      refine wpAnyH_take (i := 7) (v := ?_) rfl (by kernel_rfl) (by kernel_rfl) (by kernel_rfl) (fun _ _ _ h => h) (Or.inl ⟨by rfl, ?_⟩) (by assumption) ?_
      rotate_left 1
      · (intro w' hSw; (try dsimp only at hSw); go_simp; all_goals with_reducible rfl)
      (try simp only [Act.put, List.setIfInBounds_toArray, List.set_cons_zero, List.set_cons_succ])
      refine wpAnyH_take (i := 8) (v := ?_) rfl (by kernel_rfl) (by kernel_rfl) (by kernel_rfl) (fun _ _ _ h => h) (Or.inl ⟨by rfl, ?_⟩) (by assumption) ?_
      rotate_left 1
      · (intro w' hSw; (try dsimp only at hSw); go_simp; all_goals with_reducible rfl)
      (try simp only [Act.put, List.setIfInBounds_toArray, List.set_cons_zero, List.set_cons_succ])
      refine wpAnyH_take (i := 9) (v := ?_) rfl (by kernel_rfl) (by kernel_rfl) (by kernel_rfl) (fun _ _ _ h => h) (Or.inl ⟨by rfl, ?_⟩) (by assumption) ?_
      rotate_left 1
      · (intro w' hSw; (try dsimp only at hSw); go_simp; all_goals with_reducible rfl)
      (try simp only [Act.put, List.setIfInBounds_toArray, List.set_cons_zero, List.set_cons_succ])
      refine wpAnyH_take (i := 10) (v := ?_) rfl (by kernel_rfl) (by kernel_rfl) (by kernel_rfl) (fun _ _ _ h => h) (Or.inl ⟨by rfl, ?_⟩) (by assumption) ?_
      rotate_left 1
      · (intro w' hSw; (try dsimp only at hSw); go_simp; all_goals with_reducible rfl)
      (try simp only [Act.put, List.setIfInBounds_toArray, List.set_cons_zero, List.set_cons_succ])
      refine wpAnyH_take (i := 11) (v := ?_) rfl (by kernel_rfl) (by kernel_rfl) (by kernel_rfl) (fun _ _ _ h => h) (Or.inl ⟨by rfl, ?_⟩) (by assumption) ?_
      rotate_left 1
      · (intro w' hSw; (try dsimp only at hSw); go_simp; all_goals with_reducible rfl)
      (try simp only [Act.put, List.setIfInBounds_toArray, List.set_cons_zero, List.set_cons_succ])
      refine wpAnyH_take (i := 12) (v := ?_) rfl (by kernel_rfl) (by kernel_rfl) (by kernel_rfl) (fun _ _ _ h => h) (Or.inl ⟨by rfl, ?_⟩) (by assumption) ?_
      rotate_left 1
      · (intro w' hSw; (try dsimp only at hSw); go_simp; all_goals with_reducible rfl)
      (try simp only [Act.put, List.setIfInBounds_toArray, List.set_cons_zero, List.set_cons_succ])
      refine wpAnyH_take (i := 13) (v := ?_) rfl (by kernel_rfl) (by kernel_rfl) (by kernel_rfl) (fun _ _ _ h => h) (Or.inl ⟨by rfl, ?_⟩) (by assumption) ?_
      rotate_left 1
      · (intro w' hSw; (try dsimp only at hSw); go_simp; all_goals with_reducible rfl)
      (try simp only [Act.put, List.setIfInBounds_toArray, List.set_cons_zero, List.set_cons_succ])
      refine wpAnyH_ready (rs := [14]) (by kernel_rfl) (by simp) ?_
      refine AllReadyH.cons rfl (fun K hK => ?_) AllReadyH.nil
      refine step_callC rfl 21 _ (by kernel_rfl) cnm ?_
      rintro e w5 ⟨⟨na, nn, nc, rfl, hown5⟩, hb5⟩
      refine ⟨_, rfl, ?_⟩
      have hbz : Below wr.heap.size wr w5 := bD.trans hb5
      refine hK.out _ _ ?_ (fun hHeld => ?_)
      · exact KP.out _ hbz
      clear hK K
      (try simp only [Act.put, List.setIfInBounds_toArray, List.set_cons_zero, List.set_cons_succ])
      refine wpAnyH_take (i := 15) (v := ?_) rfl (by kernel_rfl) (by kernel_rfl) (by kernel_rfl) (fun _ _ _ h => h) (Or.inl ⟨by rfl, ?_⟩) (by assumption) ?_
      rotate_left 1
      · (intro w' hSw; (try dsimp only at hSw); go_simp; all_goals with_reducible rfl)
      (try simp only [Act.put, List.setIfInBounds_toArray, List.set_cons_zero, List.set_cons_succ])
      refine wpAnyH_done (by kernel_rfl) ?_ _
      have H9 := HRR.out.go hbz
      have kW := (H9.bel.block x0 HX1.out).trans HK1.out
      have HKW : Hid (Blk w5 x0 36 #[.int .i64 0, .int .i64 0, .slice none 0 0, .slice none 0 0, .slice none 0 0]) := kW
      have r0 := HKW.out.cell 0
      have r1 := HKW.out.cell 1
      have r2 := HKW.out.cell 2
      have r3 := HKW.out.cell 3
      have r4 := HKW.out.cell 4
      have f0 := HKW.out.fro 0
      have f1 := HKW.out.fro 1
      have f2 := HKW.out.fro 2
      have f3 := HKW.out.fro 3
      have f4 := HKW.out.fro 4
      simp at r0 r1 r2 r3 r4
      have hx1 : x0 ≤ w1.heap.size := Nat.le_of_lt HX1.out
      have hxr : x0 ≤ wr.heap.size := Nat.le_trans hx1 HRR.out.size
      have hlg : OwnLog x0 w5 (.agg #[.int .i64 0, .int .i64 s.st, .slice ra rn rc, .slice ca cn cc, .slice na nn nc]) R := by
        rw [HRQ.out]
        exact ⟨_, _, _, rfl, OwnNums.mono H9.rps hx1, OwnCmds.mono H9.cmds hx1, OwnTxts.mono hown5 hxr⟩
      have hbel : Below x0 w w5 := HB1.out.trans (H9.bel.mono hx1)
      have HLG : Hid (OwnLog x0 w5 (.agg #[.int .i64 0, .int .i64 s.st, .slice ra rn rc, .slice ca cn cc, .slice na nn nc]) R) := hlg
      have HBEL : Hid (Below x0 w w5) := hbel
      clear H9 kW hlg hbel cnm hown5 hb5 hbz
      refine lastQ_normal ?_
      unfold Oper.wp
      go_simp
      go_wp2_with fail
      obtain ⟨u0, u1, u2, u3, u4⟩ := set5_cells HKW.out (.int .i64 0) (.int .i64 s.st) (.slice ra rn rc) (.slice ca cn cc) (.slice na nn nc)
      unfold set5 at u0 u1 u2 u3 u4
      (try simp only [Exit.inBlock, Exit.then])
      refine bodyPost_ret (v := .agg #[.int .i64 0, .int .i64 s.st, .slice ra rn rc, .slice ca cn cc, .slice na nn nc]) (by rw [results_cell1 Tryz.results9]; simp [go_sem, u0, u1, u2, u3, u4]) rfl ?_
      exact ⟨⟨_, rfl, set5_log HKW.out HLG.out _ _ _ _ _⟩, set5_below HBEL.out (Nat.le_refl _) _ _ _ _ _⟩
end Go.Proofs.YthgliancmmnjgaaGreatDoor

namespace Go.Proofs.YthgliancmmnjgaaGreatDoor
open Go.ChangeShapes Go.WideShapes Go.ChangeAt Go.RowKit
set_option linter.unusedVariables false
set_option linter.unusedSimpArgs false

section
variable {S : Nat → Prop} {B : Nat} {l : List Step} {a : Option Addr} {cap g gi gt : Nat} {dv rv cv : Value} {w0 w : World} {s : Sg} {reps : List Int}
set_option maxRecDepth 100000 in
set_option maxHeartbeats 4000000 in
theorem specAnswer (h : RunS S B l a cap g gi gt dv rv cv w0 w s reps) (k : Nat) (hk : k < l.length) (hor : isAt s k = 1 ∨ isAt s k = 3) (f u : List ByteArray) (af au : Option Addr) (cf cu : Nat)
    (chf : ∀ W, Below w.heap.size w W → Calls Tryz.prog 44 #[.slice af f.length cf, .string (nameAt l k)] W fun e w' => e = .returned (.bool (hasB f (nameAt l k))) ∧ w' = W)
    (chu : ∀ W, Below w.heap.size w W → Calls Tryz.prog 44 #[.slice au u.length cu, .string (nameAt l k)] W fun e w' => e = .returned (.bool (hasB u (nameAt l k))) ∧ w' = W) :
    Calls Tryz.prog 26 #[.pointer (some ⟨g, 0, none⟩), .int .i64 (k : Int), .slice af f.length cf, .slice au u.length cu] w fun e w' => e = .returned (.agg #[.string (ansM l s f u k).step, .int .i64 (ansM l s f u k).kind]) ∧ Below w.heap.size w w' := by
  have hl : l.length ≤ 20 := h.saga.len.2
  have hl' : (l.length : Int) ≤ 20 := by omega
  have hk' : (k : Int) < (l.length : Int) := by omega
  unfold ansM
  dsimp only
  obtain ⟨nm, hnm⟩ : ∃ nm, nameAt l k = nm := ⟨_, rfl⟩
  have hnm' : (stepOf l k).name = nm := hnm
  rw [hnm]
  simp only [hnm] at chf chu
  obtain ⟨KD, hKD⟩ : ∃ KD : Int, (if isAt s k = 3 then (if hasB u nm then 4 else 3) else (if hasB f nm then 2 else 1)) = KD := ⟨_, rfl⟩
  rw [hKD]
  have HKD : Hid ((if isAt s k = 3 then (if hasB u nm then 4 else 3) else (if hasB f nm then 2 else 1)) = KD) := hKD
  clear hKD
  obtain ⟨b1, b2, b3⟩ : Blk ((w.alloc (.cells #[.string ⟨#[]⟩, .int .i64 0] 40)).alloc (.cells #[.string nm, .int .i64 1] 40)) w.heap.size 40 #[.string ⟨#[]⟩, .int .i64 0] ∧ Blk ((w.alloc (.cells #[.string ⟨#[]⟩, .int .i64 0] 40)).alloc (.cells #[.string nm, .int .i64 1] 40)) (w.heap.size + 1) 40 #[.string nm, .int .i64 1] ∧ Below w.heap.size w ((w.alloc (.cells #[.string ⟨#[]⟩, .int .i64 0] 40)).alloc (.cells #[.string nm, .int .i64 1] 40)) :=
    ⟨two1 w _ _, two2 w _ _, ((Below.refl _ w).alloc (Nat.le_refl _) _).alloc (by simp only [World.size_alloc]; omega) _⟩
  have ha := h.go ((Below.refl _ w).alloc (Nat.le_refl _) (.cells #[.string ⟨#[]⟩, .int .i64 0] 40))
  obtain ⟨b, off, rfl, hbB, hst⟩ := ha.stepCell
  have e0 := (hst k hk).1
  rw [hnm'] at e0
  have c0 := ha.blk.cell 0
  simp at c0
  have H3 := h.go b3
  obtain ⟨wz, hwz⟩ : ∃ wz, (w.alloc (.cells #[.string ⟨#[]⟩, .int .i64 0] 40)).alloc (.cells #[.string nm, .int .i64 1] 40) = wz := ⟨_, rfl⟩
  rw [hwz] at b1 b2 b3 H3
  have HB1 : Hid (Blk wz w.heap.size 40 #[.string ⟨#[]⟩, .int .i64 0]) := b1
  have HB2 : Hid (Blk wz (w.heap.size + 1) 40 #[.string nm, .int .i64 1]) := b2
  have HB3 : Hid (Below w.heap.size w wz) := b3
  have HH3 : Hid (RunS S B l (some ⟨b, off, none⟩) cap g gi gt dv rv cv w0 wz s reps) := H3
  clear h ha hst hnm hnm' b1 b2 b3 H3
  go_enter Tryz.func26, Tryz.ntmps26
  go_upto_region 2 with fail
  have c1 := HH3.out.blk.cell 1
  simp at c1
  have d1 := (HH3.out.isCell k hk).1
  clear hwz e0 c0
  have hp : w.heap.size ≠ w.heap.size + 1 := by omega
  rcases hor with hi | hi
  case inl =>
    rw [hi] at d1
    have hkd := HKD.out
    rw [if_neg (by omega)] at hkd
    have cx := chf wz HB3.out
    have q0 := HB2.out.cell 0
    simp at q0
    cases hh : hasB f nm
    case false =>
      rw [hh] at cx hkd
      simp at hkd
      subst hkd
      clear HKD
      go_upto_region 8 with (go_at_call 44; go_must (refine cx.mono ?_; rintro e w2 ⟨rfl, hq⟩; obtain rfl := hq.symm; clear hq))
      clear q0 cx c1 d1
      have kP := HB1.out
      have kQ := HB2.out
      have hbw := HB3.out
      have r0 := kP.cell 0
      have r1 := kP.cell 1
      have f0 := kP.fro 0
      have f1 := kP.fro 1
      have q0 := kQ.cell 0
      have q1 := kQ.cell 1
      simp at r0 r1 q0 q1
      have hz := (kP.set 0 (.string nm)).set 1 (.int .i64 1)
      have u0 := hz.cell 0
      have u1 := hz.cell 1
      simp at u0 u1
      have hbel := ((hbw.setCell (p := ⟨w.heap.size, 0, none⟩) (Nat.le_refl _) (.string nm)).setCell (p := ⟨w.heap.size, 1, none⟩) (Nat.le_refl _) (.int .i64 1))
      have HBEL : Hid _ := hbel
      clear hz hbel kP kQ hbw
      go_wp2_with fail
      (try simp only [Exit.inBlock, Exit.then])
      refine bodyPost_ret (v := .agg #[.string nm, .int .i64 1]) (by rw [results_cell1 Tryz.results26]; simp [go_sem, u0, u1]) rfl ?_
      exact ⟨rfl, HBEL.out⟩
    case true =>
      rw [hh] at cx hkd
      simp at hkd
      subst hkd
      clear HKD
      have q1 := HB2.out.cell 1
      have g1 := HB2.out.fro 1
      simp at q1
      go_upto_region 8 with (go_at_call 44; go_must (refine cx.mono ?_; rintro e w2 ⟨rfl, hq⟩; obtain rfl := hq.symm; clear hq))
      clear q0 q1 g1 cx c1 d1
      have kP := HB1.out.other hp 1 (.int .i64 2)
      have kQ := HB2.out.set 1 (.int .i64 2)
      have hbw := HB3.out.setCell (p := ⟨w.heap.size + 1, 1, none⟩) (Nat.le_succ _) (.int .i64 2)
      have r0 := kP.cell 0
      have r1 := kP.cell 1
      have f0 := kP.fro 0
      have f1 := kP.fro 1
      have q0 := kQ.cell 0
      have q1 := kQ.cell 1
      simp at r0 r1 q0 q1
      have hz := (kP.set 0 (.string nm)).set 1 (.int .i64 2)
      have u0 := hz.cell 0
      have u1 := hz.cell 1
      simp at u0 u1
      have hbel := ((hbw.setCell (p := ⟨w.heap.size, 0, none⟩) (Nat.le_refl _) (.string nm)).setCell (p := ⟨w.heap.size, 1, none⟩) (Nat.le_refl _) (.int .i64 2))
      have HBEL : Hid _ := hbel
      clear hz hbel kP kQ hbw
      go_wp2_with fail
      (try simp only [Exit.inBlock, Exit.then])
      refine bodyPost_ret (v := .agg #[.string nm, .int .i64 2]) (by rw [results_cell1 Tryz.results26]; simp [go_sem, u0, u1]) rfl ?_
      exact ⟨rfl, HBEL.out⟩
  case inr =>
    rw [hi] at d1
    have hkd := HKD.out
    rw [if_pos hi] at hkd
    have q1 := HB2.out.cell 1
    have g1 := HB2.out.fro 1
    simp at q1
    have kQ3 := HB2.out.set 1 (.int .i64 3)
    have kP3 := HB1.out.other hp 1 (.int .i64 3)
    have hb3 := HB3.out.setCell (p := ⟨w.heap.size + 1, 1, none⟩) (Nat.le_succ _) (.int .i64 3)
    have cx := chu _ hb3
    go_upto_region 4 with fail
    obtain ⟨wy, hwy⟩ : ∃ wy, wz.setCell ⟨w.heap.size + 1, 1, none⟩ (.int .i64 3) = wy := ⟨_, rfl⟩
    rw [hwy] at kQ3 kP3 hb3 cx ⊢
    clear q1 g1 c1 d1 hwy
    have q0 := kQ3.cell 0
    simp at q0
    have HQ3 : Hid (Blk wy (w.heap.size + 1) 40 _) := kQ3
    have HP3 : Hid (Blk wy w.heap.size 40 _) := kP3
    have HY3 : Hid (Below w.heap.size w wy) := hb3
    cases hh : hasB u nm
    case false =>
      rw [hh] at cx hkd
      simp at hkd
      subst hkd
      clear HKD
      clear kQ3 kP3 hb3
      go_upto_region 8 with (go_at_call 44; go_must (refine cx.mono ?_; rintro e w2 ⟨rfl, hq⟩; obtain rfl := hq.symm; clear hq))
      clear q0 cx
      have kP := HP3.out
      have kQ := HQ3.out
      have hbw := HY3.out
      have r0 := kP.cell 0
      have r1 := kP.cell 1
      have f0 := kP.fro 0
      have f1 := kP.fro 1
      have q0 := kQ.cell 0
      have q1 := kQ.cell 1
      simp at r0 r1 q0 q1
      have hz := (kP.set 0 (.string nm)).set 1 (.int .i64 3)
      have u0 := hz.cell 0
      have u1 := hz.cell 1
      simp at u0 u1
      have hbel := ((hbw.setCell (p := ⟨w.heap.size, 0, none⟩) (Nat.le_refl _) (.string nm)).setCell (p := ⟨w.heap.size, 1, none⟩) (Nat.le_refl _) (.int .i64 3))
      have HBEL : Hid _ := hbel
      clear hz hbel kP kQ hbw
      go_wp2_with fail
      (try simp only [Exit.inBlock, Exit.then])
      refine bodyPost_ret (v := .agg #[.string nm, .int .i64 3]) (by rw [results_cell1 Tryz.results26]; simp [go_sem, u0, u1]) rfl ?_
      exact ⟨rfl, HBEL.out⟩
    case true =>
      rw [hh] at cx hkd
      simp at hkd
      subst hkd
      clear HKD
      have q1 := kQ3.cell 1
      have g1 := kQ3.fro 1
      simp at q1
      clear kQ3 kP3 hb3
      go_upto_region 8 with (go_at_call 44; go_must (refine cx.mono ?_; rintro e w2 ⟨rfl, hq⟩; obtain rfl := hq.symm; clear hq))
      clear q0 q1 g1 cx
      have kP := HP3.out.other hp 1 (.int .i64 4)
      have kQ := HQ3.out.set 1 (.int .i64 4)
      have hbw := HY3.out.setCell (p := ⟨w.heap.size + 1, 1, none⟩) (Nat.le_succ _) (.int .i64 4)
      have r0 := kP.cell 0
      have r1 := kP.cell 1
      have f0 := kP.fro 0
      have f1 := kP.fro 1
      have q0 := kQ.cell 0
      have q1 := kQ.cell 1
      simp at r0 r1 q0 q1
      have hz := (kP.set 0 (.string nm)).set 1 (.int .i64 4)
      have u0 := hz.cell 0
      have u1 := hz.cell 1
      simp at u0 u1
      have hbel := ((hbw.setCell (p := ⟨w.heap.size, 0, none⟩) (Nat.le_refl _) (.string nm)).setCell (p := ⟨w.heap.size, 1, none⟩) (Nat.le_refl _) (.int .i64 4))
      have HBEL : Hid _ := hbel
      clear hz hbel kP kQ hbw
      go_wp2_with fail
      (try simp only [Exit.inBlock, Exit.then])
      refine bodyPost_ret (v := .agg #[.string nm, .int .i64 4]) (by rw [results_cell1 Tryz.results26]; simp [go_sem, u0, u1]) rfl ?_
      exact ⟨rfl, HBEL.out⟩
end
end Go.Proofs.YthgliancmmnjgaaGreatDoor

namespace Go.Proofs.YthgliancmmnjgaaGreatDoor
open Go.ChangeShapes Go.WideShapes Go.ChangeAt Go.RowKit
set_option linter.unusedVariables false
set_option linter.unusedSimpArgs false

theorem endsN_of {l : List Step} {f u : List ByteArray} {s : Sg} (h : overP s) : ∀ n, endsN l f u n s = s
  | 0 => rfl
  | n + 1 => by unfold endsN; rw [if_pos h]
theorem phi_pos {l : List Step} {s : Sg} (h : ¬ overP s) : 0 < phi l s := by
  have : s.st = 1 ∨ s.st = 2 := by unfold overP at h; omega
  unfold phi
  rw [if_pos this]
  omega
theorem wt_le {st x t : Int} (h : 0 ≤ t) : wt st x t ≤ 40 := by
  unfold wt
  split
  · split <;> omega
  · split
    · omega
    · split
      · omega
      · split <;> omega
theorem sumN_const (f : Nat → Nat) (c : Nat) : ∀ n, (∀ i, f i ≤ c) → sumN f n ≤ c * n
  | 0, _ => by simp [sumN]
  | n + 1, h => by
    unfold sumN
    have h1 := sumN_const f c n h
    have h2 := h n
    rw [Nat.mul_succ]
    omega
theorem phi_le {l : List Step} {s : Sg} (h : Ok l s) : phi l s ≤ 40 * l.length + 1 := by
  unfold phi
  have := sumN_const (wtAt s) 40 l.length (fun i => wt_le (h.tb i).1)
  split <;> omega
/-- A step of the way, as a loop keeps it. -/
structure OnWay (l : List Step) (f u : List ByteArray) (E : Sg) (n : Nat) (s : Sg) : Prop where
  way : Way l s
  ends : endsN l f u n s = E
  few : phi l s ≤ n
  cmds : s.cmds.length + 22 * phi l s ≤ 100000
theorem OnWay.begin {l : List Step} (hb : sagaB l = true) (hl : l.length ≤ 20) (f u : List ByteArray) : OnWay l f u (endsN l f u (phi l (beginS l)) (beginS l)) (phi l (beginS l)) (beginS l) := by
  have h := Way.begin hb
  refine ⟨h, rfl, Nat.le_refl _, ?_⟩
  have h1 := phi_le h.ok
  have h2 := fwd_cmds l (zeroS l)
  simp only [zeroS, List.length_nil] at h2
  have h3 : (beginS l).cmds.length ≤ 20 := by unfold beginS; simp only [zeroS]; omega
  omega
theorem OnWay.step {l : List Step} {f u : List ByteArray} {E s : Sg} {n : Nat} (h : OnWay l f u E n s) (hb : sagaB l = true) (hl : l.length ≤ 20) (ht : ∀ i (hi : i < l.length), l[i].tries ≤ 5) (ho : ¬ overP s) : ∃ m, OnWay l f u E m (stepE l f u s) ∧ phi l (stepE l f u s) < phi l s := by
  obtain ⟨h1, h2, h3⟩ := h.way.step hb ht f u ho
  have hp := phi_pos (l := l) ho
  have hfew := h.few
  obtain ⟨m, rfl⟩ : ∃ m, n = m + 1 := ⟨n - 1, by omega⟩
  have he := h.ends
  unfold endsN at he
  rw [if_neg ho] at he
  refine ⟨m, ⟨h1, he, by omega, ?_⟩, h2⟩
  have hc := hear_cmds h.way.ok ht (ansM l s f u (firstB s))
  have hcm := h.cmds
  unfold stepE at h2 ⊢
  omega
theorem OnWay.over {l : List Step} {f u : List ByteArray} {E s : Sg} {n : Nat} (h : OnWay l f u E n s) (ho : overP s) : s = E := by
  have := h.ends
  rw [endsN_of ho] at this
  exact this
/-- A measure that a world tells, if it tells one alone. -/
noncomputable def measW (l : List Step) (R : World → Sg → Prop) (w : World) : Nat := open Classical in if h : ∃ s, R w s then phi l (Classical.choose h) else 0
theorem measW_eq {l : List Step} {R : World → Sg → Prop} {w : World} {s : Sg} (hu : ∀ s s', R w s → R w s' → phi l s = phi l s') (h : R w s) : measW l R w = phi l s := by
  have hex : ∃ s, R w s := ⟨s, h⟩
  unfold measW
  rw [dif_pos hex]
  exact hu _ _ (Classical.choose_spec hex) h
theorem phi_eq {l : List Step} {s s' : Sg} (h1 : s.st = s'.st) (h2 : ∀ i, i < l.length → isAt s i = isAt s' i) (h3 : ∀ i, i < l.length → trAt s i = trAt s' i) : phi l s = phi l s' := by
  unfold phi
  have e : sumN (wtAt s) l.length = sumN (wtAt s') l.length := sumN_congr l.length (fun i hi => by unfold wtAt; rw [h1, h2 i hi, h3 i hi])
  rw [h1, e]
theorem Ok.doneF {l : List Step} {s : Sg} (h : Ok l s) : Ok l { s with done := doneF l s } := by
  refine ⟨h.il, h.tl, ?_, fun k hk => ?_, h.tb⟩
  · exact List.nodup_range.sublist List.filter_sublist
  · unfold Go.Proofs.YthgliancmmnjgaaGreatDoor.doneF at hk
    dsimp only at hk
    rw [List.mem_filter, List.mem_range] at hk
    exact ⟨hk.1, of_decide_eq_true hk.2⟩
theorem TxtsAt.isIn {S : Nat → Prop} {w : World} {a : Option Addr} {c n : Nat} {l : List ByteArray} (h : TxtsAt S w (.slice a n c) l) (hS : ∀ b, S b → b < w.heap.size) : TxtsIn w a l := fun h0 => by
  obtain ⟨_, a', c', hv, hc⟩ := h
  simp only [Value.slice.injEq] at hv
  obtain ⟨rfl, -, rfl⟩ := hv
  obtain ⟨b, off, h1, h2, h3⟩ := hc h0
  exact ⟨b, off, h1, hS b h2, h3⟩
/-- What a SagaEnds answers, whatever it is. -/
def EndsC (f : Nat) (T : World → Prop) (C : List Step → List ByteArray → List ByteArray → Int × List ByteArray × Int) : Prop := ∀ (S : Nat → Prop) (l0 : List Step) (l1 l2 : List ByteArray) (v0 v1 v2 : Value) (w : World), (∀ b, S b → b < w.heap.size) → StepsAt S w v0 l0 → l0.length ≤ 1048576 → (∀ x ∈ l0, StepsOK 1048576 x) → StepsFull w v0 l0 → TxtsAt S w v1 l1 → l1.length ≤ 1048576 → TxtsAt S w v2 l2 → l2.length ≤ 1048576 → (∀ W, Below w.heap.size w W → T W) →
  Calls Tryz.prog f #[v0, v1, v2] w fun e w' => (∃ v, e = .returned (.tuple #[.int .i64 (C l0 l1 l2).1, v, .int .i64 (C l0 l1 l2).2.2]) ∧ OwnTxts w.heap.size w' v (C l0 l1 l2).2.1) ∧ Below w.heap.size w w'
end Go.Proofs.YthgliancmmnjgaaGreatDoor

namespace Go.Proofs.YthgliancmmnjgaaGreatDoor
open Go.ChangeShapes Go.WideShapes Go.ChangeAt Go.RowKit
set_option linter.unusedVariables false
set_option linter.unusedSimpArgs false

theorem commandE : CommandC 46 := fun h kind i hi hc => specCommand h kind i hi hc
theorem TxtsAt.newE (w : World) (x : ByteArray) (g : Nat) (hg : w.heap.size = g) : TxtsAt (fun b => b = g) (w.alloc (.cells #[.string x] 9)) (.slice (some ⟨g, 0, none⟩) 1 1) [x] := by
  subst hg; exact TxtsAt.new w x
section
variable {S : Nat → Prop} {B : Nat} {l : List Step} {a : Option Addr} {cap g gi gt : Nat} {dv rv cv : Value} {w0 w : World} {s : Sg} {reps : List Int}
theorem RunS.phi_one {dv' cv' : Value} {s' : Sg} (h : RunS S B l a cap g gi gt dv rv cv w0 w s reps) (h' : RunS S B l a cap g gi gt dv' rv cv' w0 w s' reps) : phi l s = phi l s' := by
  refine phi_eq ?_ (fun i hi => ?_) (fun i hi => ?_)
  · have h1 := h.blk.cell 5
    have h2 := h'.blk.cell 5
    simp at h1 h2
    rw [h1] at h2
    simpa using h2
  · have h1 := (h.isCell i hi).1
    rw [(h'.isCell i hi).1] at h1
    simpa using h1.symm
  · have h1 := (h.trCell i hi).1
    rw [(h'.trCell i hi).1] at h1
    simpa using h1.symm
end
theorem saga_cells {S : Nat → Prop} {B : Nat} {w : World} {a : Option Addr} {cap : Nat} {l : List Step} (h : SagaIn S B w a cap l) : ∃ b off, a = some ⟨b, off, none⟩ ∧ b < B ∧ ∀ i (hi : i < l.length), w.cell? ⟨b, off + i * 4, none⟩ = some (.string (nameAt l i)) := by
  obtain ⟨_, a', cap', hv, hc⟩ := h.at'
  simp only [Value.slice.injEq] at hv
  obtain ⟨rfl, -, rfl⟩ := hv
  obtain ⟨b, off, rfl, hS, hcell⟩ := hc (by have := h.len; omega)
  exact ⟨b, off, rfl, h.low b hS, fun i hi => by unfold nameAt; rw [stepOf_eq hi]; exact (hcell i hi).1⟩
theorem names_at {l : List Step} (i : Nat) (hi : i < (names l).length) : (names l)[i] = nameAt l i := by
  have : i < l.length := by rwa [names_len] at hi
  unfold nameAt
  rw [stepOf_eq this]
  simp [names]
theorem doneF_take (l : List Step) (s : Sg) (k : Nat) : ((List.range (k + 1)).filter (fun i => decide (isAt s i = 2))).map (nameAt l) = ((List.range k).filter (fun i => decide (isAt s i = 2))).map (nameAt l) ++ (if isAt s k = 2 then [nameAt l k] else []) := by
  rw [List.range_succ, List.filter_append, List.map_append]
  congr 1
  by_cases h : isAt s k = 2 <;> simp [h]
theorem before_first {s : Sg} {k : Nat} (h : k < firstB s) (hk : k < s.is.length) : isAt s k ≠ 1 ∧ isAt s k ≠ 3 := by
  have := List.not_of_lt_findIdx h
  rw [isAt_eq hk]
  unfold isBusy at this
  simpa using this
set_option maxRecDepth 100000 in
set_option maxHeartbeats 16000000 in
theorem specEnds (T : World → Prop) : EndsC 7 T endF := by
  intro S l0 l1 l2 v0 v1 v2 w hS h0 hl0 hok hfull h1 hl1 h2 hl2 hT
  obtain ⟨a0, cap0, rfl⟩ := h0.shape
  obtain ⟨a1, cap1, rfl⟩ := h1.shape
  obtain ⟨a2, cap2, rfl⟩ := h2.shape
  have hl0' : (l0.length : Int) ≤ 1048576 := by omega
  have hl1' : (l1.length : Int) ≤ 1048576 := by omega
  have hl2' : (l2.length : Int) ≤ 1048576 := by omega
  have co := specSaga T S l0 (.slice a0 l0.length cap0) w hS h0 hl0 hok hfull hT
  have H0 : Hid (StepsAt S w (.slice a0 l0.length cap0) l0) := h0
  have H1 : Hid (TxtsAt S w (.slice a1 l1.length cap1) l1) := h1
  have H2 : Hid (TxtsAt S w (.slice a2 l2.length cap2) l2) := h2
  have HS : Hid (∀ b, S b → b < w.heap.size) := hS
  have HOK : Hid (∀ x ∈ l0, StepsOK 1048576 x) := hok
  obtain ⟨R, hR⟩ : ∃ R, endF l0 l1 l2 = R := ⟨_, rfl⟩
  rw [hR]
  have HR : Hid (endF l0 l1 l2 = R) := hR
  clear hS hfull h0 h1 h2 hok hT hR
  go_enter Tryz.func7, Tryz.ntmps7
  by_cases hlong : 4096 < l0.length ∨ 4096 < l1.length ∨ 4096 < l2.length
  case pos =>
    have hRe : R = (0, [], 2) := by rw [← HR.out]; unfold endF; rw [if_pos hlong]
    subst hRe
    clear co
    by_cases hlo : 4096 < l0.length
    · have hlo' : (4096 : Int) < (l0.length : Int) := by omega
      go_wp2_with fail
      go_ret3
      exact ⟨⟨_, rfl, OwnTxts.empty _ _ (Nat.le_refl _)⟩, (Below.refl _ _).alloc (Nat.le_refl _) _⟩
    · have hlo' : ¬ ((4096 : Int) < (l0.length : Int)) := by omega
      by_cases hlp : 4096 < l1.length
      · have hlp' : (4096 : Int) < (l1.length : Int) := by omega
        go_wp2_with fail
        go_ret3
        exact ⟨⟨_, rfl, OwnTxts.empty _ _ (Nat.le_refl _)⟩, (Below.refl _ _).alloc (Nat.le_refl _) _⟩
      · have hlp' : ¬ ((4096 : Int) < (l1.length : Int)) := by omega
        have hlq' : (4096 : Int) < (l2.length : Int) := by omega
        go_wp2_with fail
        go_ret3
        exact ⟨⟨_, rfl, OwnTxts.empty _ _ (Nat.le_refl _)⟩, (Below.refl _ _).alloc (Nat.le_refl _) _⟩
  have hnl0 : l0.length ≤ 4096 := by omega
  have hnl1 : l1.length ≤ 4096 := by omega
  have hnl2 : l2.length ≤ 4096 := by omega
  have hlo' : ¬ ((4096 : Int) < (l0.length : Int)) := by omega
  have hlp' : ¬ ((4096 : Int) < (l1.length : Int)) := by omega
  have hlq' : ¬ ((4096 : Int) < (l2.length : Int)) := by omega
  have HNL : Hid (¬ (4096 < l0.length ∨ 4096 < l1.length ∨ 4096 < l2.length)) := hlong
  clear hlong
  obtain ⟨F, hF⟩ : ∃ F, sagaB l0 = F := ⟨_, rfl⟩
  rw [hF] at co
  have HF : Hid (sagaB l0 = F) := hF
  clear hF
  cases F
  case false =>
    have hRe : R = (0, [], 1) := by rw [← HR.out]; unfold endF; rw [if_neg HNL.out, if_pos HF.out]
    subst hRe
    go_wp2_with (go_at_call 22; go_must (refine co.mono ?_; rintro e w1 ⟨rfl, hb1⟩))
    go_ret3
    exact ⟨⟨_, rfl, OwnTxts.empty _ _ hb1.size⟩, hb1.alloc hb1.size _⟩
  go_upto_region 5 with (go_at_call 22; go_must (refine co.mono ?_; rintro e w1 ⟨rfl, hb1⟩))
  have hin : SagaIn S w1.heap.size w1 a0 cap0 l0 := saga_in (fun b hb => Nat.lt_of_lt_of_le (HS.out b hb) hb1.size) (H0.out.keep (cells_below HS.out hb1)) HOK.out HF.out
  have hlen := hin.len
  have hlen' : (l0.length : Int) ≤ 20 := by omega
  have HIN : Hid (SagaIn S w1.heap.size w1 a0 cap0 l0) := hin
  have HSZ : Hid (w.heap.size ≤ w1.heap.size) := hb1.size
  have HT1 : Hid (TxtsAt S w1 (.slice a1 l1.length cap1) l1) := H1.out.keep (cells_below HS.out hb1)
  have HT2 : Hid (TxtsAt S w1 (.slice a2 l2.length cap2) l2) := H2.out.keep (cells_below HS.out hb1)
  have HS1 : Hid (∀ b, S b → b < w1.heap.size) := fun b hb => Nat.lt_of_lt_of_le (HS.out b hb) hb1.size
  have HB1 : Hid (Below w.heap.size w w1) := hb1
  clear co hin H0 H1 H2 HS HOK hb1
  have bE : Below w1.heap.size w1 (w1.alloc (.cells #[] 9)) := (Below.refl _ w1).alloc (Nat.le_refl _) _
  have oE := OwnTxts.empty w1.heap.size w1 (Nat.le_refl _)
  go_upto_region 6 with (first
    | (at_builtin; have hchk := hBA; refine wpList_appendTxts rfl (.tmp 35) (.tmp 36) rfl w1.heap.size (.slice aA nA cA) l1 rfl ownA (.slice a2 l2.length cap2) l2 rfl (TxtsAt.keep HT2.out (cells_below HS1.out (bE.trans hBA))) (by omega) (Nat.le_trans bE.size hBA.size) ?_; intro vB wB ownB hBB hgrB hnilB; obtain ⟨aB, cB, eB, -⟩ := ownB.value; obtain ⟨nB, hnB⟩ : ∃ nB, (l1 ++ l2).length = nB := ⟨_, rfl⟩; rw [hnB] at eB; subst eB)
    | (at_builtin; go_must (refine wpList_appendTxts rfl (.tmp 33) (.tmp 34) rfl w1.heap.size (.slice (some ⟨w1.heap.size, 0, none⟩) 0 0) [] rfl oE (.slice a1 l1.length cap1) l1 rfl (TxtsAt.keep HT1.out (cells_below HS1.out bE)) (by simp; omega) bE.size ?_; intro vA wA ownA hBA hgrA hnilA; rw [List.nil_append] at ownA; obtain ⟨aA, cA, eA, -⟩ := ownA.value; obtain ⟨nA, hnA⟩ : ∃ nA, l1.length = nA := ⟨_, rfl⟩; have hnA' : Hid _ := hnA; rw [hnA] at eA; clear hnA; subst eA)))
  have bB : Below w1.heap.size w1 wB := (bE.trans hBA).trans hBB
  obtain ⟨L, hL⟩ : ∃ L, l1 ++ l2 = L := ⟨_, rfl⟩
  have hLn : L.length = nB := by rw [← hL]; exact hnB
  have hLm : L.length ≤ 8192 := by rw [← hL, List.length_append]; omega
  rw [hL] at ownB
  have hRe : R = if L.all (hasB (names l0)) = false then (0, [], 7) else ((endsN l0 l1 l2 (phi l0 (beginS l0)) (beginS l0)).st, (doneF l0 (endsN l0 l1 l2 (phi l0 (beginS l0)) (beginS l0))).map (nameAt l0), 0) := by
    rw [← HR.out]; unfold endF; rw [if_neg HNL.out, if_neg (by rw [HF.out]; simp)]
    have : (l1.all (hasB (names l0)) = false ∨ l2.all (hasB (names l0)) = false) ↔ L.all (hasB (names l0)) = false := by
      rw [← hL, List.all_append, Bool.and_eq_false_iff]
    by_cases hc : L.all (hasB (names l0)) = false
    · rw [if_pos hc, if_pos (this.2 hc)]
    · rw [if_neg hc, if_neg (fun h => hc (this.1 h))]
  have HRE : Hid (R = if L.all (hasB (names l0)) = false then (0, [], 7) else ((endsN l0 l1 l2 (phi l0 (beginS l0)) (beginS l0)).st, (doneF l0 (endsN l0 l1 l2 (phi l0 (beginS l0)) (beginS l0))).map (nameAt l0), 0)) := hRe
  have hinL : TxtsIn wB aB L := TxtsAt.isIn ownB.at (fun b hb => hb.2)
  have HLI : Hid (TxtsIn wB aB L) := hinL
  have HBB : Hid (Below w1.heap.size w1 wB) := bB
  subst hLn
  have hLm' : (L.length : Int) ≤ 8192 := by omega
  have hsc := saga_cells HIN.out
  obtain ⟨sb, so, rfl, hsb, hsc⟩ := hsc
  have cfi : ∀ t : ByteArray, Calls Tryz.prog 23 #[.slice (some ⟨sb, so, none⟩) l0.length cap0, .string t] wB fun e w' => e = .returned (.int .i64 (findI (names l0) t)) ∧ w' = wB := fun t => specFind (names l0) t _ _ _ wB (names_len l0) (by omega) (fun _ => ⟨sb, so, rfl, fun i hi => by
    rw [names_at i hi]
    have hi' : i < l0.length := by rwa [names_len] at hi
    exact (bB.cell (p := ⟨sb, so + i * 4, none⟩) hsb).trans (hsc i hi')⟩)
  clear hL hnB hRe hinL bB hnilA hnilB hgrA hgrB ownA ownB hBA hBB hchk oE bE hnA'
  go_wp2_with fail
  go_loopw [10] (fun i10 wr => ∃ (k : Nat), i10 = .int .i64 (k : Int) ∧ k ≤ L.length ∧ (L.take k).all (hasB (names l0)) = true ∧ wr = wB) (fun i10 _ => L.length - (intOf i10).toNat)
  case atStart => exact ⟨0, rfl, by omega, by simp, rfl⟩
  case round =>
    obtain ⟨k, rfl, hk, hall, rfl⟩ := hrel
    have HAL : Hid ((L.take k).all (hasB (names l0)) = true) := hall
    clear hall
    by_cases hkn : k < L.length
    case pos =>
      have hkn' : (k : Int) < (L.length : Int) := by omega
      obtain ⟨b, off, rfl, hbl, hcell⟩ := HLI.out (by omega)
      have x1 := hcell k hkn
      have cx := cfi L[k]
      have hfh := findI_has (names l0) L[k]
      have htk : (L.take (k + 1)).all (hasB (names l0)) = ((L.take k).all (hasB (names l0)) && hasB (names l0) L[k]) := by rw [List.take_succ_eq_append_getElem hkn, List.all_append]; simp
      obtain ⟨x, hx⟩ : ∃ x, L[k] = x := ⟨_, rfl⟩
      have HX : Hid (L[k] = x) := hx
      rw [hx] at x1 cx hfh htk
      obtain ⟨fi, hfi⟩ : ∃ fi, findI (names l0) x = fi := ⟨_, rfl⟩
      rw [hfi] at cx hfh
      have HFH : Hid (decide (0 ≤ fi) = hasB (names l0) x) := hfh
      have HTK : Hid ((L.take (k + 1)).all (hasB (names l0)) = ((L.take k).all (hasB (names l0)) && hasB (names l0) x)) := htk
      clear hx hcell hfi hfh htk
      by_cases hneg : fi < 0
      case pos =>
        have hRe : R = (0, [], 7) := by
          rw [HRE.out, if_pos]
          rw [List.all_eq_false]
          refine ⟨x, by rw [← HX.out]; exact List.getElem_mem hkn, ?_⟩
          rw [← HFH.out]
          simp only [decide_eq_true_eq]
          omega
        subst hRe
        go_wp2_with (go_at_call 23; go_must (refine cx.mono ?_; rintro e w3 ⟨rfl, hq⟩; obtain rfl := hq.symm; clear hq))
        go_ret3
        exact ⟨⟨_, rfl, OwnTxts.empty _ _ (Nat.le_trans HSZ.out HBB.out.size)⟩, (HB1.out.trans (HBB.out.mono HSZ.out)).alloc (Nat.le_trans HSZ.out HBB.out.size) _⟩
      case neg =>
        go_wp2_with (go_at_call 23; go_must (refine cx.mono ?_; rintro e w3 ⟨rfl, hq⟩; obtain rfl := hq.symm; clear hq))
        refine ⟨⟨k + 1, rfl, by omega, ?_, by trivial⟩, by simp [intOf]; omega⟩
        rw [HTK.out, HAL.out, ← HFH.out, Bool.true_and]
        exact decide_eq_true (by omega)
    case neg =>
      obtain rfl : k = L.length := by omega
      have hkn' : ¬ ((L.length : Int) < (L.length : Int)) := by omega
      have hall := HAL.out
      rw [List.take_length] at hall
      obtain ⟨E, hE⟩ : ∃ E, endsN l0 l1 l2 (phi l0 (beginS l0)) (beginS l0) = E := ⟨_, rfl⟩
      have hRe : R = (E.st, (doneF l0 E).map (nameAt l0), 0) := by rw [HRE.out, if_neg (by rw [hall]; simp), hE]
      have hon := OnWay.begin HF.out hlen.2 l1 l2
      rw [hE] at hon
      have HON : Hid (OnWay l0 l1 l2 E (phi l0 (beginS l0)) (beginS l0)) := hon
      have HRF : Hid (R = (E.st, (doneF l0 E).map (nameAt l0), 0)) := hRe
      have hin2 : SagaIn S wr.heap.size wr (some ⟨sb, so, none⟩) cap0 l0 := by
        have h := HIN.out
        exact ⟨fun b hb => Nat.lt_of_lt_of_le (h.low b hb) HBB.out.size, h.at'.keep (fun b i hs => HBB.out.cell (h.low b hs)), h.ok, h.len, h.tries, h.needs⟩
      have cb := specBegin commandE hin2
      have HT1' : Hid (TxtsAt S wr (.slice a1 l1.length cap1) l1) := TxtsAt.keep HT1.out (cells_below HS1.out HBB.out)
      have HT2' : Hid (TxtsAt S wr (.slice a2 l2.length cap2) l2) := TxtsAt.keep HT2.out (cells_below HS1.out HBB.out)
      have HS2 : Hid (∀ b, S b → b < wr.heap.size) := fun b hb => Nat.lt_of_lt_of_le (HS1.out b hb) HBB.out.size
      have HBR : Hid (Below w.heap.size w wr) := HB1.out.trans (HBB.out.mono HSZ.out)
      have HZR : Hid (w.heap.size ≤ wr.heap.size) := Nat.le_trans HSZ.out HBB.out.size
      clear hall hE hRe hon cfi hin2 HT1 HT2 HS1 HB1 HSZ HBB HRE HAL HLI HIN HR hsc
      go_upto_region 12 with (go_at_call 24; go_must (refine cb.mono ?_; rintro e w2 ⟨g, gi, gt, dv0, cv0, rfl, hrun⟩))
      clear cb
      have HR0 : Hid (RunS S wr.heap.size l0 (some ⟨sb, so, none⟩) cap0 g gi gt dv0 (.slice none 0 0) cv0 wr w2 (beginS l0) []) := hrun
      clear hrun
      obtain ⟨wx, hwx⟩ : ∃ wx, wx = wr := ⟨_, rfl⟩
      subst hwx
      go_loopw [12] (fun i12 wr => ∃ (n : Nat) (s : Sg) (dv cv : Value), OnWay l0 l1 l2 E n s ∧ RunS S wx.heap.size l0 (some ⟨sb, so, none⟩) cap0 g gi gt dv (.slice none 0 0) cv wx wr s []) (fun _ wr => measW l0 (fun W s => ∃ dv cv, RunS S wx.heap.size l0 (some ⟨sb, so, none⟩) cap0 g gi gt dv (.slice none 0 0) cv wx W s []) wr)
      case atStart => exact ⟨_, _, _, _, HON.out, HR0.out⟩
      case round =>
        obtain ⟨n, s, dv, cv, hway, hR⟩ := hrel
        have HW : Hid (OnWay l0 l1 l2 E n s) := hway
        have HRR : Hid (RunS S wx.heap.size l0 (some ⟨sb, so, none⟩) cap0 g gi gt dv (.slice none 0 0) cv wx wr s []) := hR
        have c5 := hR.blk.cell 5
        have c1 := hR.blk.cell 1
        simp at c5 c1
        clear hway hR
        by_cases hov : overP s
        case neg =>
          have hst : s.st = 1 ∨ s.st = 2 := by unfold overP at hov; omega
          obtain ⟨hfl, hfb⟩ := first_lt (HW.out.way.bz hst)
          rw [HRR.out.ok.il] at hfl
          obtain ⟨m, hm, hlt⟩ := HW.out.step HF.out hlen.2 HRR.out.saga.tries hov
          have hsx : stepE l0 l1 l2 s = hearS l0 s (ansM l0 s l1 l2 (firstB s)) := rfl
          rw [hsx] at hm hlt
          have ca := specAnswer HRR.out (firstB s) hfl hfb l1 l2 a1 a2 cap1 cap2
            (fun W hW => specHasN l1 _ a1 l1.length cap1 W rfl (by omega) (fun h0 => by
              obtain ⟨b, off, h1, h2, h3⟩ := ((TxtsAt.isIn HT1'.out HS2.out).below HRR.out.bel).below hW h0
              exact ⟨b, off, h1, h3⟩))
            (fun W hW => specHasN l2 _ a2 l2.length cap2 W rfl (by omega) (fun h0 => by
              obtain ⟨b, off, h1, h2, h3⟩ := ((TxtsAt.isIn HT2'.out HS2.out).below HRR.out.bel).below hW h0
              exact ⟨b, off, h1, h3⟩))
          obtain ⟨x, hx⟩ : ∃ x, ansM l0 s l1 l2 (firstB s) = x := ⟨_, rfl⟩
          rw [hx] at ca hm hlt
          obtain ⟨xs, xk⟩ := x
          dsimp only at ca
          have hcm : s.cmds.length ≤ 700000 := by have := HW.out.cmds; omega
          have cm := fun (W : World) (hW : Below wr.heap.size wr W) => specMessage commandE (HRR.out.go hW) xs xk hcm
          obtain ⟨s9, hs9⟩ : ∃ s9, hearS l0 s ⟨xs, xk⟩ = s9 := ⟨_, rfl⟩
          obtain ⟨c9, hc9⟩ : ∃ c9, codeS l0 s ⟨xs, xk⟩ = c9 := ⟨_, rfl⟩
          rw [hs9] at hm hlt
          simp only [hs9, hc9] at cm
          obtain ⟨j, hj⟩ : ∃ j, firstB s = j := ⟨_, rfl⟩
          rw [hj] at ca hfl hfb
          have HM : Hid (OnWay l0 l1 l2 E m s9) := hm
          have HLT : Hid (phi l0 s9 < phi l0 s) := hlt
          have HFB : Hid (isAt s j = 1 ∨ isAt s j = 3) := hfb
          have HJ : Hid (firstB s = j) := hj
          have HST : Hid (s.st = 1 ∨ s.st = 2) := hst
          clear hm hlt hsx hx hs9 hc9 hfb hj hov hst
          obtain ⟨st, hste⟩ : ∃ st, s.st = st := ⟨_, rfl⟩
          have hst2 := HST.out
          rw [hste] at c5 hst2
          clear hste
          obtain ⟨wo, hwo⟩ : ∃ wo, wo = wr := ⟨_, rfl⟩
          subst hwo
          have hfl' : (j : Int) < (l0.length : Int) := by omega
          rcases hst2 with rfl | rfl
          all_goals
            go_wp2_with fail
            clear c5
            go_loopw [12] (fun i12 wr => ∃ (k : Nat), i12 = .int .i64 (k : Int) ∧ k ≤ j ∧ wr = wo) (fun i12 _ => j - (intOf i12).toNat)
            case atStart => exact ⟨0, rfl, by omega, rfl⟩
            case round =>
              obtain ⟨k, rfl, hkj, hq⟩ := hrel
              obtain rfl := hq.symm
              clear hq
              have hkl : k < l0.length := by omega
              have hkl' : (k : Int) < (l0.length : Int) := by omega
              have d1 := (HRR.out.isCell k hkl).1
              by_cases hkj2 : k < j
              case pos =>
                obtain ⟨n1, n3⟩ := before_first (s := s) (k := k) (by rw [HJ.out]; exact hkj2) (by rw [HRR.out.ok.il]; exact hkl)
                obtain ⟨x1, hx1⟩ : ∃ x1, isAt s k = x1 := ⟨_, rfl⟩
                rw [hx1] at d1 n1 n3
                have n1' : (x1 == 1) = false := by simpa using n1
                have n3' : (x1 == 3) = false := by simpa using n3
                clear hx1 ca cm
                go_wp2_with fail
                exact ⟨⟨k + 1, rfl, by omega, by trivial⟩, by simp [intOf]; omega⟩
              case neg =>
                obtain rfl : k = j := by omega
                have hend : ∀ w6 dv6 cv6, RunS S wx.heap.size l0 (some ⟨sb, so, none⟩) cap0 g gi gt dv6 (.slice none 0 0) cv6 wx w6 s9 [] → measW l0 (fun W s => ∃ dv cv, RunS S wx.heap.size l0 (some ⟨sb, so, none⟩) cap0 g gi gt dv (.slice none 0 0) cv wx W s []) w6 < measW l0 (fun W s => ∃ dv cv, RunS S wx.heap.size l0 (some ⟨sb, so, none⟩) cap0 g gi gt dv (.slice none 0 0) cv wx W s []) wo := fun w6 dv6 cv6 H6 => by
                  rw [measW_eq (s := s9) (fun s s' ⟨d, c, h⟩ ⟨d', c', h'⟩ => h.phi_one h') ⟨dv6, cv6, H6⟩, measW_eq (s := s) (fun s s' ⟨d, c, h⟩ ⟨d', c', h'⟩ => h.phi_one h') ⟨dv, cv, HRR.out⟩]
                  exact HLT.out
                have HEND : Hid (∀ w6 dv6 cv6, RunS S wx.heap.size l0 (some ⟨sb, so, none⟩) cap0 g gi gt dv6 (.slice none 0 0) cv6 wx w6 s9 [] → measW l0 (fun W s => ∃ dv cv, RunS S wx.heap.size l0 (some ⟨sb, so, none⟩) cap0 g gi gt dv (.slice none 0 0) cv wx W s []) w6 < measW l0 (fun W s => ∃ dv cv, RunS S wx.heap.size l0 (some ⟨sb, so, none⟩) cap0 g gi gt dv (.slice none 0 0) cv wx W s []) wo) := hend
                clear hend
                rcases HFB.out with e | e
                all_goals
                  rw [e] at d1
                  go_wp2_with (first
                    | (go_at_call 26; go_must (refine ca.mono ?_; rintro e w5 ⟨rfl, hb5⟩))
                    | (go_at_call 25; go_must (refine (cm _ hb5).mono ?_; rintro e w6 ⟨rfl, dv6, cv6, H6⟩)))
                  exact ⟨⟨m, s9, dv6, cv6, HM.out, H6⟩, HEND.out _ _ _ H6⟩
        case pos =>
          have hsE := HW.out.over hov
          subst hsE
          obtain ⟨hn1, hn2⟩ : s.st ≠ 1 ∧ s.st ≠ 2 := hov
          obtain ⟨st, hste⟩ : ∃ st, s.st = st := ⟨_, rfl⟩
          rw [hste] at c5 hn1 hn2
          have HSTE : Hid (s.st = st) := hste
          have hn1' : (st == 1) = false := by simpa using hn1
          have hn2' : (st == 2) = false := by simpa using hn2
          clear hste
          obtain ⟨wo, hwo⟩ : ∃ wo, wo = wr := ⟨_, rfl⟩
          subst hwo
          have oE := OwnTxts.empty wo.heap.size wo (Nat.le_refl _)
          have bE : Below wo.heap.size wo (wo.alloc (.cells #[] 9)) := (Below.refl _ wo).alloc (Nat.le_refl _) _
          have HOE : Hid (OwnTxts wo.heap.size (wo.alloc (.cells #[] 9)) (.slice (some ⟨wo.heap.size, 0, none⟩) 0 0) []) := oE
          have HBE : Hid (Below wo.heap.size wo (wo.alloc (.cells #[] 9))) := bE
          clear oE bE
          go_wp2_with fail
          clear c5 c1
          go_loopw [13, 14] (fun i13 i14 wr => ∃ (k : Nat) (na : Option Addr) (nn nc : Nat), i14 = .int .i64 (k : Int) ∧ i13 = .slice na nn nc ∧ k ≤ l0.length ∧ OwnTxts wo.heap.size wr (.slice na nn nc) (((List.range k).filter (fun i => decide (isAt s i = 2))).map (nameAt l0)) ∧ Below wo.heap.size wo wr) (fun _ i14 _ => l0.length - (intOf i14).toNat)
          case atStart => exact ⟨0, _, _, _, rfl, rfl, by omega, HOE.out, HBE.out⟩
          case round =>
            obtain ⟨k, na, nn, nc, rfl, rfl, hk2, hown, hb⟩ := hrel
            have HOW : Hid (OwnTxts wo.heap.size wr (.slice na nn nc) (((List.range k).filter (fun i => decide (isAt s i = 2))).map (nameAt l0))) := hown
            have HBW : Hid (Below wo.heap.size wo wr) := hb
            have hR2 := HRR.out.go hb
            have c1 := hR2.blk.cell 1
            have c5 := hR2.blk.cell 5
            simp at c1 c5
            rw [HSTE.out] at c5
            clear hown hb
            by_cases hkn2 : k < l0.length
            case pos =>
              have hkn2' : (k : Int) < (l0.length : Int) := by omega
              have d1 := (hR2.isCell k hkn2).1
              obtain ⟨b, off, hbe, hbB, hst⟩ := hR2.stepCell
              simp only [Option.some.injEq, Addr.mk.injEq] at hbe
              obtain ⟨rfl, rfl, -⟩ := hbe
              have e1 := (hst k hkn2).1
              have htk := doneF_take l0 s k
              have hnn : nameAt l0 k = (stepOf l0 k).name := rfl
              rw [hnn] at htk
              obtain ⟨nm, hnm⟩ : ∃ nm, (stepOf l0 k).name = nm := ⟨_, rfl⟩
              rw [hnm] at e1 htk
              have hnl : (((List.range k).filter (fun i => decide (isAt s i = 2))).map (nameAt l0)).length ≤ 20 := by
                rw [List.length_map]
                exact Nat.le_trans (List.length_filter_le _ _) (by rw [List.length_range]; omega)
              obtain ⟨x1, hx1⟩ : ∃ x1, isAt s k = x1 := ⟨_, rfl⟩
              rw [hx1] at d1 htk
              clear hst hnm hnn hx1 hR2
              by_cases h2 : x1 = 2
              case pos =>
                subst h2
                rw [if_pos rfl] at htk
                obtain ⟨D, hD⟩ : ∃ D, ((List.range k).filter (fun i => decide (isAt s i = 2))).map (nameAt l0) = D := ⟨_, rfl⟩
                rw [hD] at HOW hnl htk
                have HTK : Hid (((List.range (k + 1)).filter (fun i => decide (isAt s i = 2))).map (nameAt l0) = D ++ [nm]) := htk
                clear htk hD
                have hsz := HBW.out.size
                go_wp2_with (at_builtin; go_must (refine wpList_appendTxts rfl (.tmp 114) (.tmp 120) rfl wo.heap.size (.slice na nn nc) D rfl (OwnTxts.below HOW.out ((Below.refl _ wr).alloc (Nat.le_refl _) _)) _ [nm] rfl (TxtsAt.newE _ nm _ (by simp)) (by simp; omega) (by simp only [World.size_alloc]; omega) ?_; intro v9 w9 hown9 hB9 hgr9 hnil9; obtain ⟨a9, c9, e9, -⟩ := hown9.value; obtain ⟨n9, hn9⟩ : ∃ n9, (D ++ [nm]).length = n9 := ⟨_, rfl⟩; rw [hn9] at e9; clear hn9; subst e9))
                refine ⟨⟨k + 1, a9, n9, c9, rfl, rfl, by omega, ?_, (HBW.out.alloc hsz _).trans hB9⟩, by simp [intOf]; omega⟩
                rw [HTK.out]; exact hown9
              case neg =>
                rw [if_neg h2, List.append_nil] at htk
                have HTK : Hid (((List.range (k + 1)).filter (fun i => decide (isAt s i = 2))).map (nameAt l0) = ((List.range k).filter (fun i => decide (isAt s i = 2))).map (nameAt l0)) := htk
                have h2' : (x1 == 2) = false := by simpa using h2
                clear htk hnl
                go_wp2_with fail
                refine ⟨⟨k + 1, na, nn, nc, rfl, rfl, by omega, ?_, HBW.out⟩, by simp [intOf]; omega⟩
                rw [HTK.out]; exact HOW.out
            case neg =>
              obtain rfl : k = l0.length := by omega
              have hkn2' : ¬ ((l0.length : Int) < (l0.length : Int)) := by omega
              clear hR2
              go_wp2_with fail
              go_ret3
              have hRe := HRF.out
              rw [HSTE.out] at hRe
              subst hRe
              have hxo := Nat.le_trans HRR.out.base HRR.out.bel.size
              refine ⟨⟨_, rfl, OwnTxts.mono HOW.out (Nat.le_trans HZR.out hxo)⟩, ?_⟩
              exact (HBR.out.trans (HRR.out.bel.mono HZR.out)).trans (HBW.out.mono (Nat.le_trans HZR.out hxo))
end Go.Proofs.YthgliancmmnjgaaGreatDoor

namespace Go.Proofs.YthgliancmmnjgaaGreatDoor
open Go.ChangeShapes Go.WideShapes Go.ChangeAt Go.RowKit
set_option linter.unusedVariables false
set_option linter.unusedSimpArgs false

section
variable {S : Nat → Prop} {B : Nat} {l : List Step} {a : Option Addr} {cap g gp : Nat} {rv : Value} {reps : List Int} {dv cv : Value} {w0 w : World} {s : Sg}
/-- A text that is no step's name. -/
def noStep (l : List Step) (t : ByteArray) : Bool := decide (findI (names l) t < 0)
set_option maxRecDepth 100000 in
theorem implNoStep (h : RunI S B l a cap g gp rv reps dv cv w0 w s) (t : ByteArray) (gx : Nat) (hg : w.cell? ⟨gx, 0, none⟩ = some (.pointer (some ⟨g, 0, none⟩))) :
    Calls Tryz.prog 34 #[.string t, .pointer (some ⟨gx, 0, none⟩)] w fun e w' => e = .returned (.bool (noStep l t)) ∧ Below w.heap.size w w' := by
  have cf := implFind h t
  unfold noStep
  obtain ⟨fi, hfi⟩ : ∃ fi, findI (names l) t = fi := ⟨_, rfl⟩
  rw [hfi] at cf ⊢
  clear h hfi
  go_enter Tryz.func34, Tryz.ntmps34
  go_wp2_with (go_at_call 35; go_must (refine cf.mono ?_; rintro e w1 ⟨rfl, hb1⟩))
  go_ret
  exact ⟨rfl, hb1⟩
set_option maxRecDepth 100000 in
set_option maxHeartbeats 2000000 in
theorem implIndexT (h : RunI S B l a cap g gp rv reps dv cv w0 w s) (ss : List ByteArray) (a2 : Option Addr) (cap2 gx : Nat) (hlen : ss.length ≤ 2000000) (hc2 : TxtsIn w a2 ss) (hg : w.cell? ⟨gx, 0, none⟩ = some (.pointer (some ⟨g, 0, none⟩))) (hgl : gx < w.heap.size) :
    Calls Tryz.prog 54 #[.slice a2 ss.length cap2, .func (.func 34) #[] #[.pointer (some ⟨gx, 0, none⟩)]] w fun e w' => (∃ r : Int, e = .returned (.int .i64 r) ∧ decide (0 ≤ r) = ss.any (noStep l)) ∧ Below w.heap.size w w' := by
  have HC : Hid (TxtsIn w a2 ss) := hc2
  have HR : Hid (RunI S B l a cap g gp rv reps dv cv w0 w s) := h
  have HG : Hid (w.cell? ⟨gx, 0, none⟩ = some (.pointer (some ⟨g, 0, none⟩))) := hg
  have hlen' : (ss.length : Int) ≤ 2000000 := by omega
  clear h hc2 hg
  go_enter Tryz.func54, Tryz.ntmps54
  go_wp2_with fail
  go_loopw [8] (fun i8 wr => ∃ (k : Nat), i8 = .int .i64 (k : Int) ∧ k ≤ ss.length ∧ (ss.take k).any (noStep l) = false ∧ Below w.heap.size w wr) (fun i8 _ => ss.length - (intOf i8).toNat)
  case atStart => exact ⟨0, rfl, by omega, by simp, Below.refl _ _⟩
  case round =>
    obtain ⟨k, rfl, hk, hany, hb⟩ := hrel
    have HA : Hid ((ss.take k).any (noStep l) = false) := hany
    clear hany
    by_cases hkn : k < ss.length
    · have hkn' : (k : Int) < (ss.length : Int) := by omega
      obtain ⟨b, off, rfl, hg2, hcell⟩ := HC.out (by omega)
      have x1 := (hb.cell (p := ⟨b, off + k, none⟩) hg2).trans (hcell k hkn)
      have cx := implNoStep (HR.out.go hb) ss[k] gx ((hb.cell (p := ⟨gx, 0, none⟩) hgl).trans HG.out)
      obtain ⟨x, hx⟩ : ∃ x, ss[k] = x := ⟨_, rfl⟩
      have HX : Hid (ss[k] = x) := hx
      rw [hx] at x1 cx
      have HBW : Hid (Below w.heap.size w wr) := hb
      clear hx hcell hb
      obtain ⟨B1, hB1⟩ : ∃ B1, noStep l x = B1 := ⟨_, rfl⟩
      rw [hB1] at cx
      have HB1 : Hid (noStep l x = B1) := hB1
      clear hB1
      cases B1
      · go_wp2_with (go_at_call 34; go_must (refine cx.mono ?_; rintro e w1 ⟨rfl, hb1⟩))
        exact ⟨⟨k + 1, rfl, by omega, any_takeA ss _ k hkn HA.out (by rw [HX.out]; exact HB1.out), good_below HBW.out hb1⟩, by simp [intOf]; omega⟩
      · go_wp2_with (go_at_call 34; go_must (refine cx.mono ?_; rintro e w1 ⟨rfl, hb1⟩))
        go_ret
        refine ⟨⟨_, rfl, ?_⟩, good_below HBW.out hb1⟩
        rw [List.any_eq_true.2 ⟨ss[k], List.getElem_mem hkn, by rw [HX.out]; exact HB1.out⟩]
        simp
    · have hkn' : ¬ ((k : Int) < (ss.length : Int)) := by omega
      have hA := HA.out
      rw [List.take_of_length_le (by omega)] at hA
      go_wp2_with fail
      go_ret
      refine ⟨⟨_, rfl, ?_⟩, hb⟩
      first
        | (rw [hA]; rfl)
        | omega
set_option maxRecDepth 100000 in
theorem implContT (h : RunI S B l a cap g gp rv reps dv cv w0 w s) (ss : List ByteArray) (a2 : Option Addr) (cap2 gx : Nat) (hlen : ss.length ≤ 2000000) (hc2 : TxtsIn w a2 ss) (hg : w.cell? ⟨gx, 0, none⟩ = some (.pointer (some ⟨g, 0, none⟩))) (hgl : gx < w.heap.size) :
    Calls Tryz.prog 36 #[.slice a2 ss.length cap2, .func (.func 34) #[] #[.pointer (some ⟨gx, 0, none⟩)]] w fun e w' => e = .returned (.bool (ss.any (noStep l))) ∧ Below w.heap.size w w' := by
  have c := implIndexT h ss a2 cap2 gx hlen hc2 hg hgl
  clear h hc2 hg
  go_enter Tryz.func36, Tryz.ntmps36
  go_wp2_with (go_at_call 54; go_must (refine c.mono ?_; rintro e w1 ⟨⟨r, rfl, hr⟩, hb1⟩))
  go_ret
  refine ⟨congrArg (fun b => Ending.returned (Value.bool b)) ?_, hb1⟩
  rw [← hr]
theorem all_steps (l : List Step) (ss : List ByteArray) : (!ss.any (noStep l)) = ss.all (hasB (names l)) := by
  rw [List.not_any_eq_all_not]
  congr 1
  funext t
  rw [← findI_has]
  unfold noStep
  by_cases h : findI (names l) t < 0
  · rw [decide_eq_true h, decide_eq_false (by omega)]; rfl
  · rw [decide_eq_false h, decide_eq_true (by omega)]; rfl
set_option maxRecDepth 100000 in
theorem implAreSteps (h : RunI S B l a cap g gp rv reps dv cv w0 w s) (ss : List ByteArray) (a2 : Option Addr) (cap2 : Nat) (hlen : ss.length ≤ 2000000) (hc2 : TxtsIn w a2 ss) :
    Calls Tryz.prog 16 #[.pointer (some ⟨g, 0, none⟩), .slice a2 ss.length cap2] w fun e w' => e = .returned (.bool (ss.all (hasB (names l)))) ∧ Below w.heap.size w w' := by
  have hb : Below w.heap.size w (w.alloc (.cells #[.pointer (some ⟨g, 0, none⟩)] 49)) := (Below.refl _ w).alloc (Nat.le_refl _) _
  have kb : Blk (w.alloc (.cells #[.pointer (some ⟨g, 0, none⟩)] 49)) w.heap.size 49 #[.pointer (some ⟨g, 0, none⟩)] := heap_alloc_last w _
  have cc := implContT (h.go hb) ss a2 cap2 w.heap.size hlen (hc2.below hb) (kb.cell 0) kb.lt
  rw [← all_steps]
  obtain ⟨F, hF⟩ : ∃ F, ss.any (noStep l) = F := ⟨_, rfl⟩
  rw [hF] at cc ⊢
  have HB : Hid _ := hb
  clear h hc2 hb kb hF
  go_enter Tryz.func16, Tryz.ntmps16
  go_wp2_with (go_at_call 36; go_must (refine cc.mono ?_; rintro e w1 ⟨rfl, hb1⟩))
  go_ret
  exact ⟨rfl, good_below HB.out hb1⟩
set_option maxRecDepth 100000 in
set_option maxHeartbeats 2000000 in
theorem implIndexB (h : RunI S B l a cap g gp rv reps dv cv w0 w s) :
    Calls Tryz.prog 59 #[.slice (some ⟨gp, 0, none⟩) l.length l.length, .func (.func 60) #[] #[]] w fun e w' => (∃ r : Int, e = .returned (.int .i64 r) ∧ (busy s = true → r = (firstB s : Int))) ∧ Below w.heap.size w w' := by
  have HR : Hid (RunI S B l a cap g gp rv reps dv cv w0 w s) := h
  have hl : l.length ≤ 20 := h.saga.len.2
  have hl' : (l.length : Int) ≤ 20 := by omega
  have hil := h.ok.il
  have HIL : Hid (s.is.length = l.length) := hil
  clear h hil
  go_enter Tryz.func59, Tryz.ntmps59
  go_wp2_with fail
  go_loopw [8] (fun i8 wr => ∃ (k : Nat), i8 = .int .i64 (k : Int) ∧ k ≤ l.length ∧ (s.is.take k).any (fun y => decide (y = 1) || decide (y = 3)) = false ∧ Below w.heap.size w wr) (fun i8 _ => l.length - (intOf i8).toNat)
  case atStart => exact ⟨0, rfl, by omega, by simp, Below.refl _ _⟩
  case round =>
    obtain ⟨k, rfl, hk, hany, hb⟩ := hrel
    have HA : Hid ((s.is.take k).any (fun y => decide (y = 1) || decide (y = 3)) = false) := hany
    clear hany
    by_cases hkn : k < l.length
    · have hkn' : (k : Int) < (l.length : Int) := by omega
      have hR := HR.out.go hb
      have d1 := (hR.isCell k hkn).1
      have d2 := (hR.trCell k hkn).1
      have hks : k < s.is.length := by rw [HIL.out]; exact hkn
      have hie := isAt_eq hks
      obtain ⟨x, hx⟩ : ∃ x, isAt s k = x := ⟨_, rfl⟩
      obtain ⟨y, hy⟩ : ∃ y, trAt s k = y := ⟨_, rfl⟩
      rw [hx] at d1 hie
      rw [hy] at d2
      have cx := implBusy1 x y wr
      have HX : Hid (x = s.is[k]) := hie
      have HBW : Hid (Below w.heap.size w wr) := hb
      clear hx hy hR hb hie
      obtain ⟨B1, hB1⟩ : ∃ B1, (decide (x = 1) || decide (x = 3)) = B1 := ⟨_, rfl⟩
      rw [hB1] at cx
      have HB1 : Hid ((decide (x = 1) || decide (x = 3)) = B1) := hB1
      clear hB1
      cases B1
      · go_wp2_with (go_at_call 60; go_must (refine cx.mono ?_; rintro e w1 ⟨rfl, hb1⟩))
        exact ⟨⟨k + 1, rfl, by omega, any_takeA s.is _ k hks HA.out (by rw [← HX.out]; exact HB1.out), good_below HBW.out hb1⟩, by simp [intOf]; omega⟩
      · go_wp2_with (go_at_call 60; go_must (refine cx.mono ?_; rintro e w1 ⟨rfl, hb1⟩))
        go_ret
        refine ⟨⟨_, rfl, ?_⟩, good_below HBW.out hb1⟩
        intro _
        have he : firstB s = k := by
          unfold firstB
          rw [List.findIdx_eq hks]
          refine ⟨by unfold isBusy; rw [← HX.out]; exact HB1.out, fun j hj => ?_⟩
          have h9 := HA.out
          rw [List.any_eq_false] at h9
          have := h9 s.is[j] (List.mem_take_iff_getElem.2 ⟨j, by omega, rfl⟩)
          unfold isBusy
          simpa using this
        rw [he]
    · have hkn' : ¬ ((k : Int) < (l.length : Int)) := by omega
      have hA := HA.out
      rw [List.take_of_length_le (by rw [HIL.out]; omega)] at hA
      go_wp2_with fail
      go_ret
      refine ⟨⟨_, rfl, fun hbz => ?_⟩, hb⟩
      rw [busy_any, hA] at hbz
      cases hbz
set_option maxRecDepth 100000 in
theorem implFirstB (h : RunI S B l a cap g gp rv reps dv cv w0 w s) :
    Calls Tryz.prog 38 #[.pointer (some ⟨g, 0, none⟩)] w fun e w' => (∃ r : Int, e = .returned (.int .i64 r) ∧ (busy s = true → r = (firstB s : Int))) ∧ Below w.heap.size w w' := by
  have c := implIndexB h
  have c2 := h.blk.cell 2
  simp at c2
  clear h
  go_enter Tryz.func38, Tryz.ntmps38
  go_wp2_with (go_at_call 59; go_must (refine c.mono ?_; rintro e w1 ⟨⟨r, rfl, hr⟩, hb1⟩))
  go_ret
  exact ⟨⟨r, rfl, hr⟩, hb1⟩
end
end Go.Proofs.YthgliancmmnjgaaGreatDoor

namespace Go.Proofs.YthgliancmmnjgaaGreatDoor
open Go.ChangeShapes Go.WideShapes Go.ChangeAt Go.RowKit
set_option linter.unusedVariables false
set_option linter.unusedSimpArgs false

section
variable {S : Nat → Prop} {B : Nat} {l : List Step} {a : Option Addr} {cap g gp : Nat} {rv : Value} {reps : List Int} {dv cv : Value} {w0 w : World} {s : Sg}
def ansV (m : Msg) : Value := .agg #[.string m.step, .int .i64 m.kind]
set_option maxRecDepth 100000 in
set_option maxHeartbeats 4000000 in
theorem implNext (h : RunI S B l a cap g gp rv reps dv cv w0 w s) (hbz : busy s = true) (f u : List ByteArray) (af au : Option Addr) (cf cu : Nat) (hlf : f.length ≤ 2000000) (hlu : u.length ≤ 2000000) (hcf : TxtsIn w af f) (hcu : TxtsIn w au u) :
    Calls Tryz.prog 19 #[.pointer (some ⟨g, 0, none⟩), .slice af f.length cf, .slice au u.length cu] w fun e w' => e = .returned (.agg #[.string (ansM l s f u (firstB s)).step, .int .i64 (ansM l s f u (firstB s)).kind]) ∧ Below w.heap.size w w' := by
  have hl : l.length ≤ 20 := h.saga.len.2
  have hl' : (l.length : Int) ≤ 20 := by omega
  obtain ⟨hlt, hor⟩ := first_lt hbz
  rw [h.ok.il] at hlt
  have bA : Below w.heap.size w (w.alloc (.cells #[.string ⟨#[]⟩, .int .i64 0] 40)) := (Below.refl _ w).alloc (Nat.le_refl _) _
  have kA : Blk (w.alloc (.cells #[.string ⟨#[]⟩, .int .i64 0] 40)) w.heap.size 40 #[.string ⟨#[]⟩, .int .i64 0] := heap_alloc_last w _
  obtain ⟨x0, hx0⟩ : ∃ x0, w.heap.size = x0 := ⟨_, rfl⟩
  obtain ⟨wa, hwa⟩ : ∃ wa, w.alloc (.cells #[.string ⟨#[]⟩, .int .i64 0] 40) = wa := ⟨_, rfl⟩
  rw [hwa] at bA kA
  have cb := implFirstB (h.go bA)
  have HRA : Hid (RunI S B l a cap g gp rv reps dv cv w0 wa s) := h.go bA
  have HF : Hid (TxtsIn wa af f) := hcf.below bA
  have HU : Hid (TxtsIn wa au u) := hcu.below bA
  have HBA : Hid (Below w.heap.size w wa) := bA
  rw [hx0] at kA
  have HKA : Hid (Blk wa x0 40 #[.string ⟨#[]⟩, .int .i64 0]) := kA
  obtain ⟨j, hj⟩ : ∃ j, firstB s = j := ⟨_, rfl⟩
  have hans : ansM l s f u (firstB s) = ⟨nameAt l j, if isAt s j = 3 then (if hasB u (nameAt l j) then 4 else 3) else (if hasB f (nameAt l j) then 2 else 1)⟩ := by rw [hj]; rfl
  rw [hans]
  dsimp only
  rw [hj] at hlt hor
  simp only [hbz, hj, true_implies] at cb
  have hjl' : (j : Int) < (l.length : Int) := by omega
  obtain ⟨nm, hnm⟩ : ∃ nm, nameAt l j = nm := ⟨_, rfl⟩
  have hnm' : (stepOf l j).name = nm := hnm
  rw [hnm]
  obtain ⟨KD, hKD⟩ : ∃ KD : Int, (if isAt s j = 3 then (if hasB u nm then 4 else 3) else (if hasB f nm then 2 else 1)) = KD := ⟨_, rfl⟩
  rw [hKD]
  have HNM : Hid ((stepOf l j).name = nm) := hnm'
  have HKD : Hid ((if isAt s j = 3 then (if hasB u nm then 4 else 3) else (if hasB f nm then 2 else 1)) = KD) := hKD
  have HX0 : Hid (w.heap.size = x0) := hx0
  clear h hcf hcu bA kA hans hj hnm hnm' hKD hbz
  go_enter Tryz.func19, Tryz.ntmps19
  go_upto_region 2 with (go_at_call 38; go_must (refine cb.mono ?_; rintro e w1 ⟨⟨r, rfl, hr⟩, hb1⟩; subst hr))
  clear cb hwa hx0
  have H1 := HRA.out.go hb1
  obtain ⟨b, off, rfl, hbB, hst⟩ := H1.stepCell
  have e0 := (hst j hlt).1
  rw [HNM.out] at e0
  have c0 := H1.blk.cell 0
  have c2 := H1.blk.cell 2
  simp at c0 c2
  have d1 := (H1.isCell j hlt).1
  have kB := HKA.out.below hb1
  have r0 := kB.cell 0
  have r1 := kB.cell 1
  have f0 := kB.fro 0
  have f1 := kB.fro 1
  simp at r0 r1
  have hxb : Below x0 w w1 := by rw [← HX0.out]; exact good_below HBA.out hb1
  have fin : ∀ k : Int, Below x0 w ((w1.setCell ⟨x0, 0, none⟩ (.string nm)).setCell ⟨x0, 1, none⟩ (.int .i64 k)) := fun k => (hxb.setCell (p := ⟨x0, 0, none⟩) (Nat.le_refl _) _).setCell (p := ⟨x0, 1, none⟩) (Nat.le_refl _) _
  have cell : ∀ k : Int, ((w1.setCell ⟨x0, 0, none⟩ (.string nm)).setCell ⟨x0, 1, none⟩ (.int .i64 k)).cell? ⟨x0, 0, none⟩ = some (.string nm) ∧ ((w1.setCell ⟨x0, 0, none⟩ (.string nm)).setCell ⟨x0, 1, none⟩ (.int .i64 k)).cell? ⟨x0, 1, none⟩ = some (.int .i64 k) := fun k => by
    have hb := (kB.set 0 (.string nm)).set 1 (.int .i64 k)
    exact ⟨hb.cell 0, hb.cell 1⟩
  have HFIN : Hid (∀ k : Int, Below x0 w ((w1.setCell ⟨x0, 0, none⟩ (.string nm)).setCell ⟨x0, 1, none⟩ (.int .i64 k))) := fin
  have HCELL : Hid (∀ k : Int, ((w1.setCell ⟨x0, 0, none⟩ (.string nm)).setCell ⟨x0, 1, none⟩ (.int .i64 k)).cell? ⟨x0, 0, none⟩ = some (.string nm) ∧ ((w1.setCell ⟨x0, 0, none⟩ (.string nm)).setCell ⟨x0, 1, none⟩ (.int .i64 k)).cell? ⟨x0, 1, none⟩ = some (.int .i64 k)) := cell
  have chf := implHasS f nm af cf w1 hlf (HF.out.below hb1)
  have chu := implHasS u nm au cu w1 hlu (HU.out.below hb1)
  clear H1 hst kB hxb fin cell
  rcases hor with hi | hi
  · rw [hi] at d1
    have hkd := HKD.out
    rw [if_neg (by omega)] at hkd
    clear chu
    cases hh : hasB f nm
    all_goals
      rw [hh] at chf hkd
      simp at hkd
      subst hkd
      go_wp2_with (go_at_call 39; go_must (refine chf.mono ?_; rintro e w2 ⟨rfl, hq⟩; obtain rfl := hq.symm; clear hq))
      (try simp only [Exit.inBlock, Exit.then])
      first
        | (obtain ⟨u0, u1⟩ := HCELL.out 1; refine bodyPost_ret (v := .agg #[.string nm, .int .i64 1]) (by rw [results_cell1 Tryz.results19]; simp [go_sem, u0, u1]) rfl ?_; exact ⟨rfl, by rw [HX0.out]; exact HFIN.out 1⟩)
        | (obtain ⟨u0, u1⟩ := HCELL.out 2; refine bodyPost_ret (v := .agg #[.string nm, .int .i64 2]) (by rw [results_cell1 Tryz.results19]; simp [go_sem, u0, u1]) rfl ?_; exact ⟨rfl, by rw [HX0.out]; exact HFIN.out 2⟩)
        | (obtain ⟨u0, u1⟩ := HCELL.out 3; refine bodyPost_ret (v := .agg #[.string nm, .int .i64 3]) (by rw [results_cell1 Tryz.results19]; simp [go_sem, u0, u1]) rfl ?_; exact ⟨rfl, by rw [HX0.out]; exact HFIN.out 3⟩)
        | (obtain ⟨u0, u1⟩ := HCELL.out 4; refine bodyPost_ret (v := .agg #[.string nm, .int .i64 4]) (by rw [results_cell1 Tryz.results19]; simp [go_sem, u0, u1]) rfl ?_; exact ⟨rfl, by rw [HX0.out]; exact HFIN.out 4⟩)
  · rw [hi] at d1
    have hkd := HKD.out
    rw [if_pos hi] at hkd
    clear chf
    cases hh : hasB u nm
    all_goals
      rw [hh] at chu hkd
      simp at hkd
      subst hkd
      go_wp2_with (go_at_call 39; go_must (refine chu.mono ?_; rintro e w2 ⟨rfl, hq⟩; obtain rfl := hq.symm; clear hq))
      (try simp only [Exit.inBlock, Exit.then])
      first
        | (obtain ⟨u0, u1⟩ := HCELL.out 1; refine bodyPost_ret (v := .agg #[.string nm, .int .i64 1]) (by rw [results_cell1 Tryz.results19]; simp [go_sem, u0, u1]) rfl ?_; exact ⟨rfl, by rw [HX0.out]; exact HFIN.out 1⟩)
        | (obtain ⟨u0, u1⟩ := HCELL.out 2; refine bodyPost_ret (v := .agg #[.string nm, .int .i64 2]) (by rw [results_cell1 Tryz.results19]; simp [go_sem, u0, u1]) rfl ?_; exact ⟨rfl, by rw [HX0.out]; exact HFIN.out 2⟩)
        | (obtain ⟨u0, u1⟩ := HCELL.out 3; refine bodyPost_ret (v := .agg #[.string nm, .int .i64 3]) (by rw [results_cell1 Tryz.results19]; simp [go_sem, u0, u1]) rfl ?_; exact ⟨rfl, by rw [HX0.out]; exact HFIN.out 3⟩)
        | (obtain ⟨u0, u1⟩ := HCELL.out 4; refine bodyPost_ret (v := .agg #[.string nm, .int .i64 4]) (by rw [results_cell1 Tryz.results19]; simp [go_sem, u0, u1]) rfl ?_; exact ⟨rfl, by rw [HX0.out]; exact HFIN.out 4⟩)
end
end Go.Proofs.YthgliancmmnjgaaGreatDoor



namespace Go.Proofs.YthgliancmmnjgaaGreatDoor
open Go.ChangeShapes Go.WideShapes Go.ChangeAt Go.RowKit Go.Sort
set_option linter.unusedVariables false
set_option linter.unusedSimpArgs false

abbrev encI (x : Int) : Value := .int .i64 x
theorem numsRow_map (l : List Int) : NumsRow l = l.map encI := by
  unfold NumsRow NumsCells
  induction l with
  | nil => rfl
  | cons x l ih => rw [List.flatMap_cons, ih]; rfl
theorem holdsI {w : World} {g : Nat} {cur : Array Value} {e : TypeId} {ss : List Int} (hb : w.heap[g]? = some (.cells cur e (0, 0))) (ht : cur.toList.take ss.length = ss.map encI) : Holds (Value.int .i64) w g 0 ss.toArray := by
  intro j hj
  have hj' : j < ss.length := by simpa using hj
  refine ⟨?_, by simp [World.frozen?, hb]⟩
  have h1 : (cur.toList.take ss.length)[j]? = (ss.map encI)[j]? := by rw [ht]
  rw [List.getElem?_take_of_lt hj'] at h1
  simp only [World.cell?, hb, Nat.zero_add]
  simp only [Option.isSome_none, Bool.false_eq_true, if_false]
  rw [← Array.getElem?_toList, h1]
  simp [hj']
theorem heapI {w : World} {g n : Nat} {os : Array Obj} {cur : Array Value} {e : TypeId} {fr : Nat × Nat} (d : Array Int) (hb : w.heap[g]? = some (.cells cur e fr)) :
    (grow (putRow (Value.int .i64) (Sort.ahead w n) g 0 d) os).heap[g]? = some (.cells (putCells (Value.int .i64) 0 d cur) e fr) := by
  have hg : g < w.heap.size := (Array.getElem?_eq_some_iff.1 hb).1
  rw [heap_grow_old _ _ (by simpa using hg)]
  simp [putRow, mapBlock, Sort.ahead, Array.getElem?_modify, hb, onCells]
theorem grownI {w : World} {g n : Nat} {os : Array Obj} (d : Array Int) : w.grownBy (grow (putRow (Value.int .i64) (Sort.ahead w n) g 0 d) os) (some g) := by
  refine ⟨rfl, rfl, rfl, by simp, fun k hk hne => ?_⟩
  rw [heap_grow_old _ _ (by simpa using hk)]
  have : g ≠ k := fun e => hne (by rw [e])
  simp [putRow, mapBlock, Sort.ahead, Array.getElem?_modify, this]
theorem takeI (cur : Array Value) (ts : List Int) (h : ts.length ≤ cur.size) : (putCells (Value.int .i64) 0 ts.toArray cur).toList.take ts.length = ts.map encI := by
  apply List.ext_getElem?
  intro j
  by_cases hj : j < ts.length
  · rw [List.getElem?_take_of_lt hj, Array.getElem?_toList]
    simp [putCells, hj, show j < cur.size by omega]
  · rw [List.getElem?_take_eq_none (by omega), List.getElem?_eq_none (by simp; omega)]
theorem grown_refl' (w : World) (r : Option Nat) : w.grownBy w r := ⟨rfl, rfl, rfl, Nat.le_refl _, fun _ _ _ => rfl⟩
theorem implSortN {B : Nat} {w : World} {v : Value} {l : List Int} (h : OwnNums B w v l) (hl : l.length ≤ 1000000) :
    Calls Tryz.prog 20 #[v] w fun e w' => e = .returned (.tuple #[]) ∧ OwnNums B w' v (l.mergeSort fun x y => decide (x ≤ y)) ∧ w.grownBy w' v.ownBlock := by
  by_cases h0 : l = []
  · subst h0
    obtain ⟨a, cap, rfl, _⟩ := h.value
    refine (Tryz.slices_Sort_int_none a cap w).mono ?_
    rintro e w' ⟨rfl, rfl⟩
    exact ⟨rfl, by simpa using h, grown_refl' _ _⟩
  · rcases h.2 with ⟨_, hz⟩ | ⟨g, cap, cur, rfl, hB, hg, hn1, hn2, hn3, hn4⟩
    · exact absurd (List.length_eq_zero_iff.1 hz) h0
    have hgw := (Array.getElem?_eq_some_iff.1 hg).1
    have ht : cur.toList.take l.length = l.map encI := by
      rw [← numsRow_map]; simpa using hn4
    have c := Tryz.slices_Sort_int g 0 cap l w (holdsI hg ht) hgw (by omega)
    refine c.mono ?_
    rintro e w' ⟨rfl, n, os, rfl⟩
    obtain ⟨ts, hts⟩ : ∃ ts, (l.mergeSort fun x y => decide (x ≤ y)) = ts := ⟨_, rfl⟩
    have hlen : ts.length = l.length := by rw [← hts, List.length_mergeSort]
    rw [hts]
    refine ⟨rfl, ?_, grownI _⟩
    refine ⟨by rw [hlen, NumsRow_length, hlen], .inr ⟨g, cap, _, by rw [hlen], hB, heapI _ hg, by omega, hn2, by simp [putCells, hn3], ?_⟩⟩
    rw [numsRow_map, Nat.mul_one]
    exact takeI cur ts (by omega)
section
variable {S : Nat → Prop} {B : Nat} {l : List Step} {a : Option Addr} {cap g gp : Nat} {rv : Value} {reps : List Int} {dv cv : Value} {w0 w : World} {s : Sg}
/-- The done ones are in order now. -/
theorem RunI.sorted (h : RunI S B l a cap g gp rv reps dv cv w0 w s) (h2 : Ok2 l s) {w' : World} (hown : OwnNums B w' dv ((nums s.done).mergeSort fun x y => decide (x ≤ y))) (hgr : w.grownBy w' dv.ownBlock) : RunI S B l a cap g gp rv reps dv cv w0 w' { s with done := doneF l s } ∧ Below B w w' := by
  obtain ⟨cs, h1, hp⟩ := h.parts
  have hbk := h.blk.kept hgr (Ne.symm (h.done.off h.blk (by decide)))
  have h1' := h1.kept hgr (Ne.symm (h.done.off h1 (by decide)))
  have hc' : OwnCmds B w' cv s.cmds := h.cmds.kept hgr (rowApart h.cmds h.done (by decide))
  have hr' : OwnNums B w' rv reps := h.rps.kept hgr (by
    rcases h.dr with e | e
    · rw [e]
      cases rv.ownBlock with
      | none => exact .inl rfl
      | some x => right; simp
    · exact .inr (Ne.symm e))
  have hb : Below B w w' := by
    refine (Below.refl B w).grown hgr h.size ?_
    intro g0 hg0
    rcases h.done.2 with ⟨hv, _⟩ | ⟨g1, c1, cur, hv, hB, _⟩
    · rw [hv] at hg0; simp [Value.ownBlock] at hg0
    · rw [hv] at hg0; simp [Value.ownBlock] at hg0; omega
  rw [done_sorted h.ok h2] at hown
  exact ⟨⟨h.saga.below hb h.size, hbk, ⟨cs, h1', hp⟩, hown, hc', hr', h.dr, h.low, h.rng, h.ok.doneF, h.base, h.bel.trans hb⟩, hb⟩
theorem RunI.phi_one {dv' cv' : Value} {s' : Sg} (h : RunI S B l a cap g gp rv reps dv cv w0 w s) (h' : RunI S B l a cap g gp rv reps dv' cv' w0 w s') : phi l s = phi l s' := by
  refine phi_eq ?_ (fun i hi => ?_) (fun i hi => ?_)
  · have h1 := h.blk.cell 1
    have h2 := h'.blk.cell 1
    simp at h1 h2
    rw [h1] at h2
    simpa using h2
  · have h1 := (h.isCell i hi).1
    rw [(h'.isCell i hi).1] at h1
    simpa using h1.symm
  · have h1 := (h.trCell i hi).1
    rw [(h'.trCell i hi).1] at h1
    simpa using h1.symm
end
end Go.Proofs.YthgliancmmnjgaaGreatDoor
