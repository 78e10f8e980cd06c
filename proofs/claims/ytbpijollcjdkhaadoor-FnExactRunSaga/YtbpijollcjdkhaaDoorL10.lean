/-
  What the program's RunSaga answers. No statement of the seat is proved here.
-/
import Derived.Test.YtbpijollcjdkhaaDoorL9
import Derived.Test.YtbpijollcjdkhaaDoorK12
namespace Go.Proofs.YtbpijollcjdkhaaDoor
open Go.ChangeShapes Go.WideShapes Go.ChangeAt Go.RowKit
set_option linter.unusedVariables false
set_option linter.unusedSimpArgs false

theorem lastQ_normal {P : Program} {o : Oper} {Q : Exit → Act → World → Prop} {a : Act} {w : World} (h : o.wp P a w (fun a' w' => Q .normal a' w') Q) : lastQ P o Q .normal a w := h
set_option maxRecDepth 100000 in
set_option maxHeartbeats 16000000 in
theorem implRunSaga : RunSagaC 9 (Lib.Utf8Tabs 0 1) logF := by
  intro S l0 l1 v0 v1 w hS h0 hl0 hok hfull h1 hl1 hT
  obtain ⟨a0, cap0, rfl⟩ := h0.shape
  obtain ⟨a1, cap1, rfl⟩ := h1.shape
  have hl0' : (l0.length : Int) ≤ 1048576 := by omega
  have hl1' : (l1.length : Int) ≤ 1048576 := by omega
  have bA : Below w.heap.size w (w.alloc (.cells #[.int .i64 0, .int .i64 0, .slice none 0 0, .slice none 0 0, .slice none 0 0] 30)) := (Below.refl _ w).alloc (Nat.le_refl _) _
  have kA : Blk (w.alloc (.cells #[.int .i64 0, .int .i64 0, .slice none 0 0, .slice none 0 0, .slice none 0 0] 30)) w.heap.size 30 #[.int .i64 0, .int .i64 0, .slice none 0 0, .slice none 0 0, .slice none 0 0] := heap_alloc_last w _
  obtain ⟨wa, hwa⟩ : ∃ wa, w.alloc (.cells #[.int .i64 0, .int .i64 0, .slice none 0 0, .slice none 0 0, .slice none 0 0] 30) = wa := ⟨_, rfl⟩
  rw [hwa] at bA kA
  obtain ⟨x0, hx0⟩ : ∃ x0, w.heap.size = x0 := ⟨_, rfl⟩
  have sA : wa.heap.size = x0 + 1 := by rw [← hwa, ← hx0]; simp
  have bL : Below wa.heap.size wa (wa.alloc (.cells #[.int .i64 (l0.length : Int), .int .i64 (l1.length : Int)] 3)) := (Below.refl _ wa).alloc (Nat.le_refl _) _
  obtain ⟨t1, t2⟩ := two_newI wa (l0.length : Int) (l1.length : Int) wa.heap.size rfl
  have cl := implLong2 (l0.length : Int) (l1.length : Int) wa.heap.size _ t1 t2
  obtain ⟨wl, hwl⟩ : ∃ wl, wa.alloc (.cells #[.int .i64 (l0.length : Int), .int .i64 (l1.length : Int)] 3) = wl := ⟨_, rfl⟩
  rw [hwl] at bL cl
  have bB := good_below bA bL
  have kL := kA.below bL
  have hSl : ∀ b, S b → b < wl.heap.size := fun b hb => Nat.lt_of_lt_of_le (hS b hb) bB.size
  have h0' : StepsAt S wl (.slice a0 l0.length cap0) l0 := h0.keep (cells_below hS bB)
  have h1' : MsgsAt S wl (.slice a1 l1.length cap1) l1 := h1.keep (cells_below hS bB)
  have hfull' : StepsFull wl (.slice a0 l0.length cap0) l0 := StepsFull.keep hfull h0 (cells_below hS bB)
  have co := implSaga S l0 (.slice a0 l0.length cap0) wl hSl h0' hl0 hok hfull' (fun W hW => hT W (good_below bB hW))
  rw [hx0] at bA kA bB kL ⊢
  have sL : x0 < wl.heap.size := by have := bL.size; omega
  have HB : Hid (Below x0 w wl) := bB
  have HK : Hid (Blk wl x0 30 #[.int .i64 0, .int .i64 0, .slice none 0 0, .slice none 0 0, .slice none 0 0]) := kL
  have H0 : Hid (StepsAt S wl (.slice a0 l0.length cap0) l0) := h0'
  have H1 : Hid (MsgsAt S wl (.slice a1 l1.length cap1) l1) := h1'
  have HS : Hid (∀ b, S b → b < wl.heap.size) := hSl
  have HOK : Hid (∀ x ∈ l0, StepsOK 1048576 x) := hok
  have HSL : Hid (x0 < wl.heap.size) := sL
  obtain ⟨R, hR⟩ : ∃ R, logF l0 l1 = R := ⟨_, rfl⟩
  rw [hR]
  have HR : Hid (logF l0 l1 = R) := hR
  clear hS hfull h0 h1 hok hT hSl h0' h1' hfull' bA kA sA hR bL t1 t2 bB kL sL
  go_enter Tryd.func9, Tryd.ntmps9
  by_cases hlong : 4096 < l0.length ∨ 4096 < l1.length
  case pos =>
    have hRe : R = ⟨2, 0, [], [], []⟩ := by rw [← HR.out]; unfold logF; rw [if_pos hlong]
    subst hRe
    have hlb : (decide (4096 < (l0.length : Int)) || decide (4096 < (l1.length : Int))) = true := by
      rcases hlong with h | h
      · rw [decide_eq_true (by omega : (4096 : Int) < (l0.length : Int))]; rfl
      · rw [decide_eq_true (by omega : (4096 : Int) < (l1.length : Int)), Bool.or_true]
    rw [hlb] at cl
    clear co
    go_upto_region 2 with (go_at_call 24; go_must (refine cl.mono ?_; rintro e w2 ⟨rfl, hq⟩; obtain rfl := hq.symm; clear hq))
    have r0 := HK.out.cell 0
    have r1 := HK.out.cell 1
    have r2 := HK.out.cell 2
    have r3 := HK.out.cell 3
    have r4 := HK.out.cell 4
    have f0 := HK.out.fro 0
    have f1 := HK.out.fro 1
    have f2 := HK.out.fro 2
    have f3 := HK.out.fro 3
    have f4 := HK.out.fro 4
    simp at r0 r1 r2 r3 r4
    go_wp2_with fail
    obtain ⟨u0, u1, u2, u3, u4⟩ := set5_cells HK.out (.int .i64 2) (.int .i64 0) (.slice none 0 0) (.slice none 0 0) (.slice none 0 0)
    unfold set5 at u0 u1 u2 u3 u4
    (try simp only [Exit.inBlock, Exit.then])
    refine bodyPost_ret (v := .agg #[.int .i64 2, .int .i64 0, .slice none 0 0, .slice none 0 0, .slice none 0 0]) (by rw [results_cell1 Tryd.results9]; simp [go_sem, u0, u1, u2, u3, u4]) rfl ?_
    exact ⟨⟨_, rfl, OwnLog.bare _ _ 2⟩, set5_below (HB.out) (Nat.le_refl _) _ _ _ _ _⟩
  have hlb : (decide (4096 < (l0.length : Int)) || decide (4096 < (l1.length : Int))) = false := by
    rw [decide_eq_false (by omega : ¬ (4096 : Int) < (l0.length : Int)), decide_eq_false (by omega : ¬ (4096 : Int) < (l1.length : Int))]; rfl
  rw [hlb] at cl
  obtain ⟨F, hF⟩ : ∃ F, sagaB l0 = F := ⟨_, rfl⟩
  rw [hF] at co
  have HF : Hid (sagaB l0 = F) := hF
  have HNL : Hid (¬ (4096 < l0.length ∨ 4096 < l1.length)) := hlong
  clear hF hlb hlong
  cases F
  case false =>
    have hRe : R = ⟨1, 0, [], [], []⟩ := by rw [← HR.out]; unfold logF; rw [if_neg HNL.out, if_pos HF.out]
    subst hRe
    go_upto_region 4 with (first
      | (go_at_call 24; go_must (refine cl.mono ?_; rintro e w2 ⟨rfl, hq⟩; obtain rfl := hq.symm; clear hq))
      | (go_at_call 25; go_must (refine co.mono ?_; rintro e w1 ⟨rfl, hb1⟩)))
    have kB := HK.out.below hb1
    have r0 := kB.cell 0
    have r1 := kB.cell 1
    have r2 := kB.cell 2
    have r3 := kB.cell 3
    have r4 := kB.cell 4
    have f0 := kB.fro 0
    have f1 := kB.fro 1
    have f2 := kB.fro 2
    have f3 := kB.fro 3
    have f4 := kB.fro 4
    simp at r0 r1 r2 r3 r4
    go_wp2_with fail
    obtain ⟨u0, u1, u2, u3, u4⟩ := set5_cells kB (.int .i64 1) (.int .i64 0) (.slice none 0 0) (.slice none 0 0) (.slice none 0 0)
    unfold set5 at u0 u1 u2 u3 u4
    (try simp only [Exit.inBlock, Exit.then])
    refine bodyPost_ret (v := .agg #[.int .i64 1, .int .i64 0, .slice none 0 0, .slice none 0 0, .slice none 0 0]) (by rw [results_cell1 Tryd.results9]; simp [go_sem, u0, u1, u2, u3, u4]) rfl ?_
    exact ⟨⟨_, rfl, OwnLog.bare _ _ 1⟩, set5_below (HB.out.trans (hb1.mono (Nat.le_of_lt HSL.out))) (Nat.le_refl _) _ _ _ _ _⟩
  by_cases hmany : 300 < l1.length
  case pos =>
    have hmany' : (300 : Int) < (l1.length : Int) := by omega
    have hRe : R = ⟨10, 0, [], [], []⟩ := by rw [← HR.out]; unfold logF; rw [if_neg HNL.out, if_neg (by rw [HF.out]; simp), if_pos hmany]
    subst hRe
    go_upto_region 6 with (first
      | (go_at_call 24; go_must (refine cl.mono ?_; rintro e w2 ⟨rfl, hq⟩; obtain rfl := hq.symm; clear hq))
      | (go_at_call 25; go_must (refine co.mono ?_; rintro e w1 ⟨rfl, hb1⟩)))
    have kB := HK.out.below hb1
    have r0 := kB.cell 0
    have r1 := kB.cell 1
    have r2 := kB.cell 2
    have r3 := kB.cell 3
    have r4 := kB.cell 4
    have f0 := kB.fro 0
    have f1 := kB.fro 1
    have f2 := kB.fro 2
    have f3 := kB.fro 3
    have f4 := kB.fro 4
    simp at r0 r1 r2 r3 r4
    go_wp2_with fail
    obtain ⟨u0, u1, u2, u3, u4⟩ := set5_cells kB (.int .i64 10) (.int .i64 0) (.slice none 0 0) (.slice none 0 0) (.slice none 0 0)
    unfold set5 at u0 u1 u2 u3 u4
    (try simp only [Exit.inBlock, Exit.then])
    refine bodyPost_ret (v := .agg #[.int .i64 10, .int .i64 0, .slice none 0 0, .slice none 0 0, .slice none 0 0]) (by rw [results_cell1 Tryd.results9]; simp [go_sem, u0, u1, u2, u3, u4]) rfl ?_
    exact ⟨⟨_, rfl, OwnLog.bare _ _ 10⟩, set5_below (HB.out.trans (hb1.mono (Nat.le_of_lt HSL.out))) (Nat.le_refl _) _ _ _ _ _⟩
  have hmany' : ¬ ((300 : Int) < (l1.length : Int)) := by omega
  have hl3 : l1.length ≤ 300 := by omega
  have hRe : R = logOf l0 (hears l0 (beginS l0, []) l1) := by rw [← HR.out]; unfold logF; rw [if_neg HNL.out, if_neg (by rw [HF.out]; simp), if_neg hmany]
  have HRE : Hid (R = logOf l0 (hears l0 (beginS l0, []) l1)) := hRe
  clear hRe hmany
  go_upto_region 7 with (first
    | (go_at_call 24; go_must (refine cl.mono ?_; rintro e w2 ⟨rfl, hq⟩; obtain rfl := hq.symm; clear hq))
    | (go_at_call 25; go_must (refine co.mono ?_; rintro e w1 ⟨rfl, hb1⟩)))
  have hin : SagaIn S w1.heap.size w1 a0 cap0 l0 := saga_in (fun b hb => Nat.lt_of_lt_of_le (HS.out b hb) hb1.size) (H0.out.keep (cells_below HS.out hb1)) HOK.out HF.out
  have hms : MsgsAt S w1 (.slice a1 l1.length cap1) l1 := H1.out.keep (cells_below HS.out hb1)
  have hlen := hin.len
  have hlen' : (l0.length : Int) ≤ 20 := by omega
  have HIN : Hid (SagaIn S w1.heap.size w1 a0 cap0 l0) := hin
  have HMS : Hid (MsgsAt S w1 (.slice a1 l1.length cap1) l1) := hms
  have HB1 : Hid (Below x0 w w1) := HB.out.trans (hb1.mono (Nat.le_of_lt HSL.out))
  have HK1 : Hid (Blk w1 x0 30 #[.int .i64 0, .int .i64 0, .slice none 0 0, .slice none 0 0, .slice none 0 0]) := HK.out.below hb1
  have HX1 : Hid (x0 < w1.heap.size) := Nat.lt_of_lt_of_le HSL.out hb1.size
  have cb := implRunOf hin
  clear co cl hin hms HB HK H0 H1 HS HOK HSL hb1
  go_upto_region 8 with (go_at_call 26; go_must (refine cb.mono ?_; rintro e w2 ⟨g, gp, dv0, cv0, rfl, hrun⟩))
  clear cb
  have HR0 : Hid (RunI S w1.heap.size l0 a0 cap0 g gp (.slice none 0 0) [] dv0 cv0 w1 w2 (beginS l0)) := hrun
  clear hrun
  have hbc : (beginS l0).cmds.length ≤ 20 := by have := fwd_cmds l0 (zeroS l0); simp only [zeroS, List.length_nil] at this; unfold beginS; simp only [zeroS]; omega
  have HBC : Hid ((beginS l0).cmds.length ≤ 20) := hbc
  clear hbc
  go_wp2_with fail
  go_loopw [6, 8, 31] (fun i6 i8 i31 wr => ∃ (k : Nat) (dv cv : Value) (ra : Option Addr) (rn rc : Nat) (q : Sg × List Int), i31 = .int .i64 (k : Int) ∧ i6 = .slice ra rn rc ∧ k ≤ l1.length ∧ hears l0 (beginS l0, []) (l1.take k) = q ∧ q.2.length = k ∧ q.1.cmds.length ≤ 20 + k * 22 ∧ RunI S w1.heap.size l0 a0 cap0 g gp (.slice ra rn rc) q.2 dv cv w1 wr q.1) (fun _ _ i31 _ => l1.length - (intOf i31).toNat)
  case atStart => exact ⟨0, dv0, cv0, none, 0, 0, (beginS l0, []), rfl, rfl, by omega, by simp [hears], rfl, by have := HBC.out; simpa using this, HR0.out⟩
  case round =>
    obtain ⟨k, dv, cv, ra, rn, rc, q, rfl, rfl, hk, hq, hq2, hqc, hR⟩ := hrel
    have HQ : Hid (hears l0 (beginS l0, []) (l1.take k) = q) := hq
    have HQ2 : Hid (q.2.length = k) := hq2
    have HQC : Hid (q.1.cmds.length ≤ 20 + k * 22) := hqc
    have HRR : Hid (RunI S w1.heap.size l0 a0 cap0 g gp (.slice ra rn rc) q.2 dv cv w1 wr q.1) := hR
    clear hq hq2 hqc hR
    by_cases hkn : k < l1.length
    case pos =>
      have hkn' : (k : Int) < (l1.length : Int) := by omega
      obtain ⟨_, ma, mc, hmv, hmc⟩ := HMS.out
      simp only [Value.slice.injEq] at hmv
      obtain ⟨rfl, -, rfl⟩ := hmv
      obtain ⟨mb, mo, rfl, hmS, hmcell⟩ := hmc (by omega)
      have hmlt : mb < w1.heap.size := HIN.out.low mb hmS
      have m0 := (HRR.out.bel.cell (p := ⟨mb, mo + k * 2, none⟩) hmlt).trans (hmcell k hkn).1
      have m1 := (HRR.out.bel.cell (p := ⟨mb, mo + k * 2 + 1, none⟩) hmlt).trans (hmcell k hkn).2
      have htk := hears_take hkn HQ.out
      have hhc := hear_cmds HRR.out.ok HRR.out.saga.tries l1[k]
      obtain ⟨x, hx⟩ : ∃ x, l1[k] = x := ⟨_, rfl⟩
      rw [hx] at m0 m1 htk hhc
      obtain ⟨xs, xk⟩ := x
      dsimp only at m0 m1
      obtain ⟨c9, hc9⟩ : ∃ c, codeS l0 q.1 ⟨xs, xk⟩ = c := ⟨_, rfl⟩
      obtain ⟨s9, hs9⟩ : ∃ s, hearS l0 q.1 ⟨xs, xk⟩ = s := ⟨_, rfl⟩
      have cm := fun (W : World) (hW : Below wr.heap.size wr W) => implHear (HRR.out.go hW) xs xk (by have := HQC.out; omega)
      rw [hc9, hs9] at htk
      simp only [hc9, hs9] at cm
      rw [hs9] at hhc
      have HTK : Hid (hears l0 (beginS l0, []) (l1.take (k + 1)) = (s9, q.2 ++ [c9])) := htk
      have HHC : Hid (s9.cmds.length ≤ q.1.cmds.length + l0.length + 2) := hhc
      have hrl : q.2.length ≤ 1000 := by have := HQ2.out; omega
      clear hmc hmcell htk hx hc9 hs9 hhc
      go_upto_region 12 with fail
      have bx := (Below.refl wr.heap.size wr).alloc (Nat.le_refl _) (.cells #[.string xs, .int .i64 xk] 53)
      have cm' := cm _ bx
      clear cm m0 m1
      go_upto_region 13 with (first
        | (go_at_call 27; go_must (refine cm'.mono ?_; rintro e w3 ⟨rfl, dv3, cv3, H3⟩; have hwb : Below w3.heap.size w3 (w3.alloc (.cells #[.int .i64 c9] 3)) := (Below.refl _ w3).alloc (Nat.le_refl _) _; have H5 := H3.go hwb; clear H3))
        | (at_builtin; go_must (refine wpList_appendNumAt rfl (.tmp 35) (.tmp 39) rfl w1.heap.size (.slice ra rn rc) q.2 rfl H5.rps c9 rfl (NumsAt.newAt _ c9 _ (by simp)) (by omega) H5.size ?_; intro v9 w9 hown9 hB9 hgr9 hat9; obtain ⟨a9, k9, e9, -⟩ := hown9.value; obtain ⟨n9, hn9⟩ : ∃ n9, (q.2 ++ [c9]).length = n9 := ⟨_, rfl⟩; rw [hn9] at e9; clear hn9; subst e9; have H6 := H5.growR hown9 hB9 hgr9 hat9)))
      have HH6 : Hid (RunI S w1.heap.size l0 a0 cap0 g gp (.slice a9 n9 k9) (q.2 ++ [c9]) dv3 cv3 w1 w9 s9) := H6
      clear H5 H6 hown9 hB9 hgr9 hat9 hwb cm' bx
      go_wp2_with fail
      refine ⟨⟨k + 1, dv3, cv3, a9, n9, k9, (s9, q.2 ++ [c9]), rfl, rfl, by omega, HTK.out, by have := HQ2.out; simp; omega, by have := HHC.out; have := HQC.out; dsimp only; omega, HH6.out⟩, by simp [intOf]; omega⟩
    case neg =>
      obtain rfl : k = l1.length := by omega
      have hkn' : ¬ ((l1.length : Int) < (l1.length : Int)) := by omega
      have hq := HQ.out
      rw [List.take_length] at hq
      have hRq : R = logOf l0 q := by rw [HRE.out, hq]
      have HRQ : Hid (R = logOf l0 q) := hRq
      clear hq hRq
      obtain ⟨s, reps⟩ := q
      dsimp only at HRR
      obtain ⟨ca, cc, hcv, -⟩ := HRR.out.cmds.value
      obtain ⟨cn, hcn⟩ : ∃ cn, s.cmds.length = cn := ⟨_, rfl⟩
      rw [hcn] at hcv
      subst hcv
      have bD : Below wr.heap.size wr wr.drew := (Below.refl _ _).drew
      have cnm := implNames (HRR.out.go bD)
      have c1 := HRR.out.blk.cell 1
      have c3 := HRR.out.blk.cell 3
      have c4 := HRR.out.blk.cell 4
      simp at c1 c3 c4
      have KP : Hid (∀ W, Below wr.heap.size wr W → W.cell? ⟨g, 1, none⟩ = some (.int .i64 s.st) ∧ W.cell? ⟨g, 4, none⟩ = some (.slice ca cn cc) ∧ W.cell? ⟨g, 3, none⟩ = some dv) := fun W hW =>
        ⟨(hW.cell (World.block_lt_of_cell? _ _ c1)).trans c1, (hW.cell (World.block_lt_of_cell? _ _ c4)).trans c4, (hW.cell (World.block_lt_of_cell? _ _ c3)).trans c3⟩
      clear c1 c3 c4 hcn
      go_upto_region 14 with fail
      refine wp_region_last (S := (fun w' => w'.cell? ⟨g, 1, none⟩ = some (.int .i64 s.st) ∧ w'.cell? ⟨g, 4, none⟩ = some (.slice ca cn cc) ∧ w'.cell? ⟨g, 3, none⟩ = some dv)) 16 (by kernel_rfl) rfl (by kernel_rfl) (KP.out _ bD) (fun hHeld => ?_)
      simp only [List.take_succ_cons, List.take_zero]
      refine wpAnyH_take (i := 0) (v := ?_) rfl (by kernel_rfl) (by kernel_rfl) (by kernel_rfl) (fun _ _ _ h => h) (Or.inl ⟨by rfl, ?_⟩) (by assumption) ?_
      rotate_left 1
      · (intro w' hSw; (try dsimp only at hSw); go_simp; all_goals with_reducible rfl)
      (try simp only [Act.put, List.setIfInBounds_toArray, List.set_cons_zero, List.set_cons_succ])
      refine wpAnyH_take (i := 1) (v := ?_) rfl (by kernel_rfl) (by kernel_rfl) (by kernel_rfl) (fun _ _ _ h => h) (Or.inl ⟨by rfl, ?_⟩) (by assumption) ?_
      rotate_left 1
      · (intro w' hSw; (try dsimp only at hSw); go_simp; all_goals with_reducible rfl)
      (try simp only [Act.put, List.setIfInBounds_toArray, List.set_cons_zero, List.set_cons_succ])
      refine wpAnyH_take (i := 2) (v := ?_) rfl (by kernel_rfl) (by kernel_rfl) (by kernel_rfl) (fun _ _ _ h => h) (Or.inl ⟨by rfl, ?_⟩) (by assumption) ?_
      rotate_left 1
      · (intro w' hSw; (try dsimp only at hSw); go_simp; all_goals with_reducible rfl)
      (try simp only [Act.put, List.setIfInBounds_toArray, List.set_cons_zero, List.set_cons_succ])
      refine wpAnyH_take (i := 3) (v := ?_) rfl (by kernel_rfl) (by kernel_rfl) (by kernel_rfl) (fun _ _ _ h => h) (Or.inl ⟨by rfl, ?_⟩) (by assumption) ?_
      rotate_left 1
      · (intro w' hSw; (try dsimp only at hSw); go_simp; all_goals with_reducible rfl)
      (try simp only [Act.put, List.setIfInBounds_toArray, List.set_cons_zero, List.set_cons_succ])
      refine wpAnyH_take (i := 4) (v := ?_) rfl (by kernel_rfl) (by kernel_rfl) (by kernel_rfl) (fun _ _ _ h => h) (Or.inl ⟨by rfl, ?_⟩) (by assumption) ?_
      rotate_left 1
      · (intro w' hSw; (try dsimp only at hSw); go_simp; all_goals with_reducible rfl)
      (try simp only [Act.put, List.setIfInBounds_toArray, List.set_cons_zero, List.set_cons_succ])
      refine wpAnyH_take (i := 5) (v := ?_) rfl (by kernel_rfl) (by kernel_rfl) (by kernel_rfl) (fun _ _ _ h => h) (Or.inl ⟨by rfl, ?_⟩) (by assumption) ?_
      rotate_left 1
      · (intro w' hSw; (try dsimp only at hSw); go_simp; all_goals with_reducible rfl)
      (try simp only [Act.put, List.setIfInBounds_toArray, List.set_cons_zero, List.set_cons_succ])
      refine wpAnyH_take (i := 6) (v := ?_) rfl (by kernel_rfl) (by kernel_rfl) (by kernel_rfl) (fun _ _ _ h => h) (Or.inl ⟨by rfl, ?_⟩) (by assumption) ?_
      rotate_left 1
      · (intro w' hSw; (try dsimp only at hSw); go_simp; all_goals with_reducible rfl)
      (try simp only [Act.put, List.setIfInBounds_toArray, List.set_cons_zero, List.set_cons_succ])
      refine wpAnyH_take (i := 7) (v := ?_) rfl (by kernel_rfl) (by kernel_rfl) (by kernel_rfl) (fun _ _ _ h => h) (Or.inl ⟨by rfl, ?_⟩) (by assumption) ?_
      rotate_left 1
      · (intro w' hSw; (try dsimp only at hSw); go_simp; all_goals with_reducible rfl)
      (try simp only [Act.put, List.setIfInBounds_toArray, List.set_cons_zero, List.set_cons_succ])
      refine wpAnyH_take (i := 8) (v := ?_) rfl (by kernel_rfl) (by kernel_rfl) (by kernel_rfl) (fun _ _ _ h => h) (Or.inl ⟨by rfl, ?_⟩) (by assumption) ?_
      rotate_left 1
      · (intro w' hSw; (try dsimp only at hSw); go_simp; all_goals with_reducible rfl)
      (try simp only [Act.put, List.setIfInBounds_toArray, List.set_cons_zero, List.set_cons_succ])
      refine wpAnyH_take (i := 9) (v := ?_) rfl (by kernel_rfl) (by kernel_rfl) (by kernel_rfl) (fun _ _ _ h => h) (Or.inl ⟨by rfl, ?_⟩) (by assumption) ?_
      rotate_left 1
      · (intro w' hSw; (try dsimp only at hSw); go_simp; all_goals with_reducible rfl)
      (try simp only [Act.put, List.setIfInBounds_toArray, List.set_cons_zero, List.set_cons_succ])
      refine wpAnyH_take (i := 10) (v := ?_) rfl (by kernel_rfl) (by kernel_rfl) (by kernel_rfl) (fun _ _ _ h => h) (Or.inl ⟨by rfl, ?_⟩) (by assumption) ?_
      rotate_left 1
      · (intro w' hSw; (try dsimp only at hSw); go_simp; all_goals with_reducible rfl)
      (try simp only [Act.put, List.setIfInBounds_toArray, List.set_cons_zero, List.set_cons_succ])
      refine wpAnyH_take (i := 11) (v := ?_) rfl (by kernel_rfl) (by kernel_rfl) (by kernel_rfl) (fun _ _ _ h => h) (Or.inl ⟨by rfl, ?_⟩) (by assumption) ?_
      rotate_left 1
      · (intro w' hSw; (try dsimp only at hSw); go_simp; all_goals with_reducible rfl)
      (try simp only [Act.put, List.setIfInBounds_toArray, List.set_cons_zero, List.set_cons_succ])
      refine wpAnyH_take (i := 12) (v := ?_) rfl (by kernel_rfl) (by kernel_rfl) (by kernel_rfl) (fun _ _ _ h => h) (Or.inl ⟨by rfl, ?_⟩) (by assumption) ?_
      rotate_left 1
      · (intro w' hSw; (try dsimp only at hSw); go_simp; all_goals with_reducible rfl)
      (try simp only [Act.put, List.setIfInBounds_toArray, List.set_cons_zero, List.set_cons_succ])
      refine wpAnyH_take (i := 13) (v := ?_) rfl (by kernel_rfl) (by kernel_rfl) (by kernel_rfl) (fun _ _ _ h => h) (Or.inl ⟨by rfl, ?_⟩) (by assumption) ?_
      rotate_left 1
      · (intro w' hSw; (try dsimp only at hSw); go_simp; all_goals with_reducible rfl)
      (try simp only [Act.put, List.setIfInBounds_toArray, List.set_cons_zero, List.set_cons_succ])
      refine wpAnyH_ready (rs := [14]) (by kernel_rfl) (by simp) ?_
      refine AllReadyH.cons rfl (fun K hK => ?_) AllReadyH.nil
      refine step_callC rfl 28 _ (by kernel_rfl) cnm ?_
      rintro e w5 ⟨⟨na, nn, nc, rfl, hown5⟩, hb5⟩
      refine ⟨_, rfl, ?_⟩
      have hbz : Below wr.heap.size wr w5 := bD.trans hb5
      refine hK.out _ _ ?_ (fun hHeld => ?_)
      · exact KP.out _ hbz
      clear hK K
      (try simp only [Act.put, List.setIfInBounds_toArray, List.set_cons_zero, List.set_cons_succ])
      refine wpAnyH_take (i := 15) (v := ?_) rfl (by kernel_rfl) (by kernel_rfl) (by kernel_rfl) (fun _ _ _ h => h) (Or.inl ⟨by rfl, ?_⟩) (by assumption) ?_
      rotate_left 1
      · (intro w' hSw; (try dsimp only at hSw); go_simp; all_goals with_reducible rfl)
      (try simp only [Act.put, List.setIfInBounds_toArray, List.set_cons_zero, List.set_cons_succ])
      refine wpAnyH_done (by kernel_rfl) ?_ _
      have H9 := HRR.out.go hbz
      have kW := (H9.bel.block x0 HX1.out).trans HK1.out
      have HKW : Hid (Blk w5 x0 30 #[.int .i64 0, .int .i64 0, .slice none 0 0, .slice none 0 0, .slice none 0 0]) := kW
      have r0 := HKW.out.cell 0
      have r1 := HKW.out.cell 1
      have r2 := HKW.out.cell 2
      have r3 := HKW.out.cell 3
      have r4 := HKW.out.cell 4
      have f0 := HKW.out.fro 0
      have f1 := HKW.out.fro 1
      have f2 := HKW.out.fro 2
      have f3 := HKW.out.fro 3
      have f4 := HKW.out.fro 4
      simp at r0 r1 r2 r3 r4
      have hx1 : x0 ≤ w1.heap.size := Nat.le_of_lt HX1.out
      have hxr : x0 ≤ wr.heap.size := Nat.le_trans hx1 HRR.out.size
      have hlg : OwnLog x0 w5 (.agg #[.int .i64 0, .int .i64 s.st, .slice ra rn rc, .slice ca cn cc, .slice na nn nc]) R := by
        rw [HRQ.out]
        exact ⟨_, _, _, rfl, OwnNums.mono H9.rps hx1, OwnCmds.mono H9.cmds hx1, OwnTxts.mono hown5 hxr⟩
      have hbel : Below x0 w w5 := HB1.out.trans (H9.bel.mono hx1)
      have HLG : Hid (OwnLog x0 w5 (.agg #[.int .i64 0, .int .i64 s.st, .slice ra rn rc, .slice ca cn cc, .slice na nn nc]) R) := hlg
      have HBEL : Hid (Below x0 w w5) := hbel
      clear H9 kW hlg hbel cnm hown5 hb5 hbz
      refine lastQ_normal ?_
      unfold Oper.wp
      go_simp
      go_wp2_with fail
      obtain ⟨u0, u1, u2, u3, u4⟩ := set5_cells HKW.out (.int .i64 0) (.int .i64 s.st) (.slice ra rn rc) (.slice ca cn cc) (.slice na nn nc)
      unfold set5 at u0 u1 u2 u3 u4
      (try simp only [Exit.inBlock, Exit.then])
      refine bodyPost_ret (v := .agg #[.int .i64 0, .int .i64 s.st, .slice ra rn rc, .slice ca cn cc, .slice na nn nc]) (by rw [results_cell1 Tryd.results9]; simp [go_sem, u0, u1, u2, u3, u4]) rfl ?_
      exact ⟨⟨_, rfl, set5_log HKW.out HLG.out _ _ _ _ _⟩, set5_below HBEL.out (Nat.le_refl _) _ _ _ _ _⟩
end Go.Proofs.YtbpijollcjdkhaaDoor
