/-
  What the program's RunSaga answers. The law's own functions on texts; rows of steps, commands and messages. The law on what is undone over a drawn saga and drawn messages: its walk. No statement of the seat is proved here.
-/
import Derived.Test.YtlnfobeedpbnmaaDoorZj7
import Derived.Deep.Cut
import Derived.Deep.CutRange
import Derived.Deep.CutBlock
namespace Go.Proofs.YtlnfobeedpbnmaaDoor
open Go.ChangeShapes Go.WideShapes Go.ChangeAt Go.RowKit
set_option linter.unusedVariables false
set_option linter.unusedSimpArgs false

theorem lastQ_normal {P : Program} {o : Oper} {Q : Exit → Act → World → Prop} {a : Act} {w : World} (h : o.wp P a w (fun a' w' => Q .normal a' w') Q) : lastQ P o Q .normal a w := h
set_option maxRecDepth 100000 in
set_option maxHeartbeats 16000000 in
theorem implRunSaga : RunSagaC 7 (Lib.Utf8Tabs 0 1) logF := by
  intro S l0 l1 v0 v1 w hS h0 hl0 hok hfull h1 hl1 hT
  obtain ⟨a0, cap0, rfl⟩ := h0.shape
  obtain ⟨a1, cap1, rfl⟩ := h1.shape
  have hl0' : (l0.length : Int) ≤ 1048576 := by omega
  have hl1' : (l1.length : Int) ≤ 1048576 := by omega
  have bA : Below w.heap.size w (w.alloc (.cells #[.int .i64 0, .int .i64 0, .slice none 0 0, .slice none 0 0, .slice none 0 0] 31)) := (Below.refl _ w).alloc (Nat.le_refl _) _
  have kA : Blk (w.alloc (.cells #[.int .i64 0, .int .i64 0, .slice none 0 0, .slice none 0 0, .slice none 0 0] 31)) w.heap.size 31 #[.int .i64 0, .int .i64 0, .slice none 0 0, .slice none 0 0, .slice none 0 0] := heap_alloc_last w _
  obtain ⟨wa, hwa⟩ : ∃ wa, w.alloc (.cells #[.int .i64 0, .int .i64 0, .slice none 0 0, .slice none 0 0, .slice none 0 0] 31) = wa := ⟨_, rfl⟩
  rw [hwa] at bA kA
  obtain ⟨x0, hx0⟩ : ∃ x0, w.heap.size = x0 := ⟨_, rfl⟩
  have sA : wa.heap.size = x0 + 1 := by rw [← hwa, ← hx0]; simp
  have bL : Below wa.heap.size wa (wa.alloc (.cells #[.int .i64 (l0.length : Int), .int .i64 (l1.length : Int)] 3)) := (Below.refl _ wa).alloc (Nat.le_refl _) _
  obtain ⟨t1, t2⟩ := two_newI wa (l0.length : Int) (l1.length : Int) wa.heap.size rfl
  have cl := implLong2 (l0.length : Int) (l1.length : Int) wa.heap.size _ t1 t2
  obtain ⟨wl, hwl⟩ : ∃ wl, wa.alloc (.cells #[.int .i64 (l0.length : Int), .int .i64 (l1.length : Int)] 3) = wl := ⟨_, rfl⟩
  rw [hwl] at bL cl
  have bB := good_below bA bL
  have kL := kA.below bL
  have hSl : ∀ b, S b → b < wl.heap.size := fun b hb => Nat.lt_of_lt_of_le (hS b hb) bB.size
  have h0' : StepsAt S wl (.slice a0 l0.length cap0) l0 := h0.keep (cells_below hS bB)
  have h1' : MsgsAt S wl (.slice a1 l1.length cap1) l1 := h1.keep (cells_below hS bB)
  have hfull' : StepsFull wl (.slice a0 l0.length cap0) l0 := StepsFull.keep hfull h0 (cells_below hS bB)
  have co := implSaga S l0 (.slice a0 l0.length cap0) wl hSl h0' hl0 hok hfull' (fun W hW => hT W (good_below bB hW))
  rw [hx0] at bA kA bB kL ⊢
  have sL : x0 < wl.heap.size := by have := bL.size; omega
  have HB : Hid (Below x0 w wl) := bB
  have HK : Hid (Blk wl x0 31 #[.int .i64 0, .int .i64 0, .slice none 0 0, .slice none 0 0, .slice none 0 0]) := kL
  have H0 : Hid (StepsAt S wl (.slice a0 l0.length cap0) l0) := h0'
  have H1 : Hid (MsgsAt S wl (.slice a1 l1.length cap1) l1) := h1'
  have HS : Hid (∀ b, S b → b < wl.heap.size) := hSl
  have HOK : Hid (∀ x ∈ l0, StepsOK 1048576 x) := hok
  have HSL : Hid (x0 < wl.heap.size) := sL
  obtain ⟨R, hR⟩ : ∃ R, logF l0 l1 = R := ⟨_, rfl⟩
  rw [hR]
  have HR : Hid (logF l0 l1 = R) := hR
  clear hS hfull h0 h1 hok hT hSl h0' h1' hfull' bA kA sA hR bL t1 t2 bB kL sL
  go_enter Tryd.func7, Tryd.ntmps7
  by_cases hlong : 4096 < l0.length ∨ 4096 < l1.length
  case pos =>
    have hRe : R = ⟨2, 0, [], [], []⟩ := by rw [← HR.out]; unfold logF; rw [if_pos hlong]
    subst hRe
    have hlb : (decide (4096 < (l0.length : Int)) || decide (4096 < (l1.length : Int))) = true := by
      rcases hlong with h | h
      · rw [decide_eq_true (by omega : (4096 : Int) < (l0.length : Int))]; rfl
      · rw [decide_eq_true (by omega : (4096 : Int) < (l1.length : Int)), Bool.or_true]
    rw [hlb] at cl
    clear co
    go_upto_region 2 with (go_at_call 19; go_must (refine cl.mono ?_; rintro e w2 ⟨rfl, hq⟩; obtain rfl := hq.symm; clear hq))
    have r0 := HK.out.cell 0
    have r1 := HK.out.cell 1
    have r2 := HK.out.cell 2
    have r3 := HK.out.cell 3
    have r4 := HK.out.cell 4
    have f0 := HK.out.fro 0
    have f1 := HK.out.fro 1
    have f2 := HK.out.fro 2
    have f3 := HK.out.fro 3
    have f4 := HK.out.fro 4
    simp at r0 r1 r2 r3 r4
    go_wp2_with fail
    obtain ⟨u0, u1, u2, u3, u4⟩ := set5_cells HK.out (.int .i64 2) (.int .i64 0) (.slice none 0 0) (.slice none 0 0) (.slice none 0 0)
    unfold set5 at u0 u1 u2 u3 u4
    (try simp only [Exit.inBlock, Exit.then])
    refine bodyPost_ret (v := .agg #[.int .i64 2, .int .i64 0, .slice none 0 0, .slice none 0 0, .slice none 0 0]) (by rw [results_cell1 Tryd.results7]; simp [go_sem, u0, u1, u2, u3, u4]) rfl ?_
    exact ⟨⟨_, rfl, OwnLog.bare _ _ 2⟩, set5_below (HB.out) (Nat.le_refl _) _ _ _ _ _⟩
  have hlb : (decide (4096 < (l0.length : Int)) || decide (4096 < (l1.length : Int))) = false := by
    rw [decide_eq_false (by omega : ¬ (4096 : Int) < (l0.length : Int)), decide_eq_false (by omega : ¬ (4096 : Int) < (l1.length : Int))]; rfl
  rw [hlb] at cl
  obtain ⟨F, hF⟩ : ∃ F, sagaB l0 = F := ⟨_, rfl⟩
  rw [hF] at co
  have HF : Hid (sagaB l0 = F) := hF
  have HNL : Hid (¬ (4096 < l0.length ∨ 4096 < l1.length)) := hlong
  clear hF hlb hlong
  cases F
  case false =>
    have hRe : R = ⟨1, 0, [], [], []⟩ := by rw [← HR.out]; unfold logF; rw [if_neg HNL.out, if_pos HF.out]
    subst hRe
    go_upto_region 4 with (first
      | (go_at_call 19; go_must (refine cl.mono ?_; rintro e w2 ⟨rfl, hq⟩; obtain rfl := hq.symm; clear hq))
      | (go_at_call 20; go_must (refine co.mono ?_; rintro e w1 ⟨rfl, hb1⟩)))
    have kB := HK.out.below hb1
    have r0 := kB.cell 0
    have r1 := kB.cell 1
    have r2 := kB.cell 2
    have r3 := kB.cell 3
    have r4 := kB.cell 4
    have f0 := kB.fro 0
    have f1 := kB.fro 1
    have f2 := kB.fro 2
    have f3 := kB.fro 3
    have f4 := kB.fro 4
    simp at r0 r1 r2 r3 r4
    go_wp2_with fail
    obtain ⟨u0, u1, u2, u3, u4⟩ := set5_cells kB (.int .i64 1) (.int .i64 0) (.slice none 0 0) (.slice none 0 0) (.slice none 0 0)
    unfold set5 at u0 u1 u2 u3 u4
    (try simp only [Exit.inBlock, Exit.then])
    refine bodyPost_ret (v := .agg #[.int .i64 1, .int .i64 0, .slice none 0 0, .slice none 0 0, .slice none 0 0]) (by rw [results_cell1 Tryd.results7]; simp [go_sem, u0, u1, u2, u3, u4]) rfl ?_
    exact ⟨⟨_, rfl, OwnLog.bare _ _ 1⟩, set5_below (HB.out.trans (hb1.mono (Nat.le_of_lt HSL.out))) (Nat.le_refl _) _ _ _ _ _⟩
  by_cases hmany : 300 < l1.length
  case pos =>
    have hmany' : (300 : Int) < (l1.length : Int) := by omega
    have hRe : R = ⟨10, 0, [], [], []⟩ := by rw [← HR.out]; unfold logF; rw [if_neg HNL.out, if_neg (by rw [HF.out]; simp), if_pos hmany]
    subst hRe
    go_upto_region 6 with (first
      | (go_at_call 19; go_must (refine cl.mono ?_; rintro e w2 ⟨rfl, hq⟩; obtain rfl := hq.symm; clear hq))
      | (go_at_call 20; go_must (refine co.mono ?_; rintro e w1 ⟨rfl, hb1⟩)))
    have kB := HK.out.below hb1
    have r0 := kB.cell 0
    have r1 := kB.cell 1
    have r2 := kB.cell 2
    have r3 := kB.cell 3
    have r4 := kB.cell 4
    have f0 := kB.fro 0
    have f1 := kB.fro 1
    have f2 := kB.fro 2
    have f3 := kB.fro 3
    have f4 := kB.fro 4
    simp at r0 r1 r2 r3 r4
    go_wp2_with fail
    obtain ⟨u0, u1, u2, u3, u4⟩ := set5_cells kB (.int .i64 10) (.int .i64 0) (.slice none 0 0) (.slice none 0 0) (.slice none 0 0)
    unfold set5 at u0 u1 u2 u3 u4
    (try simp only [Exit.inBlock, Exit.then])
    refine bodyPost_ret (v := .agg #[.int .i64 10, .int .i64 0, .slice none 0 0, .slice none 0 0, .slice none 0 0]) (by rw [results_cell1 Tryd.results7]; simp [go_sem, u0, u1, u2, u3, u4]) rfl ?_
    exact ⟨⟨_, rfl, OwnLog.bare _ _ 10⟩, set5_below (HB.out.trans (hb1.mono (Nat.le_of_lt HSL.out))) (Nat.le_refl _) _ _ _ _ _⟩
  have hmany' : ¬ ((300 : Int) < (l1.length : Int)) := by omega
  have hl3 : l1.length ≤ 300 := by omega
  have hRe : R = logOf l0 (hears l0 (beginS l0, []) l1) := by rw [← HR.out]; unfold logF; rw [if_neg HNL.out, if_neg (by rw [HF.out]; simp), if_neg hmany]
  have HRE : Hid (R = logOf l0 (hears l0 (beginS l0, []) l1)) := hRe
  clear hRe hmany
  go_upto_region 7 with (first
    | (go_at_call 19; go_must (refine cl.mono ?_; rintro e w2 ⟨rfl, hq⟩; obtain rfl := hq.symm; clear hq))
    | (go_at_call 20; go_must (refine co.mono ?_; rintro e w1 ⟨rfl, hb1⟩)))
  have hin : SagaIn S w1.heap.size w1 a0 cap0 l0 := saga_in (fun b hb => Nat.lt_of_lt_of_le (HS.out b hb) hb1.size) (H0.out.keep (cells_below HS.out hb1)) HOK.out HF.out
  have hms : MsgsAt S w1 (.slice a1 l1.length cap1) l1 := H1.out.keep (cells_below HS.out hb1)
  have hlen := hin.len
  have hlen' : (l0.length : Int) ≤ 20 := by omega
  have HIN : Hid (SagaIn S w1.heap.size w1 a0 cap0 l0) := hin
  have HMS : Hid (MsgsAt S w1 (.slice a1 l1.length cap1) l1) := hms
  have HB1 : Hid (Below x0 w w1) := HB.out.trans (hb1.mono (Nat.le_of_lt HSL.out))
  have HK1 : Hid (Blk w1 x0 31 #[.int .i64 0, .int .i64 0, .slice none 0 0, .slice none 0 0, .slice none 0 0]) := HK.out.below hb1
  have HX1 : Hid (x0 < w1.heap.size) := Nat.lt_of_lt_of_le HSL.out hb1.size
  have cb := implRunOf hin
  clear co cl hin hms HB HK H0 H1 HS HOK HSL hb1
  go_upto_region 8 with (go_at_call 21; go_must (refine cb.mono ?_; rintro e w2 ⟨g, gp, dv0, cv0, rfl, hrun⟩))
  clear cb
  have HR0 : Hid (RunI S w1.heap.size l0 a0 cap0 g gp (.slice none 0 0) [] dv0 cv0 w1 w2 (beginS l0)) := hrun
  clear hrun
  have hbc : (beginS l0).cmds.length ≤ 20 := by have := fwd_cmds l0 (zeroS l0); simp only [zeroS, List.length_nil] at this; unfold beginS; simp only [zeroS]; omega
  have HBC : Hid ((beginS l0).cmds.length ≤ 20) := hbc
  clear hbc
  go_wp2_with fail
  go_loopw [6, 8, 31] (fun i6 i8 i31 wr => ∃ (k : Nat) (dv cv : Value) (ra : Option Addr) (rn rc : Nat) (q : Sg × List Int), i31 = .int .i64 (k : Int) ∧ i6 = .slice ra rn rc ∧ k ≤ l1.length ∧ hears l0 (beginS l0, []) (l1.take k) = q ∧ q.2.length = k ∧ q.1.cmds.length ≤ 20 + k * 22 ∧ RunI S w1.heap.size l0 a0 cap0 g gp (.slice ra rn rc) q.2 dv cv w1 wr q.1) (fun _ _ i31 _ => l1.length - (intOf i31).toNat)
  case atStart => exact ⟨0, dv0, cv0, none, 0, 0, (beginS l0, []), rfl, rfl, by omega, by simp [hears], rfl, by have := HBC.out; simpa using this, HR0.out⟩
  case round =>
    obtain ⟨k, dv, cv, ra, rn, rc, q, rfl, rfl, hk, hq, hq2, hqc, hR⟩ := hrel
    have HQ : Hid (hears l0 (beginS l0, []) (l1.take k) = q) := hq
    have HQ2 : Hid (q.2.length = k) := hq2
    have HQC : Hid (q.1.cmds.length ≤ 20 + k * 22) := hqc
    have HRR : Hid (RunI S w1.heap.size l0 a0 cap0 g gp (.slice ra rn rc) q.2 dv cv w1 wr q.1) := hR
    clear hq hq2 hqc hR
    by_cases hkn : k < l1.length
    case pos =>
      have hkn' : (k : Int) < (l1.length : Int) := by omega
      obtain ⟨_, ma, mc, hmv, hmc⟩ := HMS.out
      simp only [Value.slice.injEq] at hmv
      obtain ⟨rfl, -, rfl⟩ := hmv
      obtain ⟨mb, mo, rfl, hmS, hmcell⟩ := hmc (by omega)
      have hmlt : mb < w1.heap.size := HIN.out.low mb hmS
      have m0 := (HRR.out.bel.cell (p := ⟨mb, mo + k * 2, none⟩) hmlt).trans (hmcell k hkn).1
      have m1 := (HRR.out.bel.cell (p := ⟨mb, mo + k * 2 + 1, none⟩) hmlt).trans (hmcell k hkn).2
      have htk := hears_take hkn HQ.out
      have hhc := hear_cmds HRR.out.ok HRR.out.saga.tries l1[k]
      obtain ⟨x, hx⟩ : ∃ x, l1[k] = x := ⟨_, rfl⟩
      rw [hx] at m0 m1 htk hhc
      obtain ⟨xs, xk⟩ := x
      dsimp only at m0 m1
      obtain ⟨c9, hc9⟩ : ∃ c, codeS l0 q.1 ⟨xs, xk⟩ = c := ⟨_, rfl⟩
      obtain ⟨s9, hs9⟩ : ∃ s, hearS l0 q.1 ⟨xs, xk⟩ = s := ⟨_, rfl⟩
      have cm := fun (W : World) (hW : Below wr.heap.size wr W) => implHear (HRR.out.go hW) xs xk (by have := HQC.out; omega)
      rw [hc9, hs9] at htk
      simp only [hc9, hs9] at cm
      rw [hs9] at hhc
      have HTK : Hid (hears l0 (beginS l0, []) (l1.take (k + 1)) = (s9, q.2 ++ [c9])) := htk
      have HHC : Hid (s9.cmds.length ≤ q.1.cmds.length + l0.length + 2) := hhc
      have hrl : q.2.length ≤ 1000 := by have := HQ2.out; omega
      clear hmc hmcell htk hx hc9 hs9 hhc
      go_upto_region 12 with fail
      have bx := (Below.refl wr.heap.size wr).alloc (Nat.le_refl _) (.cells #[.string xs, .int .i64 xk] 36)
      have cm' := cm _ bx
      clear cm m0 m1
      go_upto_region 13 with (first
        | (go_at_call 22; go_must (refine cm'.mono ?_; rintro e w3 ⟨rfl, dv3, cv3, H3⟩; have hwb : Below w3.heap.size w3 (w3.alloc (.cells #[.int .i64 c9] 3)) := (Below.refl _ w3).alloc (Nat.le_refl _) _; have H5 := H3.go hwb; clear H3))
        | (at_builtin; go_must (refine wpList_appendNumAt rfl (.tmp 35) (.tmp 39) rfl w1.heap.size (.slice ra rn rc) q.2 rfl H5.rps c9 rfl (NumsAt.newAt _ c9 _ (by simp)) (by omega) H5.size ?_; intro v9 w9 hown9 hB9 hgr9 hat9; obtain ⟨a9, k9, e9, -⟩ := hown9.value; obtain ⟨n9, hn9⟩ : ∃ n9, (q.2 ++ [c9]).length = n9 := ⟨_, rfl⟩; rw [hn9] at e9; clear hn9; subst e9; have H6 := H5.growR hown9 hB9 hgr9 hat9)))
      have HH6 : Hid (RunI S w1.heap.size l0 a0 cap0 g gp (.slice a9 n9 k9) (q.2 ++ [c9]) dv3 cv3 w1 w9 s9) := H6
      clear H5 H6 hown9 hB9 hgr9 hat9 hwb cm' bx
      go_wp2_with fail
      refine ⟨⟨k + 1, dv3, cv3, a9, n9, k9, (s9, q.2 ++ [c9]), rfl, rfl, by omega, HTK.out, by have := HQ2.out; simp; omega, by have := HHC.out; have := HQC.out; dsimp only; omega, HH6.out⟩, by simp [intOf]; omega⟩
    case neg =>
      obtain rfl : k = l1.length := by omega
      have hkn' : ¬ ((l1.length : Int) < (l1.length : Int)) := by omega
      have hq := HQ.out
      rw [List.take_length] at hq
      have hRq : R = logOf l0 q := by rw [HRE.out, hq]
      have HRQ : Hid (R = logOf l0 q) := hRq
      clear hq hRq
      obtain ⟨s, reps⟩ := q
      dsimp only at HRR
      obtain ⟨ca, cc, hcv, -⟩ := HRR.out.cmds.value
      obtain ⟨cn, hcn⟩ : ∃ cn, s.cmds.length = cn := ⟨_, rfl⟩
      rw [hcn] at hcv
      subst hcv
      have bD : Below wr.heap.size wr wr.drew := (Below.refl _ _).drew
      have cnm := implNames (HRR.out.go bD)
      have c1 := HRR.out.blk.cell 1
      have c3 := HRR.out.blk.cell 3
      have c4 := HRR.out.blk.cell 4
      simp at c1 c3 c4
      have KP : Hid (∀ W, Below wr.heap.size wr W → W.cell? ⟨g, 1, none⟩ = some (.int .i64 s.st) ∧ W.cell? ⟨g, 4, none⟩ = some (.slice ca cn cc) ∧ W.cell? ⟨g, 3, none⟩ = some dv) := fun W hW =>
        ⟨(hW.cell (World.block_lt_of_cell? _ _ c1)).trans c1, (hW.cell (World.block_lt_of_cell? _ _ c4)).trans c4, (hW.cell (World.block_lt_of_cell? _ _ c3)).trans c3⟩
      clear c1 c3 c4 hcn
      go_upto_region 14 with fail
      refine wp_region_last (S := (fun w' => w'.cell? ⟨g, 1, none⟩ = some (.int .i64 s.st) ∧ w'.cell? ⟨g, 4, none⟩ = some (.slice ca cn cc) ∧ w'.cell? ⟨g, 3, none⟩ = some dv)) 16 (by kernel_rfl) rfl (by kernel_rfl) (KP.out _ bD) (fun hHeld => ?_)
      simp only [List.take_succ_cons, List.take_zero]
      refine wpAnyH_take (i := 0) (v := ?_) rfl (by kernel_rfl) (by kernel_rfl) (by kernel_rfl) (fun _ _ _ h => h) (Or.inl ⟨by rfl, ?_⟩) (by assumption) ?_
      rotate_left 1
      · (intro w' hSw; (try dsimp only at hSw); go_simp; all_goals with_reducible rfl)
      (try simp only [Act.put, List.setIfInBounds_toArray, List.set_cons_zero, List.set_cons_succ])
      refine wpAnyH_take (i := 1) (v := ?_) rfl (by kernel_rfl) (by kernel_rfl) (by kernel_rfl) (fun _ _ _ h => h) (Or.inl ⟨by rfl, ?_⟩) (by assumption) ?_
      rotate_left 1
      · (intro w' hSw; (try dsimp only at hSw); go_simp; all_goals with_reducible rfl)
      (try simp only [Act.put, List.setIfInBounds_toArray, List.set_cons_zero, List.set_cons_succ])
      refine wpAnyH_take (i := 2) (v := ?_) rfl (by kernel_rfl) (by kernel_rfl) (by kernel_rfl) (fun _ _ _ h => h) (Or.inl ⟨by rfl, ?_⟩) (by assumption) ?_
      rotate_left 1
      · (intro w' hSw; (try dsimp only at hSw); go_simp; all_goals with_reducible rfl)
      (try simp only [Act.put, List.setIfInBounds_toArray, List.set_cons_zero, List.set_cons_succ])
      refine wpAnyH_take (i := 3) (v := ?_) rfl (by kernel_rfl) (by kernel_rfl) (by kernel_rfl) (fun _ _ _ h => h) (Or.inl ⟨by rfl, ?_⟩) (by assumption) ?_
      rotate_left 1
      · (intro w' hSw; (try dsimp only at hSw); go_simp; all_goals with_reducible rfl)
      (try simp only [Act.put, List.setIfInBounds_toArray, List.set_cons_zero, List.set_cons_succ])
      refine wpAnyH_take (i := 4) (v := ?_) rfl (by kernel_rfl) (by kernel_rfl) (by kernel_rfl) (fun _ _ _ h => h) (Or.inl ⟨by rfl, ?_⟩) (by assumption) ?_
      rotate_left 1
      · (intro w' hSw; (try dsimp only at hSw); go_simp; all_goals with_reducible rfl)
      (try simp only [Act.put, List.setIfInBounds_toArray, List.set_cons_zero, List.set_cons_succ])
      refine wpAnyH_take (i := 5) (v := ?_) rfl (by kernel_rfl) (by kernel_rfl) (by kernel_rfl) (fun _ _ _ h => h) (Or.inl ⟨by rfl, ?_⟩) (by assumption) ?_
      rotate_left 1
      · (intro w' hSw; (try dsimp only at hSw); go_simp; all_goals with_reducible rfl)
      (try simp only [Act.put, List.setIfInBounds_toArray, List.set_cons_zero, List.set_cons_succ])
      refine wpAnyH_take (i := 6) (v := ?_) rfl (by kernel_rfl) (by kernel_rfl) (by kernel_rfl) (fun _ _ _ h => h) (Or.inl ⟨by rfl, ?_⟩) (by assumption) ?_
      rotate_left 1
      · (intro w' hSw; (try dsimp only at hSw); go_simp; all_goals with_reducible rfl)
      (try simp only [Act.put, List.setIfInBounds_toArray, List.set_cons_zero, List.set_cons_succ])
      refine wpAnyH_take (i := 7) (v := ?_) rfl (by kernel_rfl) (by kernel_rfl) (by kernel_rfl) (fun _ _ _ h => h) (Or.inl ⟨by rfl, ?_⟩) (by assumption) ?_
      rotate_left 1
      · (intro w' hSw; (try dsimp only at hSw); go_simp; all_goals with_reducible rfl)
      (try simp only [Act.put, List.setIfInBounds_toArray, List.set_cons_zero, List.set_cons_succ])
      refine wpAnyH_take (i := 8) (v := ?_) rfl (by kernel_rfl) (by kernel_rfl) (by kernel_rfl) (fun _ _ _ h => h) (Or.inl ⟨by rfl, ?_⟩) (by assumption) ?_
      rotate_left 1
      · (intro w' hSw; (try dsimp only at hSw); go_simp; all_goals with_reducible rfl)
      (try simp only [Act.put, List.setIfInBounds_toArray, List.set_cons_zero, List.set_cons_succ])
      refine wpAnyH_take (i := 9) (v := ?_) rfl (by kernel_rfl) (by kernel_rfl) (by kernel_rfl) (fun _ _ _ h => h) (Or.inl ⟨by rfl, ?_⟩) (by assumption) ?_
      rotate_left 1
      · (intro w' hSw; (try dsimp only at hSw); go_simp; all_goals with_reducible rfl)
      (try simp only [Act.put, List.setIfInBounds_toArray, List.set_cons_zero, List.set_cons_succ])
      refine wpAnyH_take (i := 10) (v := ?_) rfl (by kernel_rfl) (by kernel_rfl) (by kernel_rfl) (fun _ _ _ h => h) (Or.inl ⟨by rfl, ?_⟩) (by assumption) ?_
      rotate_left 1
      · (intro w' hSw; (try dsimp only at hSw); go_simp; all_goals with_reducible rfl)
      (try simp only [Act.put, List.setIfInBounds_toArray, List.set_cons_zero, List.set_cons_succ])
      refine wpAnyH_take (i := 11) (v := ?_) rfl (by kernel_rfl) (by kernel_rfl) (by kernel_rfl) (fun _ _ _ h => h) (Or.inl ⟨by rfl, ?_⟩) (by assumption) ?_
      rotate_left 1
      · (intro w' hSw; (try dsimp only at hSw); go_simp; all_goals with_reducible rfl)
      (try simp only [Act.put, List.setIfInBounds_toArray, List.set_cons_zero, List.set_cons_succ])
      refine wpAnyH_take (i := 12) (v := ?_) rfl (by kernel_rfl) (by kernel_rfl) (by kernel_rfl) (fun _ _ _ h => h) (Or.inl ⟨by rfl, ?_⟩) (by assumption) ?_
      rotate_left 1
      · (intro w' hSw; (try dsimp only at hSw); go_simp; all_goals with_reducible rfl)
      (try simp only [Act.put, List.setIfInBounds_toArray, List.set_cons_zero, List.set_cons_succ])
      refine wpAnyH_take (i := 13) (v := ?_) rfl (by kernel_rfl) (by kernel_rfl) (by kernel_rfl) (fun _ _ _ h => h) (Or.inl ⟨by rfl, ?_⟩) (by assumption) ?_
      rotate_left 1
      · (intro w' hSw; (try dsimp only at hSw); go_simp; all_goals with_reducible rfl)
      (try simp only [Act.put, List.setIfInBounds_toArray, List.set_cons_zero, List.set_cons_succ])
      refine wpAnyH_ready (rs := [14]) (by kernel_rfl) (by simp) ?_
      refine AllReadyH.cons rfl (fun K hK => ?_) AllReadyH.nil
      refine step_callC rfl 23 _ (by kernel_rfl) cnm ?_
      rintro e w5 ⟨⟨na, nn, nc, rfl, hown5⟩, hb5⟩
      refine ⟨_, rfl, ?_⟩
      have hbz : Below wr.heap.size wr w5 := bD.trans hb5
      refine hK.out _ _ ?_ (fun hHeld => ?_)
      · exact KP.out _ hbz
      clear hK K
      (try simp only [Act.put, List.setIfInBounds_toArray, List.set_cons_zero, List.set_cons_succ])
      refine wpAnyH_take (i := 15) (v := ?_) rfl (by kernel_rfl) (by kernel_rfl) (by kernel_rfl) (fun _ _ _ h => h) (Or.inl ⟨by rfl, ?_⟩) (by assumption) ?_
      rotate_left 1
      · (intro w' hSw; (try dsimp only at hSw); go_simp; all_goals with_reducible rfl)
      (try simp only [Act.put, List.setIfInBounds_toArray, List.set_cons_zero, List.set_cons_succ])
      refine wpAnyH_done (by kernel_rfl) ?_ _
      have H9 := HRR.out.go hbz
      have kW := (H9.bel.block x0 HX1.out).trans HK1.out
      have HKW : Hid (Blk w5 x0 31 #[.int .i64 0, .int .i64 0, .slice none 0 0, .slice none 0 0, .slice none 0 0]) := kW
      have r0 := HKW.out.cell 0
      have r1 := HKW.out.cell 1
      have r2 := HKW.out.cell 2
      have r3 := HKW.out.cell 3
      have r4 := HKW.out.cell 4
      have f0 := HKW.out.fro 0
      have f1 := HKW.out.fro 1
      have f2 := HKW.out.fro 2
      have f3 := HKW.out.fro 3
      have f4 := HKW.out.fro 4
      simp at r0 r1 r2 r3 r4
      have hx1 : x0 ≤ w1.heap.size := Nat.le_of_lt HX1.out
      have hxr : x0 ≤ wr.heap.size := Nat.le_trans hx1 HRR.out.size
      have hlg : OwnLog x0 w5 (.agg #[.int .i64 0, .int .i64 s.st, .slice ra rn rc, .slice ca cn cc, .slice na nn nc]) R := by
        rw [HRQ.out]
        exact ⟨_, _, _, rfl, OwnNums.mono H9.rps hx1, OwnCmds.mono H9.cmds hx1, OwnTxts.mono hown5 hxr⟩
      have hbel : Below x0 w w5 := HB1.out.trans (H9.bel.mono hx1)
      have HLG : Hid (OwnLog x0 w5 (.agg #[.int .i64 0, .int .i64 s.st, .slice ra rn rc, .slice ca cn cc, .slice na nn nc]) R) := hlg
      have HBEL : Hid (Below x0 w w5) := hbel
      clear H9 kW hlg hbel cnm hown5 hb5 hbz
      refine lastQ_normal ?_
      unfold Oper.wp
      go_simp
      go_wp2_with fail
      obtain ⟨u0, u1, u2, u3, u4⟩ := set5_cells HKW.out (.int .i64 0) (.int .i64 s.st) (.slice ra rn rc) (.slice ca cn cc) (.slice na nn nc)
      unfold set5 at u0 u1 u2 u3 u4
      (try simp only [Exit.inBlock, Exit.then])
      refine bodyPost_ret (v := .agg #[.int .i64 0, .int .i64 s.st, .slice ra rn rc, .slice ca cn cc, .slice na nn nc]) (by rw [results_cell1 Tryd.results7]; simp [go_sem, u0, u1, u2, u3, u4]) rfl ?_
      exact ⟨⟨_, rfl, set5_log HKW.out HLG.out _ _ _ _ _⟩, set5_below HBEL.out (Nat.le_refl _) _ _ _ _ _⟩
end Go.Proofs.YtlnfobeedpbnmaaDoor

namespace Go.Proofs.YtlnfobeedpbnmaaDoor
open Go.ChangeShapes Go.WideShapes Go.ChangeAt Go.RowKit
set_option linter.unusedVariables false
set_option linter.unusedSimpArgs false

set_option maxRecDepth 100000 in
set_option maxHeartbeats 400000 in
theorem lawHas {S : Nat → Prop} {ss : List ByteArray} {v : Value} {w : World} (h : TxtsAt S w v ss) (hl : ss.length ≤ 1000000) (t : ByteArray) :
    Calls Tryd.prog 10 #[v, .string t] w fun e w' => e = .returned (.bool (hasB ss t)) ∧ w' = w := by
  obtain ⟨_, a, cap, rfl, hc⟩ := h
  have HC : Hid _ := hc
  have hl' : (ss.length : Int) ≤ 1000000 := by omega
  clear hc
  go_enter Tryd.func10, Tryd.ntmps10
  go_wp2
  go_loop [5] (fun i => ∃ k : Nat, k ≤ ss.length ∧ i = .int .i64 (k : Int) ∧ (ss.take k).any (fun x => x.toList == t.toList) = false) (fun i => ss.length - (intOf i).toNat)
  case atStart => exact ⟨0, by omega, rfl, rfl⟩
  case round =>
    obtain ⟨k, hk, rfl, h0⟩ := hrel
    have H0 : Hid ((ss.take k).any (fun x => x.toList == t.toList) = false) := h0
    clear h0
    by_cases hkn : k < ss.length
    · have hkn' : (k : Int) < (ss.length : Int) := by omega
      obtain ⟨g, off, rfl, _, hcell0⟩ := HC.out (by omega)
      have hcell := hcell0 k hkn
      clear hcell0
      obtain ⟨x, hx⟩ : ∃ x, ss[k] = x := ⟨_, rfl⟩
      rw [hx] at hcell
      have HX : Hid (ss[k] = x) := hx
      clear hx
      go_wp2
      · have h1 : (x.toList == t.toList) = true := by assumption
        go_ret
        refine ⟨?_, rfl⟩
        have : hasB ss t = true := any_hit ss _ k hkn (by rw [HX.out]; exact h1)
        rw [this]; rfl
      · have h1 : (x.toList == t.toList) = false := by assumption
        go_round
        case rel => exact ⟨k + 1, by omega, by go_num, any_take_succ ss _ k hkn H0 (by rw [HX.out]; exact h1)⟩
        case measure => simp [intOf]; omega
    · have hkn' : ¬ ((k : Int) < (ss.length : Int)) := by omega
      go_wp2
      go_ret
      refine ⟨?_, rfl⟩
      have : hasB ss t = false := by
        have h1 := H0.out
        rw [List.take_of_length_le (by omega)] at h1
        exact h1
      rw [this]; rfl

/-! The paths of what is merged are right. -/

set_option maxRecDepth 100000 in
set_option maxHeartbeats 1000000 in
theorem lawSame {S S' : Nat → Prop} {ss : List ByteArray} {v v' : Value} {w : World} (h : TxtsAt S w v ss) (h' : TxtsAt S' w v' ss) (hl : ss.length ≤ 1000000) :
    Calls Tryd.prog 9 #[v, v'] w fun e w' => e = .returned (.bool true) ∧ Below w.heap.size w w' := by
  obtain ⟨_, a, cap, rfl, hc⟩ := h
  obtain ⟨_, a', cap', rfl, hc'⟩ := h'
  have HC : Hid _ := hc
  have HC' : Hid _ := hc'
  have hl' : (ss.length : Int) ≤ 1000000 := by omega
  clear hc hc'
  go_enter Tryd.func9, Tryd.ntmps9
  go_wp2_with fail
  go_loopw [5] (fun i5 wr => ∃ k : Nat, k ≤ ss.length ∧ i5 = .int .i64 (k : Int) ∧ Below w.heap.size w wr) (fun i5 _ => ss.length - (intOf i5).toNat)
  case atStart => exact ⟨0, by omega, rfl, Below.refl _ _⟩
  case round =>
    obtain ⟨k, hk, rfl, hb⟩ := hrel
    by_cases hkn : k < ss.length
    · have hkn' : (k : Int) < (ss.length : Int) := by omega
      obtain ⟨g, off, rfl, hg, hcell0⟩ := HC.out (by omega)
      obtain ⟨g', off', rfl, hg', hcell0'⟩ := HC'.out (by omega)
      have x0 := hcell0 k hkn
      have y0 := hcell0' k hkn
      have hgl := cell_lt x0
      have hgl' := cell_lt y0
      replace x0 := (hb.cell (p := ⟨g, off + k, none⟩) hgl).trans x0
      replace y0 := (hb.cell (p := ⟨g', off' + k, none⟩) hgl').trans y0
      obtain ⟨x, hx⟩ : ∃ x, ss[k] = x := ⟨_, rfl⟩
      rw [hx] at x0 y0
      clear hx hcell0 hcell0' hgl hgl'
      go_wp2_with fail
      go_quiet (fail)
      go_wp2_with fail
      exact ⟨⟨k + 1, by omega, by go_num, bel_drewN hb _⟩, by simp [intOf]; omega⟩
    · obtain rfl : k = ss.length := by omega
      have hkn' : ¬ ((ss.length : Int) < (ss.length : Int)) := by omega
      go_wp2_with fail
      go_ret
      exact ⟨rfl, hb⟩

set_option maxRecDepth 100000 in
set_option maxHeartbeats 1000000 in
theorem lawInts {S S' : Nat → Prop} {ns : List Int} {v v' : Value} {w : World} (h : NumsAt S w v ns) (h' : NumsAt S' w v' ns) (hl : ns.length ≤ 1000000) :
    Calls Tryd.prog 8 #[v, v'] w fun e w' => e = .returned (.bool true) ∧ Below w.heap.size w w' := by
  obtain ⟨_, a, cap, rfl, hc⟩ := h
  obtain ⟨_, a', cap', rfl, hc'⟩ := h'
  have HC : Hid _ := hc
  have HC' : Hid _ := hc'
  have hl' : (ns.length : Int) ≤ 1000000 := by omega
  clear hc hc'
  go_enter Tryd.func8, Tryd.ntmps8
  go_wp2_with fail
  go_loopw [5] (fun i5 wr => ∃ k : Nat, k ≤ ns.length ∧ i5 = .int .i64 (k : Int) ∧ Below w.heap.size w wr) (fun i5 _ => ns.length - (intOf i5).toNat)
  case atStart => exact ⟨0, by omega, rfl, Below.refl _ _⟩
  case round =>
    obtain ⟨k, hk, rfl, hb⟩ := hrel
    by_cases hkn : k < ns.length
    · have hkn' : (k : Int) < (ns.length : Int) := by omega
      obtain ⟨g, off, rfl, hg, hcell0⟩ := HC.out (by omega)
      obtain ⟨g', off', rfl, hg', hcell0'⟩ := HC'.out (by omega)
      have x0 := hcell0 k hkn
      have y0 := hcell0' k hkn
      have hgl := cell_lt x0
      have hgl' := cell_lt y0
      replace x0 := (hb.cell (p := ⟨g, off + k, none⟩) hgl).trans x0
      replace y0 := (hb.cell (p := ⟨g', off' + k, none⟩) hgl').trans y0
      obtain ⟨x, hx⟩ : ∃ x, ns[k] = x := ⟨_, rfl⟩
      rw [hx] at x0 y0
      clear hx hcell0 hcell0' hgl hgl'
      go_wp2_with fail
      go_quiet (fail)
      go_wp2_with fail
      exact ⟨⟨k + 1, by omega, by go_num, bel_drewN hb _⟩, by simp [intOf]; omega⟩
    · obtain rfl : k = ns.length := by omega
      have hkn' : ¬ ((ns.length : Int) < (ns.length : Int)) := by omega
      go_wp2_with fail
      go_ret
      exact ⟨rfl, hb⟩

/-- The names of steps, read in any later world. -/
theorem step_row {w : World} {a : Option Addr} {n c : Nat} {l : List Step} (h : StepsAt (fun b => b < w.heap.size) w (.slice a n c) l) (h0 : 0 < l.length) : ∃ g off, a = some ⟨g, off, none⟩ ∧ g < w.heap.size ∧ ∀ wr, Below w.heap.size w wr → ∀ i (hi : i < l.length), wr.cell? ⟨g, off + i * 4, none⟩ = some (.string l[i].name) := by
  obtain ⟨_, a', cap, hv, hc⟩ := h
  simp only [Value.slice.injEq] at hv
  obtain ⟨rfl, -, rfl⟩ := hv
  obtain ⟨g, off, rfl, hg, hcell⟩ := hc h0
  exact ⟨g, off, rfl, hg, fun wr hb i hi => (hb.cell (p := ⟨g, off + i * 4, none⟩) hg).trans (hcell i hi).1⟩
theorem cmd_row {B : Nat} {w : World} {a : Option Addr} {n c : Nat} {l : List Cmd} (h : OwnCmds B w (.slice a n c) l) (h0 : 0 < l.length) : ∃ g, a = some ⟨g, 0, none⟩ ∧ g < w.heap.size ∧ ∀ i (hi : i < l.length), w.cell? ⟨g, i * 3, none⟩ = some (.int .i64 l[i].kind) ∧ w.cell? ⟨g, i * 3 + 1, none⟩ = some (.int .i64 l[i].try') ∧ w.cell? ⟨g, i * 3 + 2, none⟩ = some (.string l[i].step) := by
  obtain ⟨a', c', hv, -, hca⟩ := h.value
  simp only [Value.slice.injEq] at hv
  obtain ⟨rfl, -, rfl⟩ := hv
  obtain ⟨g, rfl, _, hg, hcell⟩ := hca h0
  exact ⟨g, rfl, hg, hcell⟩
theorem msg_row {B : Nat} {w : World} {a : Option Addr} {n c : Nat} {l : List Msg} (h : OwnMsgs B w (.slice a n c) l) (h0 : 0 < l.length) : ∃ g, a = some ⟨g, 0, none⟩ ∧ g < w.heap.size ∧ ∀ i (hi : i < l.length), w.cell? ⟨g, i * 2, none⟩ = some (.string l[i].step) ∧ w.cell? ⟨g, i * 2 + 1, none⟩ = some (.int .i64 l[i].kind) := by
  obtain ⟨a', c', hv, -, hca⟩ := h.value
  simp only [Value.slice.injEq] at hv
  obtain ⟨rfl, -, rfl⟩ := hv
  obtain ⟨g, rfl, _, hg, hcell⟩ := hca h0
  exact ⟨g, rfl, hg, hcell⟩
theorem num_row {B : Nat} {w : World} {a : Option Addr} {n c : Nat} {l : List Int} (h : OwnNums B w (.slice a n c) l) (h0 : 0 < l.length) : ∃ g, a = some ⟨g, 0, none⟩ ∧ g < w.heap.size ∧ ∀ i (hi : i < l.length), w.cell? ⟨g, i, none⟩ = some (.int .i64 l[i]) := by
  obtain ⟨a', c', hv, -, hca⟩ := h.value
  simp only [Value.slice.injEq] at hv
  obtain ⟨rfl, -, rfl⟩ := hv
  obtain ⟨g, rfl, _, hg, hcell⟩ := hca h0
  exact ⟨g, rfl, hg, hcell⟩
theorem log_saga {l : List Step} (h : GoodS l) {ms : List Msg} (hm : ms.length ≤ 100) : logF l ms = logOf l (hears l (beginS l, []) ms) := by
  unfold logF
  rw [if_neg (by have := h.2.2.2.1; omega), if_neg (by rw [h.1]; simp), if_neg (by omega)]
end Go.Proofs.YtlnfobeedpbnmaaDoor

namespace Go.Proofs.YtlnfobeedpbnmaaDoor
open Go.ChangeShapes Go.WideShapes Go.ChangeAt Go.RowKit
set_option linter.unusedVariables false
set_option linter.unusedSimpArgs false

theorem steps_full_row {w : World} {a : Option Addr} {n c : Nat} {l : List Step} (h : StepsAt (fun b => b < w.heap.size) w (.slice a n c) l) (h0 : 0 < l.length) : ∃ g off, a = some ⟨g, off, none⟩ ∧ g < w.heap.size ∧ ∀ wr, Below w.heap.size w wr → ∀ i (hi : i < l.length), wr.cell? ⟨g, off + i * 4, none⟩ = some (.string l[i].name) ∧ ∃ na nc, wr.cell? ⟨g, off + i * 4 + 1, none⟩ = some (.slice na l[i].needs.length nc) ∧ ∀ j (hj : j < l[i].needs.length), ∃ nb no, na = some ⟨nb, no, none⟩ ∧ wr.cell? ⟨nb, no + j, none⟩ = some (.string l[i].needs[j]) := by
  obtain ⟨_, a', cap, hv, hc⟩ := h
  simp only [Value.slice.injEq] at hv
  obtain ⟨rfl, -, rfl⟩ := hv
  obtain ⟨g, off, rfl, hg, hcell⟩ := hc h0
  refine ⟨g, off, rfl, hg, fun wr hb i hi => ?_⟩
  obtain ⟨c0, c2, c3, nv, c1, hn⟩ := hcell i hi
  obtain ⟨_, na, nc, rfl, hnc⟩ := hn
  refine ⟨(hb.cell (p := ⟨g, off + i * 4, none⟩) hg).trans c0, na, nc, (hb.cell (p := ⟨g, off + i * 4 + 1, none⟩) hg).trans c1, fun j hj => ?_⟩
  obtain ⟨nb, no, h1, h2, h3⟩ := hnc (by omega)
  exact ⟨nb, no, h1, (hb.cell (p := ⟨nb, no + j, none⟩) h2).trans (h3 j hj)⟩
theorem txt_row {B : Nat} {w : World} {a : Option Addr} {n c : Nat} {l : List ByteArray} (h : OwnTxts B w (.slice a n c) l) (h0 : 0 < l.length) : ∃ g, a = some ⟨g, 0, none⟩ ∧ g < w.heap.size ∧ ∀ i (hi : i < l.length), w.cell? ⟨g, i, none⟩ = some (.string l[i]) := by
  obtain ⟨a', c', hv, -, hca⟩ := h.value
  simp only [Value.slice.injEq] at hv
  obtain ⟨rfl, -, rfl⟩ := hv
  obtain ⟨g, rfl, _, hg, hcell⟩ := hca h0
  exact ⟨g, rfl, hg, hcell⟩
set_option maxRecDepth 100000 in
set_option maxHeartbeats 64000000 in
theorem undoneLaw (w : World) (a0 : Option Addr) (len0 cap0 : Nat) (a1 : Option Addr) (len1 cap1 : Nat)
    (hc0 : ∀ i, i < len0 → ∃ cb co, a0 = some ⟨cb, co, none⟩ ∧ cb < w.heap.size ∧ ∃ b : Nat, b < 256 ∧ w.cell? ⟨cb, co + i, none⟩ = some (.int .u8 b))
    (hc1 : ∀ i, i < len1 → ∃ cb co, a1 = some ⟨cb, co, none⟩ ∧ cb < w.heap.size ∧ ∃ b : Nat, b < 256 ∧ w.cell? ⟨cb, co + i, none⟩ = some (.int .u8 b)) (hT : ∀ W, Below w.heap.size w W → Lib.Utf8Tabs 0 1 W) :
    Calls Tryd.prog 3 #[.slice a0 len0 cap0, .slice a1 len1 cap1] w fun e w' => e = .returned (.bool true) ∧ Below w.heap.size w w' := by
  by_cases hb0 : 1048576 < len0
  · have hb0' : (1048576 : Int) < (len0 : Int) := by omega
    clear hc0 hc1 hT
    go_enter Tryd.func3, Tryd.ntmps3
    go_wp2_with fail
    go_ret
    exact ⟨rfl, Below.refl _ _⟩
  have hb0' : ¬ (1048576 : Int) < (len0 : Int) := by omega
  by_cases hb1 : 1048576 < len1
  · have hb1' : (1048576 : Int) < (len1 : Int) := by omega
    clear hc0 hc1 hT
    go_enter Tryd.func3, Tryd.ntmps3
    go_wp2_with fail
    go_ret
    exact ⟨rfl, Below.refl _ _⟩
  have hb1' : ¬ (1048576 : Int) < (len1 : Int) := by omega
  have c4 := drawSagaOf a0 len0 cap0 w (by omega) hc0
  have HC1 : Hid (∀ W, Below w.heap.size w W → ∀ i, i < len1 → ∃ cb co, a1 = some ⟨cb, co, none⟩ ∧ cb < W.heap.size ∧ ∃ b : Nat, b < 256 ∧ W.cell? ⟨cb, co + i, none⟩ = some (.int .u8 b)) := fun W hW j hj => by
    obtain ⟨cb, co, ha, hcb, b, hb, hcell⟩ := hc1 j hj
    exact ⟨cb, co, ha, Nat.lt_of_lt_of_le hcb hW.size, b, hb, (hW.cell (p := ⟨cb, co + j, none⟩) hcb).trans hcell⟩
  have HT : Hid (∀ W, Below w.heap.size w W → Lib.Utf8Tabs 0 1 W) := hT
  clear hc0 hc1 hT
  go_enter Tryd.func3, Tryd.ntmps3
  go_upto_region 4 with (go_at_call 4; go_must (refine c4.mono ?_; rintro e w1 ⟨⟨v0, l, rfl, hat, hfull, hgood⟩, hbw1⟩; obtain ⟨sa, sc, hv0⟩ := hat.shape; subst hv0))
  have hst : StepsAt (fun b => b < w1.heap.size) w1 (.slice sa l.length sc) l := hat.mono (fun b h => h.2)
  have HST : Hid (StepsAt (fun b => b < w1.heap.size) w1 (.slice sa l.length sc) l) := hst
  have HG : Hid (GoodS l) := hgood
  have HB1 : Hid (Below w.heap.size w w1) := hbw1
  have hl8 : l.length ≤ 8 := hgood.2.2.2.1
  have hl8' : (l.length : Int) ≤ 8 := by omega
  have hin := saga_in (fun b h => h) hst hgood.2.2.1 hgood.1
  have HND : Hid (∀ i (hi : i < l.length), ∀ t ∈ l[i].needs, 0 ≤ findI (names l) t) := hin.needs
  have hl0 : 0 < l.length := hin.len.1
  have HNL : Hid (∀ i (hi : i < l.length), l[i].needs.length ≤ 20) := fun i hi => by
    have hat : StepAt l i hi := Classical.byContradiction fun hn => by have := sagaB_not i hi hn; rw [hgood.1] at this; simp at this
    have h1 := hat.1
    unfold stepB0 at h1
    simp only [Bool.and_eq_true, decide_eq_true_eq] at h1
    exact h1.2
  obtain ⟨gs, os, rfl, hgs, hsr⟩ := steps_full_row hst hl0
  have HSR : Hid (∀ wr, Below w1.heap.size w1 wr → ∀ i (hi : i < l.length), wr.cell? ⟨gs, os + i * 4, none⟩ = some (.string l[i].name) ∧ ∃ na nc, wr.cell? ⟨gs, os + i * 4 + 1, none⟩ = some (.slice na l[i].needs.length nc) ∧ ∀ j (hj : j < l[i].needs.length), ∃ nb no, na = some ⟨nb, no, none⟩ ∧ wr.cell? ⟨nb, no + j, none⟩ = some (.string l[i].needs[j])) := hsr
  clear hsr
  have cm := drawMessagesOf (S := fun b => b < w1.heap.size) a1 len1 cap1 w1 (by omega) (HC1.out w1 hbw1) hgood (fun b h => h) hst hfull
  have HSP : Hid (∀ W, Below w1.heap.size w1 W → StepsAt (fun b => b < W.heap.size) W (.slice (some ⟨gs, os, none⟩) l.length sc) l) := fun W hW => (hst.keep (cells_below (fun b h => h) hW)).mono (fun b h => Nat.lt_of_lt_of_le h hW.size)
  have HFP : Hid (∀ W, Below w1.heap.size w1 W → StepsFull W (.slice (some ⟨gs, os, none⟩) l.length sc) l) := fun W hW => StepsFull.keep hfull hst (cells_below (fun b h => h) hW)
  clear hat hfull hgood hbw1 c4 hst hin HC1
  go_upto_region 5 with (go_at_call 5; go_must (refine cm.mono ?_; rintro e w2 ⟨⟨v1, ms, rfl, hms, hml⟩, hb2⟩; obtain ⟨ma, mc, hv1, -⟩ := hms.value; subst hv1))
  have HMS : Hid (OwnMsgs w1.heap.size w2 (.slice ma ms.length mc) ms) := hms
  have HB2 : Hid (Below w1.heap.size w1 w2) := hb2
  have hml' : (ms.length : Int) ≤ 43 := by omega
  have HMP : Hid (∀ W, Below w2.heap.size w2 W → MsgsAt (fun b => b < W.heap.size) W (.slice ma ms.length mc) ms) := fun W hW => (OwnMsgs.below hms hW).at.mono (fun b h => h.2)
  have cS := specRunSaga (fun _ => True) (fun b => b < w2.heap.size) l ms _ _ w2 (fun b h => h) (HSP.out w2 hb2) (by omega) HG.out.2.2.1 (HFP.out w2 hb2) (HMP.out w2 (Below.refl _ _)) (by omega) (fun _ _ => trivial)
  have hUA := und_all HG.out.1 (fun i hi => by have := HG.out.2.1 i hi; omega) ms.length ms rfl
  have hRL := hears_len l ms (beginS l, [])
  rw [log_saga HG.out (by omega)] at cS
  have HLG : Hid (logF l ms = logOf l (hears l (beginS l, []) ms)) := log_saga HG.out (by omega)
  unfold logOf at cS
  obtain ⟨⟨s, R⟩, hq⟩ : ∃ q, hears l (beginS l, []) ms = q := ⟨_, rfl⟩
  rw [hq] at cS hUA hRL
  have HQ : Hid (hears l (beginS l, []) ms = (s, R)) := hq
  dsimp only at cS hUA hRL
  simp only [List.length_nil, Nat.zero_add] at hRL
  have HRL : Hid (R.length = ms.length) := hRL
  have hR43 : (R.length : Int) ≤ 43 := by omega
  obtain ⟨hok, -, O, hU, hSN⟩ := hUA
  have HU : Hid (Und l s O) := hU
  have HSN : Hid (SameN l (ordT R ms) O) := hSN
  have hDL : (s.done.map (nameAt l)).length ≤ 8 := by rw [List.length_map]; have := done_len hok; omega
  have hCL : s.cmds.length ≤ 1000 := by
    have hgen : ∀ (n : Nat) (ms : List Msg), ms.length = n → Ok l (hears l (beginS l, []) ms).1 ∧ (hears l (beginS l, []) ms).1.cmds.length ≤ 20 + 10 * n := by
      intro n
      induction n with
      | zero =>
        intro ms hn
        obtain rfl : ms = [] := List.eq_nil_of_length_eq_zero hn
        refine ⟨Ok.begin l, ?_⟩
        have h1 := fwd_cmds l (zeroS l)
        simp only [zeroS, List.length_nil] at h1
        show (beginS l).cmds.length ≤ _
        unfold beginS
        simp only [zeroS]
        omega
      | succ n ih =>
        intro ms hn
        have hne : ms ≠ [] := fun e => by rw [e] at hn; simp at hn
        obtain ⟨a, m, rfl⟩ : ∃ a m, ms = a ++ [m] := ⟨ms.dropLast, ms.getLast hne, (List.dropLast_concat_getLast hne).symm⟩
        obtain ⟨h1, h2⟩ := ih a (by simpa using hn)
        rw [hears_append]
        have h3 := hear_cmds h1 (fun i hi => by have := HG.out.2.1 i hi; omega) m
        exact ⟨h1.hear (fun i hi => by have := HG.out.2.1 i hi; omega) m, by show (hearS l _ m).cmds.length ≤ _; omega⟩
    have := (hgen ms.length ms rfl).2
    rw [hq] at this
    dsimp only at this
    omega
  obtain ⟨A, U, pp, hCM, hA, hF, -⟩ := hU.cmds
  have HAU : Hid (∀ c ∈ A, DoOK l O c) := hA
  have HF : Hid (Falls l O U pp) := hF
  obtain ⟨SX, hSX⟩ : ∃ x, s.st = x := ⟨_, rfl⟩
  obtain ⟨CM, hCMe⟩ : ∃ x, s.cmds = x := ⟨_, rfl⟩
  obtain ⟨D, hD⟩ : ∃ x, s.done.map (nameAt l) = x := ⟨_, rfl⟩
  rw [hSX, hCMe, hD] at cS
  rw [hCMe] at hCM hCL
  rw [hD] at hDL
  have HCM : Hid (CM = A ++ U) := hCM
  have HSX : Hid (s.st = SX) := hSX
  have HCE : Hid (s.cmds = CM) := hCMe
  have HD : Hid (s.done.map (nameAt l) = D) := hD
  have hCL' : (CM.length : Int) ≤ 1000 := by omega
  have hDL' : (D.length : Int) ≤ 8 := by omega
  clear hms hb2 cm hq hRL hok hU hSN hCM hA hF hSX hCMe hD
  go_upto_region 6 with (go_at_call 6; go_must (refine cS.mono ?_; rintro e w3 ⟨⟨v3, rfl, hlog⟩, hb3⟩; obtain ⟨rv, cv, nv, hv3, hrv, hcv, hnv⟩ := hlog; subst hv3; obtain ⟨r1, r2, e1, -⟩ := hrv.value; obtain ⟨c1, c2, e2, -⟩ := hcv.value; obtain ⟨n1, n2, e3, -⟩ := hnv.value; subst e1 e2 e3; dsimp only at hrv hcv hnv))
  have bL : Below w3.heap.size w3 (w3.alloc (.cells #[.int .i64 0, .int .i64 SX, .slice r1 R.length r2, .slice c1 CM.length c2, .slice n1 D.length n2] 31)) := (Below.refl _ w3).alloc (Nat.le_refl _) _
  have kL : Blk (w3.alloc (.cells #[.int .i64 0, .int .i64 SX, .slice r1 R.length r2, .slice c1 CM.length c2, .slice n1 D.length n2] 31)) w3.heap.size 31 #[.int .i64 0, .int .i64 SX, .slice r1 R.length r2, .slice c1 CM.length c2, .slice n1 D.length n2] := heap_alloc_last w3 _
  have hrvL := OwnNums.below hrv bL
  have hcvL := OwnCmds.below hcv bL
  have hnvL := OwnTxts.below hnv bL
  have b2L := good_below hb3 bL
  generalize w3.alloc (.cells #[.int .i64 0, .int .i64 SX, .slice r1 R.length r2, .slice c1 CM.length c2, .slice n1 D.length n2] 31) = wL at bL kL hrvL hcvL hnvL b2L ⊢
  generalize w3.heap.size = b7 at kL ⊢
  have HRV : Hid (OwnNums w2.heap.size wL (.slice r1 R.length r2) R) := hrvL
  have HCV : Hid (OwnCmds w2.heap.size wL (.slice c1 CM.length c2) CM) := hcvL
  have HNV : Hid (OwnTxts w2.heap.size wL (.slice n1 D.length n2) D) := hnvL
  have HK7 : Hid (Blk wL b7 31 #[.int .i64 0, .int .i64 SX, .slice r1 R.length r2, .slice c1 CM.length c2, .slice n1 D.length n2]) := kL
  have HBL : Hid (Below w2.heap.size w2 wL) := b2L
  have h1L : Below w1.heap.size w1 wL := good_below HB2.out b2L
  have H1L : Hid (Below w1.heap.size w1 wL) := h1L
  have cI := implRunSaga (fun b => b < wL.heap.size) l ms _ _ wL (fun b h => h) (HSP.out wL h1L) (by omega) HG.out.2.2.1 (HFP.out wL h1L) (HMP.out wL b2L) (by omega) (fun W hW => HT.out W (good_below HB1.out (good_below h1L hW)))
  rw [HLG.out] at cI
  unfold logOf at cI
  rw [HQ.out] at cI
  dsimp only at cI
  rw [HSX.out, HCE.out, HD.out] at cI
  clear hrv hcv hnv hb3 bL kL hrvL hcvL hnvL b2L h1L cS
  go_upto_region 7 with (go_at_call 7; go_must (refine cI.mono ?_; rintro e w4 ⟨⟨v4, rfl, hlog⟩, hb4⟩; obtain ⟨rv, cv, nv, hv4, hrv, hcv, hnv⟩ := hlog; subst hv4; obtain ⟨r3, r4, e1, -⟩ := hrv.value; obtain ⟨c3, c4, e2, -⟩ := hcv.value; obtain ⟨n3, n4, e3, -⟩ := hnv.value; subst e1 e2 e3; dsimp only at hrv hcv hnv))
  have bL : Below w4.heap.size w4 (w4.alloc (.cells #[.int .i64 0, .int .i64 SX, .slice r3 R.length r4, .slice c3 CM.length c4, .slice n3 D.length n4] 31)) := (Below.refl _ w4).alloc (Nat.le_refl _) _
  have kL : Blk (w4.alloc (.cells #[.int .i64 0, .int .i64 SX, .slice r3 R.length r4, .slice c3 CM.length c4, .slice n3 D.length n4] 31)) w4.heap.size 31 #[.int .i64 0, .int .i64 SX, .slice r3 R.length r4, .slice c3 CM.length c4, .slice n3 D.length n4] := heap_alloc_last w4 _
  have hrvL := OwnNums.below hrv bL
  have hcvL := OwnCmds.below hcv bL
  have hnvL := OwnTxts.below hnv bL
  have bLM := good_below hb4 bL
  generalize w4.alloc (.cells #[.int .i64 0, .int .i64 SX, .slice r3 R.length r4, .slice c3 CM.length c4, .slice n3 D.length n4] 31) = wM at bL kL hrvL hcvL hnvL bLM ⊢
  generalize w4.heap.size = b8 at kL ⊢
  have HRI : Hid (OwnNums wL.heap.size wM (.slice r3 R.length r4) R) := hrvL
  have HCI : Hid (OwnCmds wL.heap.size wM (.slice c3 CM.length c4) CM) := hcvL
  have HNI : Hid (OwnTxts wL.heap.size wM (.slice n3 D.length n4) D) := hnvL
  have HK8 : Hid (Blk wM b8 31 #[.int .i64 0, .int .i64 SX, .slice r3 R.length r4, .slice c3 CM.length c4, .slice n3 D.length n4]) := kL
  have HBM : Hid (Below wL.heap.size wL wM) := bLM
  have cn := lawInts (w := wM) (OwnNums.at HRI.out) (OwnNums.at (OwnNums.below HRV.out bLM)) (by omega)
  have HCT : Hid (∀ W, Below wM.heap.size wM W → Calls Tryd.prog 9 #[.slice n3 D.length n4, .slice n1 D.length n2] W fun e w' => e = .returned (.bool true) ∧ Below W.heap.size W w') := fun W hW => lawSame (OwnTxts.below HNI.out hW).at (OwnTxts.below HNV.out (good_below HBM.out hW)).at (by omega)
  have HK7' : Hid (∀ W, Below wM.heap.size wM W → Blk W b7 31 #[.int .i64 0, .int .i64 SX, .slice r1 R.length r2, .slice c1 CM.length c2, .slice n1 D.length n2]) := fun W hW => HK7.out.below (good_below HBM.out hW)
  have HK8' : Hid (∀ W, Below wM.heap.size wM W → Blk W b8 31 #[.int .i64 0, .int .i64 SX, .slice r3 R.length r4, .slice c3 CM.length c4, .slice n3 D.length n4]) := fun W hW => HK8.out.below hW
  have p1 := (HK7'.out wM (Below.refl _ _)).cell 1
  have p2 := (HK7'.out wM (Below.refl _ _)).cell 2
  have q0 := (HK8'.out wM (Below.refl _ _)).cell 0
  have q1 := (HK8'.out wM (Below.refl _ _)).cell 1
  have q2 := (HK8'.out wM (Below.refl _ _)).cell 2
  simp at p1 p2 q0 q1 q2
  clear hrv hcv hnv hb4 bL kL hrvL hcvL hnvL bLM cI
  go_upto_region 9 with (first
    | (go_at_call 9; go_must (refine (HCT.out w5 hb5).mono ?_; rintro e w6 ⟨rfl, hb6⟩; have p3 := (HK7'.out w6 (good_below hb5 hb6)).cell 3; have q3 := (HK8'.out w6 (good_below hb5 hb6)).cell 3; simp at p3 q3))
    | (go_at_call 8; go_must (refine cn.mono ?_; rintro e w5 ⟨rfl, hb5⟩; have p4 := (HK7'.out w5 hb5).cell 4; have q4 := (HK8'.out w5 hb5).cell 4; simp at p4 q4)))
  have hM6 : Below wM.heap.size wM w6 := good_below hb5 hb6
  have HM6 : Hid (Below wM.heap.size wM w6) := hM6
  have HE6 : Hid (OwnTxts w6.heap.size (w6.alloc (.cells #[] 9)) (.slice (some ⟨w6.heap.size, 0, none⟩) 0 0) []) := OwnTxts.empty w6.heap.size w6 (Nat.le_refl _)
  have hLM6 : Below w2.heap.size w2 w6 := good_below HBL.out (good_below HBM.out hM6)
  have HM26 : Hid (Below w2.heap.size w2 w6) := hLM6
  clear p1 p2 p3 p4 q0 q1 q2 q3 q4 hb5 hb6 hM6 hLM6 cn HCT
  go_wp2_with fail
  go_loopw [9, 10] (fun i9 i10 wr => ∃ (k : Nat), i10 = .int .i64 (k : Int) ∧ k ≤ ms.length ∧ OwnTxts w6.heap.size wr i9 (ordT (R.take k) (ms.take k)) ∧ (ordT (R.take k) (ms.take k)).length ≤ k ∧ Below w6.heap.size w6 wr) (fun _ i10 _ => ms.length - (intOf i10).toNat)
  case atStart => exact ⟨0, rfl, by omega, by simpa [ordT] using HE6.out, by simp [ordT], (Below.refl _ w6).alloc (Nat.le_refl _) _⟩
  case round =>
    obtain ⟨k, rfl, hk, hot, hotl, hbo⟩ := hrel
    obtain ⟨T, hTe⟩ : ∃ T, ordT (R.take k) (ms.take k) = T := ⟨_, rfl⟩
    rw [hTe] at hot hotl
    have HTE : Hid (ordT (R.take k) (ms.take k) = T) := hTe
    obtain ⟨oa, oc, hv, -⟩ := hot.value
    subst hv
    obtain ⟨wR, hwR⟩ : ∃ W, W = wr := ⟨_, rfl⟩
    subst hwR
    have HOT : Hid (OwnTxts w6.heap.size wR (.slice oa T.length oc) T) := hot
    have HBO : Hid (Below w6.heap.size w6 wR) := hbo
    have hT43 : (T.length : Int) ≤ 43 := by omega
    have hMR : Below wM.heap.size wM wR := good_below HM6.out hbo
    clear hTe hot hbo HE6
    by_cases hkn : k < ms.length
    · have hkn' : (k : Int) < (ms.length : Int) := by omega
      have hkR : k < R.length := by rw [HRL.out]; exact hkn
      have hkR' : (k : Int) < (R.length : Int) := by omega
      have q2 := (HK8'.out wR hMR).cell 2
      simp at q2
      obtain ⟨g1, rfl, hg1, hc1⟩ := num_row HRI.out (by omega)
      obtain ⟨g2, rfl, hg2, hc2⟩ := msg_row HMS.out (by omega)
      have x0 := (hMR.cell (p := ⟨g1, k, none⟩) hg1).trans (hc1 k hkR)
      have hb2R := good_below HM26.out HBO.out
      have y0 := (hb2R.cell (p := ⟨g2, k * 2, none⟩) hg2).trans (hc2 k hkn).1
      have y1 := (hb2R.cell (p := ⟨g2, k * 2 + 1, none⟩) hg2).trans (hc2 k hkn).2
      have hstep : ordT (R.take (k + 1)) (ms.take (k + 1)) = T ++ (if R[k] = 0 ∧ ms[k].kind = 1 then [ms[k].step] else []) := by
        rw [List.take_succ_eq_append_getElem hkR, List.take_succ_eq_append_getElem hkn, ordT_app _ _ _ _ (by simp; omega), HTE.out]
      obtain ⟨rk, hrk⟩ : ∃ r, R[k] = r := ⟨_, rfl⟩
      obtain ⟨mk, hmk⟩ : ∃ m, ms[k] = m := ⟨_, rfl⟩
      rw [hrk] at x0 hstep
      rw [hmk] at y0 y1 hstep
      obtain ⟨mt, mn⟩ := mk
      dsimp only at y0 y1 hstep
      have HSTP : Hid (ordT (R.take (k + 1)) (ms.take (k + 1)) = T ++ (if rk = 0 ∧ mn = 1 then [mt] else [])) := hstep
      clear hstep hc1 hc2 hrk hmk hb2R
      by_cases hz : rk = 0
      · subst hz
        by_cases ho : mn = 1
        · subst ho
          have bA : Below wR.heap.size wR (wR.alloc (.cells #[.string mt] 9)) := (Below.refl _ wR).alloc (Nat.le_refl _) _
          have HOA : Hid (OwnTxts w6.heap.size (wR.alloc (.cells #[.string mt] 9)) (.slice oa T.length oc) T) := OwnTxts.below HOT.out bA
          have HBA : Hid (Below w6.heap.size w6 (wR.alloc (.cells #[.string mt] 9))) := good_below HBO.out bA
          have hszA : w6.heap.size ≤ (wR.alloc (.cells #[.string mt] 9)).heap.size := HBA.out.size
          clear bA hMR
          go_wp2_with (at_builtin; go_must (refine wpList_appendTxts rfl (.tmp 93) (.tmp 99) rfl w6.heap.size (.slice oa T.length oc) T rfl HOA.out _ [mt] rfl (TxtsAt.new wR mt) (by simp; omega) hszA ?_; intro v9 w9 hown9 hB9 hgr9 hnil9))
          refine ⟨⟨k + 1, by go_num, by omega, ?_, ?_, HBA.out.trans hB9⟩, by simp [intOf]; omega⟩
          · rw [HSTP.out, if_pos ⟨rfl, rfl⟩]; exact hown9
          · rw [HSTP.out, if_pos ⟨rfl, rfl⟩]; simp; omega
        · have ho' : (mn == 1) = false := by rw [beq_eq_false_iff_ne]; exact ho
          have HN : Hid (¬ mn = 1) := ho
          clear hMR ho
          go_wp2_with fail
          refine ⟨⟨k + 1, by go_num, by omega, ?_, ?_, HBO.out⟩, by simp [intOf]; omega⟩
          · rw [HSTP.out, if_neg (fun q => HN.out q.2), List.append_nil]; exact HOT.out
          · rw [HSTP.out, if_neg (fun q => HN.out q.2), List.append_nil]; omega
      · have hz' : (rk == 0) = false := by rw [beq_eq_false_iff_ne]; exact hz
        have HN : Hid (¬ rk = 0) := hz
        clear hMR hz
        go_wp2_with fail
        refine ⟨⟨k + 1, by go_num, by omega, ?_, ?_, HBO.out⟩, by simp [intOf]; omega⟩
        · rw [HSTP.out, if_neg (fun q => HN.out q.1), List.append_nil]; exact HOT.out
        · rw [HSTP.out, if_neg (fun q => HN.out q.1), List.append_nil]; omega
    · obtain rfl : k = ms.length := by omega
      have hkn' : ¬ ((ms.length : Int) < (ms.length : Int)) := by omega
      have hTO : T = ordT R ms := by
        have := HTE.out
        rw [List.take_of_length_le (by rw [HRL.out]; exact Nat.le_refl _), List.take_of_length_le (Nat.le_refl _)] at this
        exact this.symm
      have HSNT : Hid (SameN l T O) := by rw [hTO]; exact HSN.out
      have HTL : Hid (T.length = O.length) := HSNT.out.1
      have HMR : Hid (Below wM.heap.size wM wR) := hMR
      have HTP : Hid (∀ W, Below wR.heap.size wR W → TxtsAt (fun b => b < W.heap.size) W (.slice oa T.length oc) T) := fun W hW => (OwnTxts.below HOT.out hW).at.mono (fun b h => h.2)
      clear hTO hMR
      go_wp2_with fail
      go_loopw [11, 12] (fun i11 i12 wr => ∃ (i x : Nat), i12 = .int .i64 (i : Int) ∧ i11 = .int .i64 (x : Int) ∧ i ≤ CM.length ∧ x ≤ T.length ∧ LastAt l O A U i x ∧ Below wR.heap.size wR wr) (fun _ i12 _ => CM.length - (intOf i12).toNat)
      case atStart => exact ⟨0, T.length, rfl, rfl, by omega, by omega, .inl ⟨by omega, HTL.out⟩, Below.refl _ _⟩
      case round =>
        obtain ⟨i, x, rfl, rfl, hi, hxT, hla, hbi⟩ := hrel
        obtain ⟨wI, hwI⟩ : ∃ W, W = wr := ⟨_, rfl⟩
        subst hwI
        have hMI : Below wM.heap.size wM wI := good_below HMR.out hbi
        have HLA : Hid (LastAt l O A U i x) := hla
        have HBI : Hid (Below wR.heap.size wR wI) := hbi
        have hx43 : (x : Int) ≤ 43 := by omega
        clear hla hbi
        by_cases hin : i < CM.length
        · have hin' : (i : Int) < (CM.length : Int) := by omega
          have q3 := (HK8'.out wI hMI).cell 3
          simp at q3
          obtain ⟨g1, rfl, hg1, hc1⟩ := cmd_row HCI.out (by omega)
          obtain ⟨g2, rfl, hg2, hc2⟩ := cmd_row HCV.out (by omega)
          have x0 := (hMI.cell (p := ⟨g1, i * 3, none⟩) hg1).trans (hc1 i hin).1
          have x1 := (hMI.cell (p := ⟨g1, i * 3 + 1, none⟩) hg1).trans (hc1 i hin).2.1
          have x2 := (hMI.cell (p := ⟨g1, i * 3 + 2, none⟩) hg1).trans (hc1 i hin).2.2
          have hLI := good_below HBM.out hMI
          have y0 := (hLI.cell (p := ⟨g2, i * 3, none⟩) hg2).trans (hc2 i hin).1
          have y1 := (hLI.cell (p := ⟨g2, i * 3 + 1, none⟩) hg2).trans (hc2 i hin).2.1
          have y2 := (hLI.cell (p := ⟨g2, i * 3 + 2, none⟩) hg2).trans (hc2 i hin).2.2
          have hg1I : g1 < wI.heap.size := Nat.lt_of_lt_of_le hg1 hMI.size
          have hg2I : g2 < wI.heap.size := Nat.lt_of_lt_of_le hg2 hLI.size
          have hcmd := cmd_at (i := i) HG.out.1 HU.out.lt HU.out.nd HAU.out HF.out (by rw [← HCM.out]; exact hin) HLA.out
          simp only [← HCM.out] at hcmd
          obtain ⟨cc, hcc⟩ : ∃ c, CM[i] = c := ⟨_, rfl⟩
          simp only [hcc] at x0 x1 x2 y0 y1 y2 hcmd
          obtain ⟨ck, ct, cs⟩ := cc
          dsimp only at x0 x1 x2 y0 y1 y2
          have HCMD : Hid _ := hcmd
          have kB : Blk (wI.alloc (.cells #[.int .i64 ck, .int .i64 ct, .string cs] 38)) wI.heap.size 38 #[.int .i64 ck, .int .i64 ct, .string cs] := heap_alloc_last wI _
          have bB : Below wI.heap.size wI (wI.alloc (.cells #[.int .i64 ck, .int .i64 ct, .string cs] 38)) := (Below.refl _ wI).alloc (Nat.le_refl _) _
          replace y0 := (bB.cell (p := ⟨g2, i * 3, none⟩) hg2I).trans y0
          replace y1 := (bB.cell (p := ⟨g2, i * 3 + 1, none⟩) hg2I).trans y1
          replace y2 := (bB.cell (p := ⟨g2, i * 3 + 2, none⟩) hg2I).trans y2
          have p3 := (HK7'.out _ (good_below hMI bB)).cell 3
          simp only [List.getElem?_toArray] at p3
          clear hc1 hc2 hcc hcmd hLI
          go_upto_region 20 with fail
          generalize wI.alloc (.cells #[.int .i64 ck, .int .i64 ct, .string cs] 38) = wB at kB bB y0 y1 y2 p3 ⊢
          generalize wI.heap.size = b13 at kB ⊢
          have HKB : Hid (Blk wB b13 38 #[.int .i64 ck, .int .i64 ct, .string cs]) := kB
          have HBB : Hid (Below wR.heap.size wR wB) := good_below HBI.out bB
          have z0 := kB.cell 0
          have z1 := kB.cell 1
          have z2 := kB.cell 2
          simp at z0 z1 z2 p3
          have H1B : Hid (Below w1.heap.size w1 wB) := good_below H1L.out (good_below HBM.out (good_below HMR.out HBB.out))
          clear kB bB x0 x1 x2 q3 hMI
          go_cut [121] from 115 to 120 (fun s121 wx => s121 = .bool false ∧ Below wB.heap.size wB wx)
          case first =>
            go_quiet (fail)
            refine meet_then (by assumption) ?_
            go_meet
            exact ⟨rfl, bel_drewN (Below.refl _ wB) _⟩
          case rest =>
          obtain ⟨rfl, hbc⟩ := hcut
          obtain ⟨wC, hwC⟩ : ∃ W, W = wc := ⟨_, rfl⟩
          subst hwC
          have hkc := HKB.out.below hbc
          have HKC : Hid (Blk wC b13 38 #[.int .i64 ck, .int .i64 ct, .string cs]) := hkc
          have HBC : Hid (Below wR.heap.size wR wC) := good_below HBB.out hbc
          have H1C : Hid (Below w1.heap.size w1 wC) := good_below H1B.out hbc
          clear z0 z1 z2 y0 y1 y2 p3 hbc
          have z0 := hkc.cell 0
          simp at z0
          clear hkc
          rcases HCMD.out with ⟨hdo, hxO, hla'⟩ | ⟨y, hy, hk2, hst2, hyx, hxl, hla'⟩
          · obtain rfl : ck = 1 := hdo.1
            obtain rfl : x = T.length := by rw [hxO, HTL.out]
            have HNH : Hid (∀ k (hk : k < l.length), (l[k].name.toList == cs.toList) = true → ∀ t ∈ l[k].needs, hasB T t = true) := fun k hk hn => need_has HG.out.1 HSNT.out HND.out hdo hk hn
            have HLN : Hid (LastAt l O A U (i + 1) T.length) := hla'
            have hlt : ¬ ((T.length : Int) < (T.length : Int)) := by omega
            clear hdo hxO hla'
            go_wp2_with fail
            go_loopw [14] (fun i14 wr => ∃ k : Nat, i14 = .int .i64 (k : Int) ∧ k ≤ l.length ∧ Below wC.heap.size wC wr) (fun i14 _ => l.length - (intOf i14).toNat)
            case atStart => exact ⟨0, rfl, by omega, Below.refl _ _⟩
            case round =>
              obtain ⟨k, rfl, hk, hbk⟩ := hrel
              obtain ⟨wK, hwK⟩ : ∃ W, W = wr := ⟨_, rfl⟩
              subst hwK
              have HBK : Hid (Below wC.heap.size wC wK) := hbk
              clear hbk z0
              by_cases hkn : k < l.length
              · have hkn' : (k : Int) < (l.length : Int) := by omega
                obtain ⟨nk, hnk⟩ : ∃ nk, l[k].name = nk := ⟨_, rfl⟩
                obtain ⟨nd, hnd⟩ : ∃ nd, l[k].needs = nd := ⟨_, rfl⟩
                have hSR : ∀ W, Below wK.heap.size wK W → W.cell? ⟨gs, os + k * 4, none⟩ = some (.string nk) ∧ ∃ na nc, W.cell? ⟨gs, os + k * 4 + 1, none⟩ = some (.slice na nd.length nc) ∧ ∀ j (hj : j < nd.length), ∃ nb no, na = some ⟨nb, no, none⟩ ∧ W.cell? ⟨nb, no + j, none⟩ = some (.string nd[j]) := fun W hW => by
                  have := HSR.out W (good_below H1C.out (good_below HBK.out hW)) k hkn
                  subst hnk
                  subst hnd
                  exact this
                have HSK : Hid _ := hSR
                have HNK : Hid ((nk.toList == cs.toList) = true → ∀ t ∈ nd, hasB T t = true) := by rw [← hnk, ← hnd]; exact HNH.out k hkn
                have hndl : nd.length ≤ 20 := by rw [← hnd]; exact HNL.out k hkn
                have hndl' : (nd.length : Int) ≤ 20 := by omega
                clear hSR hnk hnd
                go_wp2_with fail
                go_loopw [15] (fun i15 wr => ∃ j : Nat, i15 = .int .i64 (j : Int) ∧ j ≤ nd.length ∧ Below wK.heap.size wK wr) (fun i15 _ => nd.length - (intOf i15).toNat)
                case atStart => exact ⟨0, rfl, by omega, Below.refl _ _⟩
                case round =>
                  obtain ⟨j, rfl, hj, hbj⟩ := hrel
                  obtain ⟨wJ, hwJ⟩ : ∃ W, W = wr := ⟨_, rfl⟩
                  subst hwJ
                  have HBJ : Hid (Below wK.heap.size wK wJ) := hbj
                  obtain ⟨s0, na, nc, s1, sn⟩ := HSK.out wJ hbj
                  have z2 := (HKC.out.below (good_below HBK.out hbj)).cell 2
                  simp at z2
                  have HSNJ : Hid _ := sn
                  clear hbj sn
                  go_upto_region 29 with fail
                  go_cut [152] from 135 to 151 (fun s152 wx => s152 = .bool ((nk.toList == cs.toList) && decide (j < nd.length)) ∧ Below wJ.heap.size wJ wx)
                  case first =>
                    cases hnm : (nk.toList == cs.toList)
                    · go_quiet (fail)
                      refine meet_then (by assumption) ?_
                      go_meet
                      exact ⟨by rw [hnm]; rfl, bel_drewN (Below.refl _ wJ) _⟩
                    · by_cases hjn : j < nd.length
                      · have hjn' : (j : Int) < (nd.length : Int) := by omega
                        have hjd : decide (j < nd.length) = true := decide_eq_true hjn
                        go_quiet (fail)
                        refine meet_then (by assumption) ?_
                        go_meet
                        exact ⟨by rw [hnm, hjd]; rfl, bel_drewN (Below.refl _ wJ) _⟩
                      · have hjn' : ¬ ((j : Int) < (nd.length : Int)) := by omega
                        have hjd : decide (j < nd.length) = false := decide_eq_false hjn
                        go_quiet (fail)
                        refine meet_then (by assumption) ?_
                        go_meet
                        exact ⟨by rw [hnm, hjd]; rfl, bel_drewN (Below.refl _ wJ) _⟩
                  case rest =>
                    obtain ⟨rfl, hbc⟩ := hcut
                    obtain ⟨wE, hwE⟩ : ∃ W, W = wc := ⟨_, rfl⟩
                    subst hwE
                    have HBE : Hid (Below wJ.heap.size wJ wE) := hbc
                    clear hbc s0 s1 z2
                    cases hbb : ((nk.toList == cs.toList) && decide (j < nd.length))
                    · go_wp2_with fail
                      exact ⟨⟨k + 1, by go_num, by omega, good_below HBK.out (good_below HBJ.out HBE.out)⟩, by simp [intOf]; omega⟩
                    · rw [Bool.and_eq_true] at hbb
                      obtain ⟨hnm, hjd⟩ := hbb
                      have hjn := of_decide_eq_true hjd
                      have hjn' : (j : Int) < (nd.length : Int) := by omega
                      obtain ⟨_, na2, nc2, s1, sn⟩ := HSK.out wE (good_below HBJ.out HBE.out)
                      obtain ⟨nb, no, rfl, hcn⟩ := sn j hjn
                      have ht := HNK.out hnm nd[j] (List.getElem_mem hjn)
                      obtain ⟨t, hte⟩ : ∃ t, nd[j] = t := ⟨_, rfl⟩
                      rw [hte] at hcn ht
                      have ch := lawHas (HTP.out wE (good_below HBC.out (good_below HBK.out (good_below HBJ.out HBE.out)))) (by omega) t
                      rw [ht] at ch
                      clear sn hjd ht hte hnm
                      go_wp2_with (go_at_call 10; go_must (refine ch.mono ?_; rintro e w9 ⟨rfl, rfl⟩))
                      exact ⟨⟨j + 1, by go_num, by omega, good_below HBJ.out HBE.out⟩, by simp [intOf]; omega⟩
              · obtain rfl : k = l.length := by omega
                have hkn' : ¬ ((l.length : Int) < (l.length : Int)) := by omega
                go_wp2_with fail
                exact ⟨⟨i + 1, T.length, by go_num, rfl, by omega, by omega, HLN.out, good_below HBC.out HBK.out⟩, by simp [intOf]; omega⟩
          · dsimp only at hk2 hst2 hyx
            subst hk2
            have hyT : y < T.length := by rw [HTL.out]; exact hy
            have HPE : Hid (∀ k (hk : k < T.length), (T[k].toList == cs.toList) = decide (k = y)) := fun k hk => place_eq HG.out.1 HSNT.out HU.out.lt HU.out.nd hy hst2 hk
            have HYX : Hid (y < x ∨ (y = x ∧ ct ≠ 1)) := hyx
            have HLN : Hid (LastAt l O A U (i + 1) y) := hla'
            obtain ⟨g9, rfl, hg9, hc9⟩ := txt_row HOT.out (by omega)
            have HC9 : Hid (∀ i (hi : i < T.length), wR.cell? ⟨g9, i, none⟩ = some (.string T[i])) := hc9
            clear hyx hla' hst2 hc9
            go_wp2_with fail
            go_loopw [16, 17] (fun i16 i17 wr => ∃ k : Nat, i17 = .int .i64 (k : Int) ∧ i16 = .int .i64 (placeF y k) ∧ k ≤ T.length ∧ Below wC.heap.size wC wr) (fun _ i17 _ => T.length - (intOf i17).toNat)
            case atStart => exact ⟨0, rfl, by unfold placeF; rw [if_neg (Nat.not_lt_zero _)], by omega, Below.refl _ _⟩
            case round =>
              obtain ⟨k, rfl, rfl, hk, hbk⟩ := hrel
              obtain ⟨wK, hwK⟩ : ∃ W, W = wr := ⟨_, rfl⟩
              subst hwK
              have HBK : Hid (Below wC.heap.size wC wK) := hbk
              clear z0
              by_cases hkn : k < T.length
              · have hkn' : (k : Int) < (T.length : Int) := by omega
                have x0 := ((good_below HBC.out hbk).cell (p := ⟨g9, k, none⟩) hg9).trans (HC9.out k hkn)
                have hpe := HPE.out k hkn
                obtain ⟨tk, htk⟩ : ∃ t, T[k] = t := ⟨_, rfl⟩
                rw [htk] at x0 hpe
                have z2 := (HKC.out.below hbk).cell 2
                simp at z2
                obtain ⟨P, hP⟩ : ∃ P, placeF y k = P := ⟨_, rfl⟩
                rw [hP]
                have HP : Hid (placeF y k = P) := hP
                clear hbk htk hP
                by_cases hky : k = y
                · subst hky
                  rw [decide_eq_true rfl] at hpe
                  go_upto_region 37 with fail
                  go_cut [178] from 172 to 177 (fun s178 wx => s178 = .bool true ∧ Below wK.heap.size wK wx)
                  case first =>
                    go_quiet (fail)
                    refine meet_then (by assumption) ?_
                    go_meet
                    exact ⟨rfl, bel_drewN (Below.refl _ wK) _⟩
                  case rest =>
                    obtain ⟨rfl, hbc⟩ := hcut
                    go_wp2_with fail
                    exact ⟨⟨k + 1, by go_num, by unfold placeF; rw [if_pos (Nat.lt_succ_self _)], by omega, good_below HBK.out hbc⟩, by simp [intOf]; omega⟩
                · rw [decide_eq_false hky] at hpe
                  have HKY : Hid (¬ k = y) := hky
                  clear hky
                  go_upto_region 37 with fail
                  go_cut [178] from 172 to 177 (fun s178 wx => s178 = .bool false ∧ Below wK.heap.size wK wx)
                  case first =>
                    go_quiet (fail)
                    refine meet_then (by assumption) ?_
                    go_meet
                    exact ⟨rfl, bel_drewN (Below.refl _ wK) _⟩
                  case rest =>
                    obtain ⟨rfl, hbc⟩ := hcut
                    go_wp2_with fail
                    refine ⟨⟨k + 1, by go_num, ?_, by omega, good_below HBK.out hbc⟩, by simp [intOf]; omega⟩
                    rw [← HP.out]
                    have := HKY.out
                    unfold placeF
                    by_cases hq : y < k
                    · rw [if_pos hq, if_pos (by omega)]
                    · rw [if_neg hq, if_neg (by omega)]
              · obtain rfl : k = T.length := by omega
                have hkn' : ¬ ((T.length : Int) < (T.length : Int)) := by omega
                have hPy : placeF y T.length = (y : Int) := by unfold placeF; rw [if_pos hyT]
                rw [hPy]
                have z1 := (HKC.out.below hbk).cell 1
                simp at z1
                have hy0 : ¬ ((y : Int) < 0) := by omega
                clear hPy
                rcases HYX.out with hlt | ⟨heq, htry⟩
                · have hyx1 : ¬ ((x : Int) < (y : Int)) := by omega
                  have hyx2 : ((y : Int) == (x : Int)) = false := by rw [beq_eq_false_iff_ne]; omega
                  go_wp2_with fail
                  exact ⟨⟨i + 1, y, by go_num, rfl, by omega, by omega, HLN.out, good_below HBC.out HBK.out⟩, by simp [intOf]; omega⟩
                · subst heq
                  have hyx1 : ¬ ((y : Int) < (y : Int)) := by omega
                  have ht1 : (ct == 1) = false := by rw [beq_eq_false_iff_ne]; exact htry
                  clear htry
                  go_wp2_with fail
                  exact ⟨⟨i + 1, y, by go_num, rfl, by omega, by omega, HLN.out, good_below HBC.out HBK.out⟩, by simp [intOf]; omega⟩
        · obtain rfl : i = CM.length := by omega
          have hin' : ¬ ((CM.length : Int) < (CM.length : Int)) := by omega
          have q3 := (HK8'.out wI hMI).cell 3
          simp at q3
          go_wp2_with fail
          go_ret
          exact ⟨rfl, good_below HB1.out (good_below HB2.out (good_below HM26.out (good_below HBO.out HBI.out)))⟩
end Go.Proofs.YtlnfobeedpbnmaaDoor
