/-
  What the document's RunSaga answers. No statement of the seat is proved here.
-/
import Derived.Test.YtbpijollcjdkhaaDoorK11
import Derived.Test.YtbpijollcjdkhaaDoorK4
namespace Go.Proofs.YtbpijollcjdkhaaDoor
open Go.ChangeShapes Go.WideShapes Go.ChangeAt Go.RowKit
set_option linter.unusedVariables false
set_option linter.unusedSimpArgs false

theorem commandC : CommandC 46 := fun h kind i hi hc => specCommand h kind i hi hc
theorem TxtsAt.newAt (w : World) (x : ByteArray) (g : Nat) (hg : w.heap.size = g) : TxtsAt (fun b => b = g) (w.alloc (.cells #[.string x] 9)) (.slice (some ⟨g, 0, none⟩) 1 1) [x] := by
  subst hg; exact TxtsAt.new w x
theorem StepsFull.keep {S : Nat → Prop} {w w' : World} {v : Value} {l : List Step} (h : StepsFull w v l) (hat : StepsAt S w v l) (hk : ∀ b i, S b → w'.cell? ⟨b, i, none⟩ = w.cell? ⟨b, i, none⟩) : StepsFull w' v l := by
  refine ⟨h.1, fun b off n c e i hi nv hn => h.2 b off n c e i hi nv ?_⟩
  obtain ⟨_, a, cap, hv, hc⟩ := hat
  obtain ⟨b', off', ha, hS, _⟩ := hc (by omega)
  rw [hv] at e
  simp only [Value.slice.injEq] at e
  obtain ⟨e, _, _⟩ := e
  rw [ha] at e
  simp only [Option.some.injEq, Addr.mk.injEq] at e
  rw [← e.1] at hn ⊢
  rw [← hk _ _ hS]; exact hn
/-- Five cells are stored. -/
def set5 (w : World) (x : Nat) (p0 p1 p2 p3 p4 : Value) : World := ((((w.setCell ⟨x, 0, none⟩ p0).setCell ⟨x, 1, none⟩ p1).setCell ⟨x, 2, none⟩ p2).setCell ⟨x, 3, none⟩ p3).setCell ⟨x, 4, none⟩ p4
theorem set5_blk {w : World} {x : Nat} {q0 q1 q2 q3 q4 : Value} (h : Blk w x 30 #[q0, q1, q2, q3, q4]) (p0 p1 p2 p3 p4 : Value) : Blk (set5 w x p0 p1 p2 p3 p4) x 30 #[p0, p1, p2, p3, p4] :=
  ((((h.set 0 p0).set 1 p1).set 2 p2).set 3 p3).set 4 p4
theorem set5_below {B : Nat} {w w' : World} {x : Nat} (h : Below B w w') (hx : B ≤ x) (p0 p1 p2 p3 p4 : Value) : Below B w (set5 w' x p0 p1 p2 p3 p4) :=
  ((((h.setCell hx p0).setCell hx p1).setCell hx p2).setCell hx p3).setCell hx p4
theorem set5_row {w : World} {x B n k : Nat} {E : TypeId} {v : Value} {xs : List Value} (h : w.ownsRow B E k v n xs) (ho : Off v x) (p0 p1 p2 p3 p4 : Value) : (set5 w x p0 p1 p2 p3 p4).ownsRow B E k v n xs :=
  ownsRow_set (ownsRow_set (ownsRow_set (ownsRow_set (ownsRow_set h ho p0) ho p1) ho p2) ho p3) ho p4
theorem set5_log {w : World} {x B : Nat} {q0 q1 q2 q3 q4 v : Value} {g : Log} (hk : Blk w x 30 #[q0, q1, q2, q3, q4]) (h : OwnLog B w v g) (p0 p1 p2 p3 p4 : Value) : OwnLog B (set5 w x p0 p1 p2 p3 p4) v g := by
  obtain ⟨rv, cv, nv, hv, h1, h2, h3⟩ := h
  exact ⟨rv, cv, nv, hv, set5_row h1 (rowOff h1 hk (by decide)) _ _ _ _ _, set5_row h2 (rowOff h2 hk (by decide)) _ _ _ _ _, set5_row h3 (rowOff h3 hk (by decide)) _ _ _ _ _⟩
theorem set5_cells {w : World} {x : Nat} {q0 q1 q2 q3 q4 : Value} (h : Blk w x 30 #[q0, q1, q2, q3, q4]) (p0 p1 p2 p3 p4 : Value) : (set5 w x p0 p1 p2 p3 p4).cell? ⟨x, 0, none⟩ = some p0 ∧ (set5 w x p0 p1 p2 p3 p4).cell? ⟨x, 1, none⟩ = some p1 ∧ (set5 w x p0 p1 p2 p3 p4).cell? ⟨x, 2, none⟩ = some p2 ∧ (set5 w x p0 p1 p2 p3 p4).cell? ⟨x, 3, none⟩ = some p3 ∧ (set5 w x p0 p1 p2 p3 p4).cell? ⟨x, 4, none⟩ = some p4 := by
  have hb := set5_blk h p0 p1 p2 p3 p4
  exact ⟨hb.cell 0, hb.cell 1, hb.cell 2, hb.cell 3, hb.cell 4⟩
theorem OwnLog.mono {B B' : Nat} {w : World} {v : Value} {x : Log} (h : OwnLog B w v x) (hB : B' ≤ B) : OwnLog B' w v x := by
  obtain ⟨rv, cv, nv, hv, h1, h2, h3⟩ := h
  exact ⟨rv, cv, nv, hv, OwnNums.mono h1 hB, OwnCmds.mono h2 hB, OwnTxts.mono h3 hB⟩
set_option maxRecDepth 100000 in
set_option maxHeartbeats 16000000 in
theorem specRunSaga (T : World → Prop) : RunSagaC 6 T logF := by
  intro S l0 l1 v0 v1 w hS h0 hl0 hok hfull h1 hl1 hT
  obtain ⟨a0, cap0, rfl⟩ := h0.shape
  obtain ⟨a1, cap1, rfl⟩ := h1.shape
  have hl0' : (l0.length : Int) ≤ 1048576 := by omega
  have hl1' : (l1.length : Int) ≤ 1048576 := by omega
  have bA : Below w.heap.size w (w.alloc (.cells #[.int .i64 0, .int .i64 0, .slice none 0 0, .slice none 0 0, .slice none 0 0] 30)) := (Below.refl _ w).alloc (Nat.le_refl _) _
  have kA : Blk (w.alloc (.cells #[.int .i64 0, .int .i64 0, .slice none 0 0, .slice none 0 0, .slice none 0 0] 30)) w.heap.size 30 #[.int .i64 0, .int .i64 0, .slice none 0 0, .slice none 0 0, .slice none 0 0] := heap_alloc_last w _
  obtain ⟨wa, hwa⟩ : ∃ wa, w.alloc (.cells #[.int .i64 0, .int .i64 0, .slice none 0 0, .slice none 0 0, .slice none 0 0] 30) = wa := ⟨_, rfl⟩
  rw [hwa] at bA kA
  obtain ⟨x0, hx0⟩ : ∃ x0, w.heap.size = x0 := ⟨_, rfl⟩
  have sA : wa.heap.size = x0 + 1 := by rw [← hwa, ← hx0]; simp
  have hS' : ∀ b, S b → b < wa.heap.size := fun b hb => Nat.lt_of_lt_of_le (hS b hb) bA.size
  have h0' : StepsAt S wa (.slice a0 l0.length cap0) l0 := h0.keep (cells_below hS bA)
  have h1' : MsgsAt S wa (.slice a1 l1.length cap1) l1 := h1.keep (cells_below hS bA)
  have hfull' : StepsFull wa (.slice a0 l0.length cap0) l0 := StepsFull.keep hfull h0 (cells_below hS bA)
  have co := specSaga T S l0 (.slice a0 l0.length cap0) wa hS' h0' hl0 hok hfull' (fun W hW => hT W (good_below bA hW))
  rw [hx0] at bA kA ⊢
  have HB : Hid (Below x0 w wa) := bA
  have HK : Hid (Blk wa x0 30 #[.int .i64 0, .int .i64 0, .slice none 0 0, .slice none 0 0, .slice none 0 0]) := kA
  have H0 : Hid (StepsAt S wa (.slice a0 l0.length cap0) l0) := h0'
  have H1 : Hid (MsgsAt S wa (.slice a1 l1.length cap1) l1) := h1'
  have HS : Hid (∀ b, S b → b < wa.heap.size) := hS'
  have HOK : Hid (∀ x ∈ l0, StepsOK 1048576 x) := hok
  have HSA : Hid (wa.heap.size = x0 + 1) := sA
  obtain ⟨R, hR⟩ : ∃ R, logF l0 l1 = R := ⟨_, rfl⟩
  rw [hR]
  have HR : Hid (logF l0 l1 = R) := hR
  clear hS hfull h0 h1 hok hT hS' h0' h1' hfull' bA kA sA hR
  go_enter Tryd.func6, Tryd.ntmps6
  go_upto_region 1 with fail
  clear hwa hx0
  have r0 := HK.out.cell 0
  have r1 := HK.out.cell 1
  have r2 := HK.out.cell 2
  have r3 := HK.out.cell 3
  have r4 := HK.out.cell 4
  have f0 := HK.out.fro 0
  have f1 := HK.out.fro 1
  have f2 := HK.out.fro 2
  have f3 := HK.out.fro 3
  have f4 := HK.out.fro 4
  simp at r0 r1 r2 r3 r4
  by_cases hlong : 4096 < l0.length ∨ 4096 < l1.length
  case pos =>
    have hRe : R = ⟨2, 0, [], [], []⟩ := by rw [← HR.out]; unfold logF; rw [if_pos hlong]
    subst hRe
    clear co
    by_cases hlo : 4096 < l0.length
    all_goals
      have hlo' : (4096 : Int) < (l0.length : Int) ∨ (4096 : Int) < (l1.length : Int) := by omega
      go_wp2_with fail
      obtain ⟨u0, u1, u2, u3, u4⟩ := set5_cells HK.out (.int .i64 2) (.int .i64 0) (.slice none 0 0) (.slice none 0 0) (.slice none 0 0)
      unfold set5 at u0 u1 u2 u3 u4
      (try simp only [Exit.inBlock, Exit.then])
      refine bodyPost_ret (v := .agg #[.int .i64 2, .int .i64 0, .slice none 0 0, .slice none 0 0, .slice none 0 0]) (by rw [results_cell1 Tryd.results6]; simp [go_sem, u0, u1, u2, u3, u4]) rfl ?_
      exact ⟨⟨_, rfl, OwnLog.bare _ _ 2⟩, set5_below HB.out (Nat.le_refl _) _ _ _ _ _⟩
  have hnl0 : ¬ ((4096 : Int) < (l0.length : Int)) := by omega
  have hnl1 : ¬ ((4096 : Int) < (l1.length : Int)) := by omega
  obtain ⟨F, hF⟩ : ∃ F, sagaB l0 = F := ⟨_, rfl⟩
  rw [hF] at co
  have HF : Hid (sagaB l0 = F) := hF
  clear hF
  have call1 : ∀ (hS1 : sagaB l0 = true) (w1 : World), Below wa.heap.size wa w1 → SagaIn S w1.heap.size w1 a0 cap0 l0 ∧ MsgsAt S w1 (.slice a1 l1.length cap1) l1 := fun hS1 w1 hb1 =>
    ⟨saga_in (fun b hb => Nat.lt_of_lt_of_le (HS.out b hb) hb1.size) (H0.out.keep (cells_below HS.out hb1)) HOK.out hS1, H1.out.keep (cells_below HS.out hb1)⟩
  have HCALL : Hid (∀ (hS1 : sagaB l0 = true) (w1 : World), Below wa.heap.size wa w1 → SagaIn S w1.heap.size w1 a0 cap0 l0 ∧ MsgsAt S w1 (.slice a1 l1.length cap1) l1) := call1
  clear call1 r0 r1 r2 r3 r4 f0 f1 f2 f3 f4
  cases F
  case false =>
    have hRe : R = ⟨1, 0, [], [], []⟩ := by rw [← HR.out]; unfold logF; rw [if_neg hlong, if_pos HF.out]
    subst hRe
    go_upto_region 4 with (go_at_call 19; go_must (refine co.mono ?_; rintro e w1 ⟨rfl, hb1⟩))
    have kB := HK.out.below hb1
    have r0 := kB.cell 0
    have r1 := kB.cell 1
    have r2 := kB.cell 2
    have r3 := kB.cell 3
    have r4 := kB.cell 4
    have f0 := kB.fro 0
    have f1 := kB.fro 1
    have f2 := kB.fro 2
    have f3 := kB.fro 3
    have f4 := kB.fro 4
    simp at r0 r1 r2 r3 r4
    go_wp2_with fail
    obtain ⟨u0, u1, u2, u3, u4⟩ := set5_cells kB (.int .i64 1) (.int .i64 0) (.slice none 0 0) (.slice none 0 0) (.slice none 0 0)
    unfold set5 at u0 u1 u2 u3 u4
    (try simp only [Exit.inBlock, Exit.then])
    refine bodyPost_ret (v := .agg #[.int .i64 1, .int .i64 0, .slice none 0 0, .slice none 0 0, .slice none 0 0]) (by rw [results_cell1 Tryd.results6]; simp [go_sem, u0, u1, u2, u3, u4]) rfl ?_
    exact ⟨⟨_, rfl, OwnLog.bare _ _ 1⟩, set5_below (HB.out.trans (hb1.mono (by have := HSA.out; omega))) (Nat.le_refl _) _ _ _ _ _⟩
  have hlong' := hlong
  clear hlong
  have HNL : Hid (¬ (4096 < l0.length ∨ 4096 < l1.length)) := hlong'
  clear hlong'
  by_cases hmany : 300 < l1.length
  case pos =>
    have hmany' : (300 : Int) < (l1.length : Int) := by omega
    have hRe : R = ⟨10, 0, [], [], []⟩ := by rw [← HR.out]; unfold logF; rw [if_neg HNL.out, if_neg (by rw [HF.out]; simp), if_pos hmany]
    subst hRe
    go_upto_region 6 with (go_at_call 19; go_must (refine co.mono ?_; rintro e w1 ⟨rfl, hb1⟩))
    have kB := HK.out.below hb1
    have r0 := kB.cell 0
    have r1 := kB.cell 1
    have r2 := kB.cell 2
    have r3 := kB.cell 3
    have r4 := kB.cell 4
    have f0 := kB.fro 0
    have f1 := kB.fro 1
    have f2 := kB.fro 2
    have f3 := kB.fro 3
    have f4 := kB.fro 4
    simp at r0 r1 r2 r3 r4
    go_wp2_with fail
    obtain ⟨u0, u1, u2, u3, u4⟩ := set5_cells kB (.int .i64 10) (.int .i64 0) (.slice none 0 0) (.slice none 0 0) (.slice none 0 0)
    unfold set5 at u0 u1 u2 u3 u4
    (try simp only [Exit.inBlock, Exit.then])
    refine bodyPost_ret (v := .agg #[.int .i64 10, .int .i64 0, .slice none 0 0, .slice none 0 0, .slice none 0 0]) (by rw [results_cell1 Tryd.results6]; simp [go_sem, u0, u1, u2, u3, u4]) rfl ?_
    exact ⟨⟨_, rfl, OwnLog.bare _ _ 10⟩, set5_below (HB.out.trans (hb1.mono (by have := HSA.out; omega))) (Nat.le_refl _) _ _ _ _ _⟩
  have hmany' : ¬ ((300 : Int) < (l1.length : Int)) := by omega
  have hl3 : l1.length ≤ 300 := by omega
  have hRe : R = logOf l0 (hears l0 (beginS l0, []) l1) := by rw [← HR.out]; unfold logF; rw [if_neg HNL.out, if_neg (by rw [HF.out]; simp), if_neg hmany]
  have HRE : Hid (R = logOf l0 (hears l0 (beginS l0, []) l1)) := hRe
  clear hRe hmany
  go_upto_region 7 with (go_at_call 19; go_must (refine co.mono ?_; rintro e w1 ⟨rfl, hb1⟩))
  obtain ⟨hin, hms⟩ := HCALL.out HF.out _ hb1
  have hlen := hin.len
  have hlen' : (l0.length : Int) ≤ 20 := by omega
  have HIN : Hid (SagaIn S w1.heap.size w1 a0 cap0 l0) := hin
  have HMS : Hid (MsgsAt S w1 (.slice a1 l1.length cap1) l1) := hms
  have HB1 : Hid (Below x0 w w1) := HB.out.trans (hb1.mono (by have := HSA.out; omega))
  have HK1 : Hid (Blk w1 x0 30 #[.int .i64 0, .int .i64 0, .slice none 0 0, .slice none 0 0, .slice none 0 0]) := HK.out.below hb1
  have HX1 : Hid (x0 < w1.heap.size) := by have := HSA.out; have := hb1.size; show _ < _; omega
  have cb := specBegin commandC hin
  clear co hin hms HB HK H0 H1 HS HOK HSA HCALL hb1
  go_upto_region 8 with (go_at_call 20; go_must (refine cb.mono ?_; rintro e w2 ⟨g, gi, gt, dv0, cv0, rfl, hrun⟩))
  clear cb
  have HR0 : Hid (RunS S w1.heap.size l0 a0 cap0 g gi gt dv0 (.slice none 0 0) cv0 w1 w2 (beginS l0) []) := hrun
  clear hrun
  have hbc : (beginS l0).cmds.length ≤ 20 := by have := fwd_cmds l0 (zeroS l0); simp only [zeroS, List.length_nil] at this; unfold beginS; simp only [zeroS]; omega
  have HBC : Hid ((beginS l0).cmds.length ≤ 20) := hbc
  clear hbc
  go_wp2_with fail
  go_loopw [6] (fun i6 wr => ∃ (k : Nat) (dv rv cv : Value) (q : Sg × List Int), i6 = .int .i64 (k : Int) ∧ k ≤ l1.length ∧ hears l0 (beginS l0, []) (l1.take k) = q ∧ q.2.length = k ∧ q.1.cmds.length ≤ 20 + k * 22 ∧ RunS S w1.heap.size l0 a0 cap0 g gi gt dv rv cv w1 wr q.1 q.2) (fun i6 _ => l1.length - (intOf i6).toNat)
  case atStart => exact ⟨0, dv0, _, cv0, (beginS l0, []), rfl, by omega, by simp [hears], rfl, by have := HBC.out; simpa using this, HR0.out⟩
  case round =>
    obtain ⟨k, dv, rv, cv, q, rfl, hk, hq, hq2, hqc, hR⟩ := hrel
    have HQ : Hid (hears l0 (beginS l0, []) (l1.take k) = q) := hq
    have HQ2 : Hid (q.2.length = k) := hq2
    have HQC : Hid (q.1.cmds.length ≤ 20 + k * 22) := hqc
    have HRR : Hid (RunS S w1.heap.size l0 a0 cap0 g gi gt dv rv cv w1 wr q.1 q.2) := hR
    clear hq hq2 hqc hR
    by_cases hkn : k < l1.length
    case pos =>
      have hkn' : (k : Int) < (l1.length : Int) := by omega
      obtain ⟨_, ma, mc, hmv, hmc⟩ := HMS.out
      simp only [Value.slice.injEq] at hmv
      obtain ⟨rfl, -, rfl⟩ := hmv
      obtain ⟨mb, mo, rfl, hmS, hmcell⟩ := hmc (by omega)
      have hmlt : mb < w1.heap.size := HIN.out.low mb hmS
      have m0 := (HRR.out.bel.cell (p := ⟨mb, mo + k * 2, none⟩) hmlt).trans (hmcell k hkn).1
      have m1 := (HRR.out.bel.cell (p := ⟨mb, mo + k * 2 + 1, none⟩) hmlt).trans (hmcell k hkn).2
      have htk := hears_take hkn HQ.out
      have hhc := hear_cmds HRR.out.ok HRR.out.saga.tries l1[k]
      obtain ⟨x, hx⟩ : ∃ x, l1[k] = x := ⟨_, rfl⟩
      rw [hx] at m0 m1 htk hhc
      obtain ⟨xs, xk⟩ := x
      dsimp only at m0 m1
      have cm := specMessage commandC HRR.out xs xk (by have := HQC.out; omega)
      obtain ⟨c9, hc9⟩ : ∃ c, codeS l0 q.1 ⟨xs, xk⟩ = c := ⟨_, rfl⟩
      obtain ⟨s9, hs9⟩ : ∃ s, hearS l0 q.1 ⟨xs, xk⟩ = s := ⟨_, rfl⟩
      rw [hc9, hs9] at htk cm
      rw [hs9] at hhc
      have HTK : Hid (hears l0 (beginS l0, []) (l1.take (k + 1)) = (s9, q.2 ++ [c9])) := htk
      have HHC : Hid (s9.cmds.length ≤ q.1.cmds.length + l0.length + 2) := hhc
      clear hmc hmcell htk hx hc9 hs9 hhc
      go_upto_region 12 with (go_at_call 21; go_must (refine cm.mono ?_; rintro e w3 ⟨rfl, dv3, cv3, H3⟩))
      clear cm m0 m1
      have HH3 : Hid (RunS S w1.heap.size l0 a0 cap0 g gi gt dv3 rv cv3 w1 w3 s9 q.2) := H3
      obtain ⟨ra, rc, hrv, -⟩ := H3.reps.value
      have hwb : Below w3.heap.size w3 (w3.alloc (.cells #[.int .i64 c9] 3)) := (Below.refl _ w3).alloc (Nat.le_refl _) _
      have c6 := H3.blk.cell 6
      simp at c6
      rw [hrv] at c6
      have H5 := H3.go hwb
      have hrl : q.2.length ≤ 1000 := by have := HQ2.out; omega
      clear H3
      go_upto_region 10 with (at_builtin; go_must (refine wpList_appendNumAt rfl (.tmp 45) (.tmp 47) rfl w1.heap.size rv q.2 (by simp [Act.eval, hrv]) H5.reps c9 rfl (NumsAt.newAt _ c9 _ (by simp)) (by omega) H5.size ?_; intro v9 w9 hown9 hB9 hgr9 hat9; obtain ⟨a9, k9, e9, -⟩ := hown9.value; obtain ⟨n9, hn9⟩ : ∃ n9, (q.2 ++ [c9]).length = n9 := ⟨_, rfl⟩; rw [hn9] at e9; clear hn9; subst e9; obtain ⟨hbk, H6⟩ := H5.growR hown9 hB9 hgr9 (H5.apartR hat9); have g6 := hbk.cell 6; have f6 := hbk.fro 6; simp at g6; rw [hrv] at g6))
      have HH6 : Hid (RunS S w1.heap.size l0 a0 cap0 g gi gt dv3 (.slice a9 n9 k9) cv3 w1 (w9.setCell ⟨g, 6, none⟩ (.slice a9 n9 k9)) s9 (q.2 ++ [c9])) := H6
      clear H5 H6 HH3 hbk g6 f6 c6 hown9 hB9 hgr9 hat9 hwb
      go_wp2_with fail
      refine ⟨⟨k + 1, dv3, _, cv3, (s9, q.2 ++ [c9]), rfl, by omega, HTK.out, by have := HQ2.out; simp; omega, by have := HHC.out; have := HQC.out; dsimp only; omega, HH6.out⟩, by simp [intOf]; omega⟩
    case neg =>
      obtain rfl : k = l1.length := by omega
      have hkn' : ¬ ((l1.length : Int) < (l1.length : Int)) := by omega
      have hq := HQ.out
      rw [List.take_length] at hq
      have hRq : R = logOf l0 q := by rw [HRE.out, hq]
      have HRQ : Hid (R = logOf l0 q) := hRq
      clear hq hRq
      obtain ⟨s, reps⟩ := q
      dsimp only at HRR
      have HE0 : Hid (RunE S w1.heap.size l0 a0 cap0 g gi gt dv rv cv (.slice none 0 0) w1 wr s reps []) := HRR.out.end'
      obtain ⟨wE, hwE⟩ : ∃ wE, wr = wE := ⟨_, rfl⟩
      subst hwE
      have hdl := done_len HRR.out.ok
      have hdl' : (s.done.length : Int) ≤ 20 := by omega
      clear HRR
      go_wp2_with fail
      go_loopw [8] (fun i8 wz => ∃ (k : Nat) (na : Option Addr) (nn nc : Nat), i8 = .int .i64 (k : Int) ∧ k ≤ s.done.length ∧ RunE S w1.heap.size l0 a0 cap0 g gi gt dv rv cv (.slice na nn nc) w1 wz s reps ((s.done.take k).map (nameAt l0))) (fun i8 _ => s.done.length - (intOf i8).toNat)
      case atStart => exact ⟨0, _, _, _, rfl, by omega, by simpa using HE0.out⟩
      case round =>
        clear HE0
        obtain ⟨k, na, nn, nc, rfl, hk, hE⟩ := hrel
        have HE : Hid (RunE S w1.heap.size l0 a0 cap0 g gi gt dv rv cv (.slice na nn nc) w1 wr s reps ((s.done.take k).map (nameAt l0))) := hE
        obtain ⟨da, dc, hdv, hdc⟩ := hE.done.natCells
        have c3 := hE.blk.cell 3
        simp at c3
        rw [hdv] at c3
        by_cases hkn : k < s.done.length
        case pos =>
          have hkn' : (k : Int) < (s.done.length : Int) := by omega
          obtain ⟨dg, rfl, hdB, hdg, hcell⟩ := hdc (by omega)
          have d1 := hcell k hkn
          have hjl := (hE.ok.dk _ (List.getElem_mem hkn)).1
          have htk : (s.done.take (k + 1)).map (nameAt l0) = (s.done.take k).map (nameAt l0) ++ [nameAt l0 s.done[k]] := by rw [List.take_succ_eq_append_getElem hkn, List.map_append]; rfl
          obtain ⟨b, off, rfl, hbB, hst⟩ := hE.stepCell
          have e1 := hst _ hjl
          obtain ⟨j, hj⟩ : ∃ j, s.done[k] = j := ⟨_, rfl⟩
          rw [hj] at d1 e1 htk
          simp only [hj] at hjl
          obtain ⟨nm, hnm⟩ : ∃ nm, nameAt l0 j = nm := ⟨_, rfl⟩
          rw [hnm] at e1 htk
          have HTK : Hid ((s.done.take (k + 1)).map (nameAt l0) = (s.done.take k).map (nameAt l0) ++ [nm]) := htk
          have hjl' : (j : Int) < (l0.length : Int) := by omega
          have hnl : ((s.done.take k).map (nameAt l0)).length ≤ 20 := by simp; omega
          have c8 := hE.blk.cell 8
          simp at c8
          have bz := hE.size
          have c8a : ∀ o, (wr.alloc o).cell? ⟨g, 8, none⟩ = some (.slice na nn nc) := fun o => (((Below.refl _ wr).alloc (Nat.le_refl _) o).cell (p := ⟨g, 8, none⟩) hE.blk.lt).trans c8
          have hn3 : some g ≠ (Value.slice na nn nc).ownBlock := Ne.symm (rowOff hE.nms hE.blk (by decide))
          have hnd : some dg ≠ (Value.slice na nn nc).ownBlock := by
            rcases rowApart hE.done hE.nms (by decide) with e | e
            · rw [hdv] at e; simp [Value.ownBlock] at e
            · rw [hdv] at e; exact e
          have hnb : some b ≠ (Value.slice na nn nc).ownBlock := fun e => by have := OwnTxts.block hE.nms b e.symm; omega
          have q1 : dg ≠ g := fun e => by
            have := rowOff hE.done hE.blk (by decide)
            rw [hdv] at this
            exact this (by rw [← e]; rfl)
          have q2 : b ≠ g := fun e => by have := hE.low; omega
          have HHE : ∀ W, Below wr.heap.size wr W → RunE S w1.heap.size l0 (some ⟨b, off, none⟩) cap0 g gi gt dv rv cv (.slice na nn nc) w1 W s reps ((s.done.take k).map (nameAt l0)) := fun W hW => HE.out.go hW
          have kp : ∀ W, Below wr.heap.size wr W → W.cell? ⟨g, 3, none⟩ = some (.slice (some ⟨dg, 0, none⟩) s.done.length dc) ∧ W.cell? ⟨dg, k, none⟩ = some (.int .i64 (j : Int)) ∧ W.cell? ⟨b, off + j * 4, none⟩ = some (.string nm) := fun W hW =>
            ⟨(hW.cell (p := ⟨g, 3, none⟩) hE.blk.lt).trans c3, (hW.cell (p := ⟨dg, k, none⟩) hdg).trans d1, (hW.cell (p := ⟨b, off + j * 4, none⟩) (by have := hE.size; show b < _; omega)).trans e1⟩
          have KP : Hid (∀ W, Below wr.heap.size wr W → W.cell? ⟨g, 3, none⟩ = some (.slice (some ⟨dg, 0, none⟩) s.done.length dc) ∧ W.cell? ⟨dg, k, none⟩ = some (.int .i64 (j : Int)) ∧ W.cell? ⟨b, off + j * 4, none⟩ = some (.string nm)) := kp
          have HHE' : Hid (∀ W, Below wr.heap.size wr W → RunE S w1.heap.size l0 (some ⟨b, off, none⟩) cap0 g gi gt dv rv cv (.slice na nn nc) w1 W s reps ((s.done.take k).map (nameAt l0))) := HHE
          clear hdc hcell hst htk hnm hj HHE kp hE KP hn3 hnd hnb q1 q2
          go_upto_region 16 with fail
          go_region_law (refine step_appendTxts rfl (.tmp 66) (.tmp 78) rfl w1.heap.size (.slice na nn nc) ((s.done.take k).map (nameAt l0)) (by simp [Act.eval]) (HHE'.out _ (((Below.refl _ wr).alloc (Nat.le_refl _) _).drew)).nms (.slice (some ⟨wr.heap.size, 0, none⟩) 1 1) [nm] (by simp [Act.eval]) (TxtsAt.new wr nm) (by simp; omega) (by simp; omega) ?_; intro va vn vc w4 hown4 hB4 hgr4 hnil4; obtain ⟨hb4, H4⟩ := (HHE'.out _ (((Below.refl _ wr).alloc (Nat.le_refl _) _).drew)).grow hown4 hB4 hgr4; have g8 := hb4.cell 8; have f8 := hb4.fro 8; simp at g8)
          all_goals
            have HH4 : Hid (RunE S w1.heap.size l0 (some ⟨b, off, none⟩) cap0 g gi gt dv rv cv (.slice va vn vc) w1 (w4.setCell ⟨g, 8, none⟩ (.slice va vn vc)) s reps ((s.done.take k).map (nameAt l0) ++ [nm])) := H4
            clear H4 hb4 g8 f8 hown4 hB4 hgr4 hnil4
            go_wp2_with fail
            refine ⟨⟨k + 1, va, vn, vc, rfl, by omega, ?_⟩, by simp [intOf]; omega⟩
            rw [HTK.out]; exact HH4.out
        case neg =>
          obtain rfl : k = s.done.length := by omega
          have hkn' : ¬ ((s.done.length : Int) < (s.done.length : Int)) := by omega
          have hE1 := HE.out
          rw [List.take_length] at hE1
          have HE1 : Hid (RunE S w1.heap.size l0 a0 cap0 g gi gt dv rv cv (.slice na nn nc) w1 wr s reps (s.done.map (nameAt l0))) := hE1
          have kW := (HE1.out.bel.block x0 HX1.out).trans HK1.out
          have HKW : Hid (Blk wr x0 30 #[.int .i64 0, .int .i64 0, .slice none 0 0, .slice none 0 0, .slice none 0 0]) := kW
          have c4 := hE.blk.cell 4
          have c5 := hE.blk.cell 5
          have c6 := hE.blk.cell 6
          have c7 := hE.blk.cell 7
          have c8 := hE.blk.cell 8
          simp at c4 c5 c6 c7 c8
          obtain ⟨ra, rc, hrv, -⟩ := hE.reps.value
          obtain ⟨ca, cc, hcv, -⟩ := hE.cmds.value
          rw [hrv] at c6
          rw [hcv] at c7
          have HRV : Hid (rv = .slice ra reps.length rc) := hrv
          have HCV : Hid (cv = .slice ca s.cmds.length cc) := hcv
          have r0 := HKW.out.cell 0
          have r1 := HKW.out.cell 1
          have r2 := HKW.out.cell 2
          have r3 := HKW.out.cell 3
          have r4 := HKW.out.cell 4
          have f0 := HKW.out.fro 0
          have f1 := HKW.out.fro 1
          have f2 := HKW.out.fro 2
          have f3 := HKW.out.fro 3
          have f4 := HKW.out.fro 4
          simp at r0 r1 r2 r3 r4
          have hgx : g ≠ x0 := by have := hE.low; have := HX1.out; omega
          clear hE hE1 HE kW hdc hrv hcv
          go_wp2_with fail
          obtain ⟨u0, u1, u2, u3, u4⟩ := set5_cells HKW.out (.int .i64 0) (.int .i64 s.st) (.slice ra reps.length rc) (.slice ca s.cmds.length cc) (.slice na nn nc)
          unfold set5 at u0 u1 u2 u3 u4
          (try simp only [Exit.inBlock, Exit.then])
          refine bodyPost_ret (v := .agg #[.int .i64 0, .int .i64 s.st, .slice ra reps.length rc, .slice ca s.cmds.length cc, .slice na nn nc]) (by rw [results_cell1 Tryd.results6]; simp [go_sem, u0, u1, u2, u3, u4]) rfl ?_
          have hx1 : x0 ≤ w1.heap.size := Nat.le_of_lt HX1.out
          refine ⟨⟨_, rfl, ?_⟩, set5_below (HB1.out.trans (HE1.out.bel.mono hx1)) (Nat.le_refl _) _ _ _ _ _⟩
          have hlg : OwnLog x0 wr (.agg #[.int .i64 0, .int .i64 s.st, .slice ra reps.length rc, .slice ca s.cmds.length cc, .slice na nn nc]) R := by
            rw [HRQ.out]
            refine ⟨_, _, _, rfl, ?_, ?_, OwnTxts.mono HE1.out.nms hx1⟩
            · rw [← HRV.out]; exact OwnNums.mono HE1.out.reps hx1
            · rw [← HCV.out]; exact OwnCmds.mono HE1.out.cmds hx1
          exact set5_log HKW.out hlg _ _ _ _ _
end Go.Proofs.YtbpijollcjdkhaaDoor
