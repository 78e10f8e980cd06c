/-
  What the document's RunSaga answers. A drawn saga: what spec's saga gives. A drawn saga: the walk of spec's saga. A saga that is answered ends: plain. A saga that is not over has a step that is asked or undoing: plain. How a saga ends that is answered always: plain. The done ones, sorted, are the steps whose state is done, in order: plain. How many messages a saga takes that is never stuck, of few tries a step: plain. No statement of the seat is proved here.
-/
import Derived.Test.YtlnfobeedpbnmaaDoorZj3
import Derived.Deep.Cut
import Derived.Deep.CutRange
import Derived.Deep.RegionHeld3
namespace Go.Proofs.YtlnfobeedpbnmaaDoor
open Go.ChangeShapes Go.WideShapes Go.ChangeAt Go.RowKit
set_option linter.unusedVariables false
set_option linter.unusedSimpArgs false

theorem commandC : CommandC 31 := fun h kind i hi hc => specCommand h kind i hi hc
theorem TxtsAt.newAt (w : World) (x : ByteArray) (g : Nat) (hg : w.heap.size = g) : TxtsAt (fun b => b = g) (w.alloc (.cells #[.string x] 9)) (.slice (some ⟨g, 0, none⟩) 1 1) [x] := by
  subst hg; exact TxtsAt.new w x
theorem StepsFull.keep {S : Nat → Prop} {w w' : World} {v : Value} {l : List Step} (h : StepsFull w v l) (hat : StepsAt S w v l) (hk : ∀ b i, S b → w'.cell? ⟨b, i, none⟩ = w.cell? ⟨b, i, none⟩) : StepsFull w' v l := by
  refine ⟨h.1, fun b off n c e i hi nv hn => h.2 b off n c e i hi nv ?_⟩
  obtain ⟨_, a, cap, hv, hc⟩ := hat
  obtain ⟨b', off', ha, hS, _⟩ := hc (by omega)
  rw [hv] at e
  simp only [Value.slice.injEq] at e
  obtain ⟨e, _, _⟩ := e
  rw [ha] at e
  simp only [Option.some.injEq, Addr.mk.injEq] at e
  rw [← e.1] at hn ⊢
  rw [← hk _ _ hS]; exact hn
/-- Five cells are stored. -/
def set5 (w : World) (x : Nat) (p0 p1 p2 p3 p4 : Value) : World := ((((w.setCell ⟨x, 0, none⟩ p0).setCell ⟨x, 1, none⟩ p1).setCell ⟨x, 2, none⟩ p2).setCell ⟨x, 3, none⟩ p3).setCell ⟨x, 4, none⟩ p4
theorem set5_blk {w : World} {x : Nat} {q0 q1 q2 q3 q4 : Value} (h : Blk w x 31 #[q0, q1, q2, q3, q4]) (p0 p1 p2 p3 p4 : Value) : Blk (set5 w x p0 p1 p2 p3 p4) x 31 #[p0, p1, p2, p3, p4] :=
  ((((h.set 0 p0).set 1 p1).set 2 p2).set 3 p3).set 4 p4
theorem set5_below {B : Nat} {w w' : World} {x : Nat} (h : Below B w w') (hx : B ≤ x) (p0 p1 p2 p3 p4 : Value) : Below B w (set5 w' x p0 p1 p2 p3 p4) :=
  ((((h.setCell hx p0).setCell hx p1).setCell hx p2).setCell hx p3).setCell hx p4
theorem set5_row {w : World} {x B n k : Nat} {E : TypeId} {v : Value} {xs : List Value} (h : w.ownsRow B E k v n xs) (ho : Off v x) (p0 p1 p2 p3 p4 : Value) : (set5 w x p0 p1 p2 p3 p4).ownsRow B E k v n xs :=
  ownsRow_set (ownsRow_set (ownsRow_set (ownsRow_set (ownsRow_set h ho p0) ho p1) ho p2) ho p3) ho p4
theorem set5_log {w : World} {x B : Nat} {q0 q1 q2 q3 q4 v : Value} {g : Log} (hk : Blk w x 31 #[q0, q1, q2, q3, q4]) (h : OwnLog B w v g) (p0 p1 p2 p3 p4 : Value) : OwnLog B (set5 w x p0 p1 p2 p3 p4) v g := by
  obtain ⟨rv, cv, nv, hv, h1, h2, h3⟩ := h
  exact ⟨rv, cv, nv, hv, set5_row h1 (rowOff h1 hk (by decide)) _ _ _ _ _, set5_row h2 (rowOff h2 hk (by decide)) _ _ _ _ _, set5_row h3 (rowOff h3 hk (by decide)) _ _ _ _ _⟩
theorem set5_cells {w : World} {x : Nat} {q0 q1 q2 q3 q4 : Value} (h : Blk w x 31 #[q0, q1, q2, q3, q4]) (p0 p1 p2 p3 p4 : Value) : (set5 w x p0 p1 p2 p3 p4).cell? ⟨x, 0, none⟩ = some p0 ∧ (set5 w x p0 p1 p2 p3 p4).cell? ⟨x, 1, none⟩ = some p1 ∧ (set5 w x p0 p1 p2 p3 p4).cell? ⟨x, 2, none⟩ = some p2 ∧ (set5 w x p0 p1 p2 p3 p4).cell? ⟨x, 3, none⟩ = some p3 ∧ (set5 w x p0 p1 p2 p3 p4).cell? ⟨x, 4, none⟩ = some p4 := by
  have hb := set5_blk h p0 p1 p2 p3 p4
  exact ⟨hb.cell 0, hb.cell 1, hb.cell 2, hb.cell 3, hb.cell 4⟩
theorem OwnLog.mono {B B' : Nat} {w : World} {v : Value} {x : Log} (h : OwnLog B w v x) (hB : B' ≤ B) : OwnLog B' w v x := by
  obtain ⟨rv, cv, nv, hv, h1, h2, h3⟩ := h
  exact ⟨rv, cv, nv, hv, OwnNums.mono h1 hB, OwnCmds.mono h2 hB, OwnTxts.mono h3 hB⟩
set_option maxRecDepth 100000 in
set_option maxHeartbeats 16000000 in
theorem specRunSaga (T : World → Prop) : RunSagaC 6 T logF := by
  intro S l0 l1 v0 v1 w hS h0 hl0 hok hfull h1 hl1 hT
  obtain ⟨a0, cap0, rfl⟩ := h0.shape
  obtain ⟨a1, cap1, rfl⟩ := h1.shape
  have hl0' : (l0.length : Int) ≤ 1048576 := by omega
  have hl1' : (l1.length : Int) ≤ 1048576 := by omega
  have bA : Below w.heap.size w (w.alloc (.cells #[.int .i64 0, .int .i64 0, .slice none 0 0, .slice none 0 0, .slice none 0 0] 31)) := (Below.refl _ w).alloc (Nat.le_refl _) _
  have kA : Blk (w.alloc (.cells #[.int .i64 0, .int .i64 0, .slice none 0 0, .slice none 0 0, .slice none 0 0] 31)) w.heap.size 31 #[.int .i64 0, .int .i64 0, .slice none 0 0, .slice none 0 0, .slice none 0 0] := heap_alloc_last w _
  obtain ⟨wa, hwa⟩ : ∃ wa, w.alloc (.cells #[.int .i64 0, .int .i64 0, .slice none 0 0, .slice none 0 0, .slice none 0 0] 31) = wa := ⟨_, rfl⟩
  rw [hwa] at bA kA
  obtain ⟨x0, hx0⟩ : ∃ x0, w.heap.size = x0 := ⟨_, rfl⟩
  have sA : wa.heap.size = x0 + 1 := by rw [← hwa, ← hx0]; simp
  have hS' : ∀ b, S b → b < wa.heap.size := fun b hb => Nat.lt_of_lt_of_le (hS b hb) bA.size
  have h0' : StepsAt S wa (.slice a0 l0.length cap0) l0 := h0.keep (cells_below hS bA)
  have h1' : MsgsAt S wa (.slice a1 l1.length cap1) l1 := h1.keep (cells_below hS bA)
  have hfull' : StepsFull wa (.slice a0 l0.length cap0) l0 := StepsFull.keep hfull h0 (cells_below hS bA)
  have co := specSaga T S l0 (.slice a0 l0.length cap0) wa hS' h0' hl0 hok hfull' (fun W hW => hT W (good_below bA hW))
  rw [hx0] at bA kA ⊢
  have HB : Hid (Below x0 w wa) := bA
  have HK : Hid (Blk wa x0 31 #[.int .i64 0, .int .i64 0, .slice none 0 0, .slice none 0 0, .slice none 0 0]) := kA
  have H0 : Hid (StepsAt S wa (.slice a0 l0.length cap0) l0) := h0'
  have H1 : Hid (MsgsAt S wa (.slice a1 l1.length cap1) l1) := h1'
  have HS : Hid (∀ b, S b → b < wa.heap.size) := hS'
  have HOK : Hid (∀ x ∈ l0, StepsOK 1048576 x) := hok
  have HSA : Hid (wa.heap.size = x0 + 1) := sA
  obtain ⟨R, hR⟩ : ∃ R, logF l0 l1 = R := ⟨_, rfl⟩
  rw [hR]
  have HR : Hid (logF l0 l1 = R) := hR
  clear hS hfull h0 h1 hok hT hS' h0' h1' hfull' bA kA sA hR
  go_enter Tryd.func6, Tryd.ntmps6
  go_upto_region 1 with fail
  clear hwa hx0
  have r0 := HK.out.cell 0
  have r1 := HK.out.cell 1
  have r2 := HK.out.cell 2
  have r3 := HK.out.cell 3
  have r4 := HK.out.cell 4
  have f0 := HK.out.fro 0
  have f1 := HK.out.fro 1
  have f2 := HK.out.fro 2
  have f3 := HK.out.fro 3
  have f4 := HK.out.fro 4
  simp at r0 r1 r2 r3 r4
  by_cases hlong : 4096 < l0.length ∨ 4096 < l1.length
  case pos =>
    have hRe : R = ⟨2, 0, [], [], []⟩ := by rw [← HR.out]; unfold logF; rw [if_pos hlong]
    subst hRe
    clear co
    by_cases hlo : 4096 < l0.length
    all_goals
      have hlo' : (4096 : Int) < (l0.length : Int) ∨ (4096 : Int) < (l1.length : Int) := by omega
      go_wp2_with fail
      obtain ⟨u0, u1, u2, u3, u4⟩ := set5_cells HK.out (.int .i64 2) (.int .i64 0) (.slice none 0 0) (.slice none 0 0) (.slice none 0 0)
      unfold set5 at u0 u1 u2 u3 u4
      (try simp only [Exit.inBlock, Exit.then])
      refine bodyPost_ret (v := .agg #[.int .i64 2, .int .i64 0, .slice none 0 0, .slice none 0 0, .slice none 0 0]) (by rw [results_cell1 Tryd.results6]; simp [go_sem, u0, u1, u2, u3, u4]) rfl ?_
      exact ⟨⟨_, rfl, OwnLog.bare _ _ 2⟩, set5_below HB.out (Nat.le_refl _) _ _ _ _ _⟩
  have hnl0 : ¬ ((4096 : Int) < (l0.length : Int)) := by omega
  have hnl1 : ¬ ((4096 : Int) < (l1.length : Int)) := by omega
  obtain ⟨F, hF⟩ : ∃ F, sagaB l0 = F := ⟨_, rfl⟩
  rw [hF] at co
  have HF : Hid (sagaB l0 = F) := hF
  clear hF
  have call1 : ∀ (hS1 : sagaB l0 = true) (w1 : World), Below wa.heap.size wa w1 → SagaIn S w1.heap.size w1 a0 cap0 l0 ∧ MsgsAt S w1 (.slice a1 l1.length cap1) l1 := fun hS1 w1 hb1 =>
    ⟨saga_in (fun b hb => Nat.lt_of_lt_of_le (HS.out b hb) hb1.size) (H0.out.keep (cells_below HS.out hb1)) HOK.out hS1, H1.out.keep (cells_below HS.out hb1)⟩
  have HCALL : Hid (∀ (hS1 : sagaB l0 = true) (w1 : World), Below wa.heap.size wa w1 → SagaIn S w1.heap.size w1 a0 cap0 l0 ∧ MsgsAt S w1 (.slice a1 l1.length cap1) l1) := call1
  clear call1 r0 r1 r2 r3 r4 f0 f1 f2 f3 f4
  cases F
  case false =>
    have hRe : R = ⟨1, 0, [], [], []⟩ := by rw [← HR.out]; unfold logF; rw [if_neg hlong, if_pos HF.out]
    subst hRe
    go_upto_region 4 with (go_at_call 16; go_must (refine co.mono ?_; rintro e w1 ⟨rfl, hb1⟩))
    have kB := HK.out.below hb1
    have r0 := kB.cell 0
    have r1 := kB.cell 1
    have r2 := kB.cell 2
    have r3 := kB.cell 3
    have r4 := kB.cell 4
    have f0 := kB.fro 0
    have f1 := kB.fro 1
    have f2 := kB.fro 2
    have f3 := kB.fro 3
    have f4 := kB.fro 4
    simp at r0 r1 r2 r3 r4
    go_wp2_with fail
    obtain ⟨u0, u1, u2, u3, u4⟩ := set5_cells kB (.int .i64 1) (.int .i64 0) (.slice none 0 0) (.slice none 0 0) (.slice none 0 0)
    unfold set5 at u0 u1 u2 u3 u4
    (try simp only [Exit.inBlock, Exit.then])
    refine bodyPost_ret (v := .agg #[.int .i64 1, .int .i64 0, .slice none 0 0, .slice none 0 0, .slice none 0 0]) (by rw [results_cell1 Tryd.results6]; simp [go_sem, u0, u1, u2, u3, u4]) rfl ?_
    exact ⟨⟨_, rfl, OwnLog.bare _ _ 1⟩, set5_below (HB.out.trans (hb1.mono (by have := HSA.out; omega))) (Nat.le_refl _) _ _ _ _ _⟩
  have hlong' := hlong
  clear hlong
  have HNL : Hid (¬ (4096 < l0.length ∨ 4096 < l1.length)) := hlong'
  clear hlong'
  by_cases hmany : 300 < l1.length
  case pos =>
    have hmany' : (300 : Int) < (l1.length : Int) := by omega
    have hRe : R = ⟨10, 0, [], [], []⟩ := by rw [← HR.out]; unfold logF; rw [if_neg HNL.out, if_neg (by rw [HF.out]; simp), if_pos hmany]
    subst hRe
    go_upto_region 6 with (go_at_call 16; go_must (refine co.mono ?_; rintro e w1 ⟨rfl, hb1⟩))
    have kB := HK.out.below hb1
    have r0 := kB.cell 0
    have r1 := kB.cell 1
    have r2 := kB.cell 2
    have r3 := kB.cell 3
    have r4 := kB.cell 4
    have f0 := kB.fro 0
    have f1 := kB.fro 1
    have f2 := kB.fro 2
    have f3 := kB.fro 3
    have f4 := kB.fro 4
    simp at r0 r1 r2 r3 r4
    go_wp2_with fail
    obtain ⟨u0, u1, u2, u3, u4⟩ := set5_cells kB (.int .i64 10) (.int .i64 0) (.slice none 0 0) (.slice none 0 0) (.slice none 0 0)
    unfold set5 at u0 u1 u2 u3 u4
    (try simp only [Exit.inBlock, Exit.then])
    refine bodyPost_ret (v := .agg #[.int .i64 10, .int .i64 0, .slice none 0 0, .slice none 0 0, .slice none 0 0]) (by rw [results_cell1 Tryd.results6]; simp [go_sem, u0, u1, u2, u3, u4]) rfl ?_
    exact ⟨⟨_, rfl, OwnLog.bare _ _ 10⟩, set5_below (HB.out.trans (hb1.mono (by have := HSA.out; omega))) (Nat.le_refl _) _ _ _ _ _⟩
  have hmany' : ¬ ((300 : Int) < (l1.length : Int)) := by omega
  have hl3 : l1.length ≤ 300 := by omega
  have hRe : R = logOf l0 (hears l0 (beginS l0, []) l1) := by rw [← HR.out]; unfold logF; rw [if_neg HNL.out, if_neg (by rw [HF.out]; simp), if_neg hmany]
  have HRE : Hid (R = logOf l0 (hears l0 (beginS l0, []) l1)) := hRe
  clear hRe hmany
  go_upto_region 7 with (go_at_call 16; go_must (refine co.mono ?_; rintro e w1 ⟨rfl, hb1⟩))
  obtain ⟨hin, hms⟩ := HCALL.out HF.out _ hb1
  have hlen := hin.len
  have hlen' : (l0.length : Int) ≤ 20 := by omega
  have HIN : Hid (SagaIn S w1.heap.size w1 a0 cap0 l0) := hin
  have HMS : Hid (MsgsAt S w1 (.slice a1 l1.length cap1) l1) := hms
  have HB1 : Hid (Below x0 w w1) := HB.out.trans (hb1.mono (by have := HSA.out; omega))
  have HK1 : Hid (Blk w1 x0 31 #[.int .i64 0, .int .i64 0, .slice none 0 0, .slice none 0 0, .slice none 0 0]) := HK.out.below hb1
  have HX1 : Hid (x0 < w1.heap.size) := by have := HSA.out; have := hb1.size; show _ < _; omega
  have cb := specBegin commandC hin
  clear co hin hms HB HK H0 H1 HS HOK HSA HCALL hb1
  go_upto_region 8 with (go_at_call 17; go_must (refine cb.mono ?_; rintro e w2 ⟨g, gi, gt, dv0, cv0, rfl, hrun⟩))
  clear cb
  have HR0 : Hid (RunS S w1.heap.size l0 a0 cap0 g gi gt dv0 (.slice none 0 0) cv0 w1 w2 (beginS l0) []) := hrun
  clear hrun
  have hbc : (beginS l0).cmds.length ≤ 20 := by have := fwd_cmds l0 (zeroS l0); simp only [zeroS, List.length_nil] at this; unfold beginS; simp only [zeroS]; omega
  have HBC : Hid ((beginS l0).cmds.length ≤ 20) := hbc
  clear hbc
  go_wp2_with fail
  go_loopw [6] (fun i6 wr => ∃ (k : Nat) (dv rv cv : Value) (q : Sg × List Int), i6 = .int .i64 (k : Int) ∧ k ≤ l1.length ∧ hears l0 (beginS l0, []) (l1.take k) = q ∧ q.2.length = k ∧ q.1.cmds.length ≤ 20 + k * 22 ∧ RunS S w1.heap.size l0 a0 cap0 g gi gt dv rv cv w1 wr q.1 q.2) (fun i6 _ => l1.length - (intOf i6).toNat)
  case atStart => exact ⟨0, dv0, _, cv0, (beginS l0, []), rfl, by omega, by simp [hears], rfl, by have := HBC.out; simpa using this, HR0.out⟩
  case round =>
    obtain ⟨k, dv, rv, cv, q, rfl, hk, hq, hq2, hqc, hR⟩ := hrel
    have HQ : Hid (hears l0 (beginS l0, []) (l1.take k) = q) := hq
    have HQ2 : Hid (q.2.length = k) := hq2
    have HQC : Hid (q.1.cmds.length ≤ 20 + k * 22) := hqc
    have HRR : Hid (RunS S w1.heap.size l0 a0 cap0 g gi gt dv rv cv w1 wr q.1 q.2) := hR
    clear hq hq2 hqc hR
    by_cases hkn : k < l1.length
    case pos =>
      have hkn' : (k : Int) < (l1.length : Int) := by omega
      obtain ⟨_, ma, mc, hmv, hmc⟩ := HMS.out
      simp only [Value.slice.injEq] at hmv
      obtain ⟨rfl, -, rfl⟩ := hmv
      obtain ⟨mb, mo, rfl, hmS, hmcell⟩ := hmc (by omega)
      have hmlt : mb < w1.heap.size := HIN.out.low mb hmS
      have m0 := (HRR.out.bel.cell (p := ⟨mb, mo + k * 2, none⟩) hmlt).trans (hmcell k hkn).1
      have m1 := (HRR.out.bel.cell (p := ⟨mb, mo + k * 2 + 1, none⟩) hmlt).trans (hmcell k hkn).2
      have htk := hears_take hkn HQ.out
      have hhc := hear_cmds HRR.out.ok HRR.out.saga.tries l1[k]
      obtain ⟨x, hx⟩ : ∃ x, l1[k] = x := ⟨_, rfl⟩
      rw [hx] at m0 m1 htk hhc
      obtain ⟨xs, xk⟩ := x
      dsimp only at m0 m1
      have cm := specMessage commandC HRR.out xs xk (by have := HQC.out; omega)
      obtain ⟨c9, hc9⟩ : ∃ c, codeS l0 q.1 ⟨xs, xk⟩ = c := ⟨_, rfl⟩
      obtain ⟨s9, hs9⟩ : ∃ s, hearS l0 q.1 ⟨xs, xk⟩ = s := ⟨_, rfl⟩
      rw [hc9, hs9] at htk cm
      rw [hs9] at hhc
      have HTK : Hid (hears l0 (beginS l0, []) (l1.take (k + 1)) = (s9, q.2 ++ [c9])) := htk
      have HHC : Hid (s9.cmds.length ≤ q.1.cmds.length + l0.length + 2) := hhc
      clear hmc hmcell htk hx hc9 hs9 hhc
      go_upto_region 12 with (go_at_call 18; go_must (refine cm.mono ?_; rintro e w3 ⟨rfl, dv3, cv3, H3⟩))
      clear cm m0 m1
      have HH3 : Hid (RunS S w1.heap.size l0 a0 cap0 g gi gt dv3 rv cv3 w1 w3 s9 q.2) := H3
      obtain ⟨ra, rc, hrv, -⟩ := H3.reps.value
      have hwb : Below w3.heap.size w3 (w3.alloc (.cells #[.int .i64 c9] 3)) := (Below.refl _ w3).alloc (Nat.le_refl _) _
      have c6 := H3.blk.cell 6
      simp at c6
      rw [hrv] at c6
      have H5 := H3.go hwb
      have hrl : q.2.length ≤ 1000 := by have := HQ2.out; omega
      clear H3
      go_upto_region 10 with (at_builtin; go_must (refine wpList_appendNumAt rfl (.tmp 45) (.tmp 47) rfl w1.heap.size rv q.2 (by simp [Act.eval, hrv]) H5.reps c9 rfl (NumsAt.newAt _ c9 _ (by simp)) (by omega) H5.size ?_; intro v9 w9 hown9 hB9 hgr9 hat9; obtain ⟨a9, k9, e9, -⟩ := hown9.value; obtain ⟨n9, hn9⟩ : ∃ n9, (q.2 ++ [c9]).length = n9 := ⟨_, rfl⟩; rw [hn9] at e9; clear hn9; subst e9; obtain ⟨hbk, H6⟩ := H5.growR hown9 hB9 hgr9 (H5.apartR hat9); have g6 := hbk.cell 6; have f6 := hbk.fro 6; simp at g6; rw [hrv] at g6))
      have HH6 : Hid (RunS S w1.heap.size l0 a0 cap0 g gi gt dv3 (.slice a9 n9 k9) cv3 w1 (w9.setCell ⟨g, 6, none⟩ (.slice a9 n9 k9)) s9 (q.2 ++ [c9])) := H6
      clear H5 H6 HH3 hbk g6 f6 c6 hown9 hB9 hgr9 hat9 hwb
      go_wp2_with fail
      refine ⟨⟨k + 1, dv3, _, cv3, (s9, q.2 ++ [c9]), rfl, by omega, HTK.out, by have := HQ2.out; simp; omega, by have := HHC.out; have := HQC.out; dsimp only; omega, HH6.out⟩, by simp [intOf]; omega⟩
    case neg =>
      obtain rfl : k = l1.length := by omega
      have hkn' : ¬ ((l1.length : Int) < (l1.length : Int)) := by omega
      have hq := HQ.out
      rw [List.take_length] at hq
      have hRq : R = logOf l0 q := by rw [HRE.out, hq]
      have HRQ : Hid (R = logOf l0 q) := hRq
      clear hq hRq
      obtain ⟨s, reps⟩ := q
      dsimp only at HRR
      have HE0 : Hid (RunE S w1.heap.size l0 a0 cap0 g gi gt dv rv cv (.slice none 0 0) w1 wr s reps []) := HRR.out.end'
      obtain ⟨wE, hwE⟩ : ∃ wE, wr = wE := ⟨_, rfl⟩
      subst hwE
      have hdl := done_len HRR.out.ok
      have hdl' : (s.done.length : Int) ≤ 20 := by omega
      clear HRR
      go_wp2_with fail
      go_loopw [8] (fun i8 wz => ∃ (k : Nat) (na : Option Addr) (nn nc : Nat), i8 = .int .i64 (k : Int) ∧ k ≤ s.done.length ∧ RunE S w1.heap.size l0 a0 cap0 g gi gt dv rv cv (.slice na nn nc) w1 wz s reps ((s.done.take k).map (nameAt l0))) (fun i8 _ => s.done.length - (intOf i8).toNat)
      case atStart => exact ⟨0, _, _, _, rfl, by omega, by simpa using HE0.out⟩
      case round =>
        clear HE0
        obtain ⟨k, na, nn, nc, rfl, hk, hE⟩ := hrel
        have HE : Hid (RunE S w1.heap.size l0 a0 cap0 g gi gt dv rv cv (.slice na nn nc) w1 wr s reps ((s.done.take k).map (nameAt l0))) := hE
        obtain ⟨da, dc, hdv, hdc⟩ := hE.done.natCells
        have c3 := hE.blk.cell 3
        simp at c3
        rw [hdv] at c3
        by_cases hkn : k < s.done.length
        case pos =>
          have hkn' : (k : Int) < (s.done.length : Int) := by omega
          obtain ⟨dg, rfl, hdB, hdg, hcell⟩ := hdc (by omega)
          have d1 := hcell k hkn
          have hjl := (hE.ok.dk _ (List.getElem_mem hkn)).1
          have htk : (s.done.take (k + 1)).map (nameAt l0) = (s.done.take k).map (nameAt l0) ++ [nameAt l0 s.done[k]] := by rw [List.take_succ_eq_append_getElem hkn, List.map_append]; rfl
          obtain ⟨b, off, rfl, hbB, hst⟩ := hE.stepCell
          have e1 := hst _ hjl
          obtain ⟨j, hj⟩ : ∃ j, s.done[k] = j := ⟨_, rfl⟩
          rw [hj] at d1 e1 htk
          simp only [hj] at hjl
          obtain ⟨nm, hnm⟩ : ∃ nm, nameAt l0 j = nm := ⟨_, rfl⟩
          rw [hnm] at e1 htk
          have HTK : Hid ((s.done.take (k + 1)).map (nameAt l0) = (s.done.take k).map (nameAt l0) ++ [nm]) := htk
          have hjl' : (j : Int) < (l0.length : Int) := by omega
          have hnl : ((s.done.take k).map (nameAt l0)).length ≤ 20 := by simp; omega
          have c8 := hE.blk.cell 8
          simp at c8
          have bz := hE.size
          have c8a : ∀ o, (wr.alloc o).cell? ⟨g, 8, none⟩ = some (.slice na nn nc) := fun o => (((Below.refl _ wr).alloc (Nat.le_refl _) o).cell (p := ⟨g, 8, none⟩) hE.blk.lt).trans c8
          have hn3 : some g ≠ (Value.slice na nn nc).ownBlock := Ne.symm (rowOff hE.nms hE.blk (by decide))
          have hnd : some dg ≠ (Value.slice na nn nc).ownBlock := by
            rcases rowApart hE.done hE.nms (by decide) with e | e
            · rw [hdv] at e; simp [Value.ownBlock] at e
            · rw [hdv] at e; exact e
          have hnb : some b ≠ (Value.slice na nn nc).ownBlock := fun e => by have := OwnTxts.block hE.nms b e.symm; omega
          have q1 : dg ≠ g := fun e => by
            have := rowOff hE.done hE.blk (by decide)
            rw [hdv] at this
            exact this (by rw [← e]; rfl)
          have q2 : b ≠ g := fun e => by have := hE.low; omega
          have HHE : ∀ W, Below wr.heap.size wr W → RunE S w1.heap.size l0 (some ⟨b, off, none⟩) cap0 g gi gt dv rv cv (.slice na nn nc) w1 W s reps ((s.done.take k).map (nameAt l0)) := fun W hW => HE.out.go hW
          have kp : ∀ W, Below wr.heap.size wr W → W.cell? ⟨g, 3, none⟩ = some (.slice (some ⟨dg, 0, none⟩) s.done.length dc) ∧ W.cell? ⟨dg, k, none⟩ = some (.int .i64 (j : Int)) ∧ W.cell? ⟨b, off + j * 4, none⟩ = some (.string nm) := fun W hW =>
            ⟨(hW.cell (p := ⟨g, 3, none⟩) hE.blk.lt).trans c3, (hW.cell (p := ⟨dg, k, none⟩) hdg).trans d1, (hW.cell (p := ⟨b, off + j * 4, none⟩) (by have := hE.size; show b < _; omega)).trans e1⟩
          have KP : Hid (∀ W, Below wr.heap.size wr W → W.cell? ⟨g, 3, none⟩ = some (.slice (some ⟨dg, 0, none⟩) s.done.length dc) ∧ W.cell? ⟨dg, k, none⟩ = some (.int .i64 (j : Int)) ∧ W.cell? ⟨b, off + j * 4, none⟩ = some (.string nm)) := kp
          have HHE' : Hid (∀ W, Below wr.heap.size wr W → RunE S w1.heap.size l0 (some ⟨b, off, none⟩) cap0 g gi gt dv rv cv (.slice na nn nc) w1 W s reps ((s.done.take k).map (nameAt l0))) := HHE
          clear hdc hcell hst htk hnm hj HHE kp hE KP hn3 hnd hnb q1 q2
          go_upto_region 16 with fail
          go_region_law (refine step_appendTxts rfl (.tmp 66) (.tmp 78) rfl w1.heap.size (.slice na nn nc) ((s.done.take k).map (nameAt l0)) (by simp [Act.eval]) (HHE'.out _ (((Below.refl _ wr).alloc (Nat.le_refl _) _).drew)).nms (.slice (some ⟨wr.heap.size, 0, none⟩) 1 1) [nm] (by simp [Act.eval]) (TxtsAt.new wr nm) (by simp; omega) (by simp; omega) ?_; intro va vn vc w4 hown4 hB4 hgr4 hnil4; obtain ⟨hb4, H4⟩ := (HHE'.out _ (((Below.refl _ wr).alloc (Nat.le_refl _) _).drew)).grow hown4 hB4 hgr4; have g8 := hb4.cell 8; have f8 := hb4.fro 8; simp at g8)
          all_goals
            have HH4 : Hid (RunE S w1.heap.size l0 (some ⟨b, off, none⟩) cap0 g gi gt dv rv cv (.slice va vn vc) w1 (w4.setCell ⟨g, 8, none⟩ (.slice va vn vc)) s reps ((s.done.take k).map (nameAt l0) ++ [nm])) := H4
            clear H4 hb4 g8 f8 hown4 hB4 hgr4 hnil4
            go_wp2_with fail
            refine ⟨⟨k + 1, va, vn, vc, rfl, by omega, ?_⟩, by simp [intOf]; omega⟩
            rw [HTK.out]; exact HH4.out
        case neg =>
          obtain rfl : k = s.done.length := by omega
          have hkn' : ¬ ((s.done.length : Int) < (s.done.length : Int)) := by omega
          have hE1 := HE.out
          rw [List.take_length] at hE1
          have HE1 : Hid (RunE S w1.heap.size l0 a0 cap0 g gi gt dv rv cv (.slice na nn nc) w1 wr s reps (s.done.map (nameAt l0))) := hE1
          have kW := (HE1.out.bel.block x0 HX1.out).trans HK1.out
          have HKW : Hid (Blk wr x0 31 #[.int .i64 0, .int .i64 0, .slice none 0 0, .slice none 0 0, .slice none 0 0]) := kW
          have c4 := hE.blk.cell 4
          have c5 := hE.blk.cell 5
          have c6 := hE.blk.cell 6
          have c7 := hE.blk.cell 7
          have c8 := hE.blk.cell 8
          simp at c4 c5 c6 c7 c8
          obtain ⟨ra, rc, hrv, -⟩ := hE.reps.value
          obtain ⟨ca, cc, hcv, -⟩ := hE.cmds.value
          rw [hrv] at c6
          rw [hcv] at c7
          have HRV : Hid (rv = .slice ra reps.length rc) := hrv
          have HCV : Hid (cv = .slice ca s.cmds.length cc) := hcv
          have r0 := HKW.out.cell 0
          have r1 := HKW.out.cell 1
          have r2 := HKW.out.cell 2
          have r3 := HKW.out.cell 3
          have r4 := HKW.out.cell 4
          have f0 := HKW.out.fro 0
          have f1 := HKW.out.fro 1
          have f2 := HKW.out.fro 2
          have f3 := HKW.out.fro 3
          have f4 := HKW.out.fro 4
          simp at r0 r1 r2 r3 r4
          have hgx : g ≠ x0 := by have := hE.low; have := HX1.out; omega
          clear hE hE1 HE kW hdc hrv hcv
          go_wp2_with fail
          obtain ⟨u0, u1, u2, u3, u4⟩ := set5_cells HKW.out (.int .i64 0) (.int .i64 s.st) (.slice ra reps.length rc) (.slice ca s.cmds.length cc) (.slice na nn nc)
          unfold set5 at u0 u1 u2 u3 u4
          (try simp only [Exit.inBlock, Exit.then])
          refine bodyPost_ret (v := .agg #[.int .i64 0, .int .i64 s.st, .slice ra reps.length rc, .slice ca s.cmds.length cc, .slice na nn nc]) (by rw [results_cell1 Tryd.results6]; simp [go_sem, u0, u1, u2, u3, u4]) rfl ?_
          have hx1 : x0 ≤ w1.heap.size := Nat.le_of_lt HX1.out
          refine ⟨⟨_, rfl, ?_⟩, set5_below (HB1.out.trans (HE1.out.bel.mono hx1)) (Nat.le_refl _) _ _ _ _ _⟩
          have hlg : OwnLog x0 wr (.agg #[.int .i64 0, .int .i64 s.st, .slice ra reps.length rc, .slice ca s.cmds.length cc, .slice na nn nc]) R := by
            rw [HRQ.out]
            refine ⟨_, _, _, rfl, ?_, ?_, OwnTxts.mono HE1.out.nms hx1⟩
            · rw [← HRV.out]; exact OwnNums.mono HE1.out.reps hx1
            · rw [← HCV.out]; exact OwnCmds.mono HE1.out.cmds hx1
          exact set5_log HKW.out hlg _ _ _ _ _
end Go.Proofs.YtlnfobeedpbnmaaDoor

namespace Go.Proofs.YtlnfobeedpbnmaaDoor
open Go.ChangeShapes Go.WideShapes Go.ChangeAt Go.RowKit
set_option linter.unusedVariables false
set_option linter.unusedSimpArgs false

theorem Blk.only {g b : Nat} {ty : TypeId} {cs : Array Value} {w w' : World} (h : Blk w b ty cs) (ho : Only g w w') (hg : b ≠ g) : Blk w' b ty cs := (ho.2 b h.lt hg).trans h
theorem Src.set' {B g : Nat} {a : Option Addr} {len cap A : Nat} {w0 w : World} (h : Src B g a len cap A w0 w) {x : Nat} (hx : x ≠ g) (hB : B ≤ x) (i : Nat) (v : Value) : Src B g a len cap A w0 (w.setCell ⟨x, i, none⟩ v) := by
  obtain ⟨p, sd, h1, h2, h3⟩ := h.blk
  exact ⟨⟨p, sd, (Below.heap_setCell w ⟨x, i, none⟩ v g (fun e => hx e.symm)).trans h1, h2, h3⟩, h.ge, h.below.setCell hB _, h.code⟩
theorem Only.set' {g : Nat} {w w1 : World} (h : Only g w w1) {x : Nat} (hx : w.heap.size ≤ x) (i : Nat) (v : Value) : Only g w (w1.setCell ⟨x, i, none⟩ v) :=
  ⟨by rw [World.size_setCell]; exact h.1, fun k hk hg => (Below.heap_setCell w1 ⟨x, i, none⟩ v k (by show k ≠ x; omega)).trans (h.2 k hk hg)⟩
theorem Src.grown {B g : Nat} {a : Option Addr} {len cap A : Nat} {w0 w w' : World} {C : Nat} (h : Src B g a len cap A w0 w) (hb : Below C w w') (hC : g < C) (hBC : B ≤ C) : Src B g a len cap A w0 w' := by
  obtain ⟨p, sd, h1, h2, h3⟩ := h.blk
  exact ⟨⟨p, sd, (hb.block g hC).trans h1, h2, h3⟩, h.ge, h.below.trans (hb.mono hBC), h.code⟩
theorem Only.grown {g : Nat} {w w1 w2 : World} (h : Only g w w1) (hb : Below w.heap.size w1 w2) : Only g w w2 :=
  ⟨Nat.le_trans h.1 hb.size, fun k hk hg => (hb.block k hk).trans (h.2 k hk hg)⟩
theorem Src.lt {B g : Nat} {a : Option Addr} {len cap A : Nat} {w0 w : World} (h : Src B g a len cap A w0 w) : g < w.heap.size := by
  obtain ⟨_, _, hb, _⟩ := h.blk; exact hb.lt
theorem rows_apartD {B B' k k' n m : Nat} {e e' : TypeId} {w : World} {v u : Value} {a b : List Value} (h : w.ownsRow B e k v n a) (h2 : w.ownsRow B' e' k' u m b) (hne : e ≠ e') : v.ownBlock = none ∨ v.ownBlock ≠ u.ownBlock := by
  rcases h.2 with ⟨rfl, _⟩ | ⟨g, cap, cur, rfl, _, hg, _⟩
  · exact .inl rfl
  · right
    rcases h2.2 with ⟨rfl, _⟩ | ⟨g', cap', cur', rfl, _, hg', _⟩
    · simp [Value.ownBlock]
    · intro e
      simp only [Value.ownBlock, Option.some.injEq] at e
      subst e
      rw [hg] at hg'
      simp at hg'
      exact hne hg'.2
theorem row_blkD {B k n b : Nat} {e e' : TypeId} {w : World} {v : Value} {a : List Value} {cs : Array Value} (h : w.ownsRow B e k v n a) (hb : Blk w b e' cs) (hne : e ≠ e') : some b ≠ v.ownBlock := by
  rcases h.2 with ⟨rfl, _⟩ | ⟨g, cap, cur, rfl, _, hg, _⟩
  · simp [Value.ownBlock]
  · intro q
    simp only [Value.ownBlock, Option.some.injEq] at q
    subst q
    unfold Blk at hb
    rw [hb] at hg
    simp at hg
    exact hne hg.2.symm
theorem OwnTxts.only {B g : Nat} {w w' : World} {v : Value} {l : List ByteArray} (h : OwnTxts B w v l) (ho : Only g w w') (hg : g < B) : OwnTxts B w' v l := by
  rcases h.2 with ⟨h1, h2⟩ | ⟨b, cap, cur, h1, hB, hb, h3⟩
  · exact ⟨h.1, .inl ⟨h1, h2⟩⟩
  · exact ⟨h.1, .inr ⟨b, cap, cur, h1, hB, (ho.2 b (Array.getElem?_eq_some_iff.1 hb).1 (by omega)).trans hb, h3⟩⟩
theorem OwnStepVs.only {B g : Nat} {w w' : World} {v : Value} {l : List StepV} (h : OwnStepVs B w v l) (ho : Only g w w') (hg : g < B) : OwnStepVs B w' v l := by
  rcases h.2 with ⟨h1, h2⟩ | ⟨b, cap, cur, h1, hB, hb, h3⟩
  · exact ⟨h.1, .inl ⟨h1, h2⟩⟩
  · exact ⟨h.1, .inr ⟨b, cap, cur, h1, hB, (ho.2 b (Array.getElem?_eq_some_iff.1 hb).1 (by omega)).trans hb, h3⟩⟩
set_option maxRecDepth 100000 in
theorem drawSource (a : Option Addr) (len cap : Nat) (w : World) (hl : len ≤ 1048576) (hc : ∀ i, i < len → ∃ cb co, a = some ⟨cb, co, none⟩ ∧ cb < w.heap.size ∧ ∃ b : Nat, b < 256 ∧ w.cell? ⟨cb, co + i, none⟩ = some (.int .u8 b)) :
    Calls Tryd.prog 11 #[.slice a len cap] w fun e w' => e = .returned (.pointer (some ⟨w.heap.size, 0, none⟩)) ∧ Src w.heap.size w.heap.size a len cap 0 w w' ∧ w'.heap.size = w.heap.size + 1 := by
  have HC : Hid _ := hc
  have hl' : (len : Int) ≤ 1048576 := by omega
  clear hc
  go_enter Tryd.func11, Tryd.ntmps11
  go_wp2_with fail
  go_ret
  refine ⟨rfl, ⟨⟨0, len % 1000, ?_, Nat.le_refl _, by omega⟩, Nat.le_refl _, (Below.refl _ w).alloc (Nat.le_refl _) _, HC.out⟩, by simp⟩
  have hq : ((len % 1000 : Nat) : Int) = (len : Int) % 1000 := by omega
  have := heap_alloc_last w (.cells #[.slice a len cap, .int .i64 0, .int .i64 ((len : Int) % 1000)] 62)
  rw [hq]
  exact this

/-- The eight names. -/
def nm8 : List ByteArray := [⟨#[98, 111, 111, 107]⟩, ⟨#[112, 97, 121]⟩, ⟨#[115, 104, 105, 112]⟩, ⟨#[109, 97, 105, 108]⟩, ⟨#[208, 190, 208, 191, 208, 187, 208, 176, 209, 130, 208, 176]⟩, ⟨#[108, 111, 103]⟩, ⟨#[120, 49]⟩, ⟨#[101, 110, 100]⟩]
def nmCells : Array Value := #[.string ⟨#[98, 111, 111, 107]⟩, .string ⟨#[112, 97, 121]⟩, .string ⟨#[115, 104, 105, 112]⟩, .string ⟨#[109, 97, 105, 108]⟩, .string ⟨#[208, 190, 208, 191, 208, 187, 208, 176, 209, 130, 208, 176]⟩, .string ⟨#[108, 111, 103]⟩, .string ⟨#[120, 49]⟩, .string ⟨#[101, 110, 100]⟩]
theorem nm_at {w : World} {b : Nat} (h : Blk w b 9 nmCells) (i : Nat) (hi : i < 8) : w.cell? ⟨b, i, none⟩ = some (.string (nm8[i]'hi)) := by
  have hh : i = 0 ∨ i = 1 ∨ i = 2 ∨ i = 3 ∨ i = 4 ∨ i = 5 ∨ i = 6 ∨ i = 7 := by omega
  rcases hh with rfl | rfl | rfl | rfl | rfl | rfl | rfl | rfl
  · exact h.cell 0
  · exact h.cell 1
  · exact h.cell 2
  · exact h.cell 3
  · exact h.cell 4
  · exact h.cell 5
  · exact h.cell 6
  · exact h.cell 7
/-- A step as it is drawn at a place. -/
def StepG (i : Nat) (x : Step) : Prop := nm8[i]? = some x.name ∧ 1 ≤ x.tries ∧ x.tries ≤ 3 ∧ x.needs.Sublist (nm8.take i)
/-- Steps that were drawn: a row of one's own, the needs in rows of their own. -/
structure SagaW (B : Nat) (w : World) (v : Value) (l : List StepV) : Prop where
  row : OwnStepVs B w v l
  needs : ∀ y ∈ l, OwnTxts B w y.nv y.x.needs
  good : ∀ i (hi : i < l.length), StepG i l[i].x
  len : l.length ≤ 8
theorem SagaW.only {B g : Nat} {w w' : World} {v : Value} {l : List StepV} (h : SagaW B w v l) (ho : Only g w w') (hg : g < B) : SagaW B w' v l :=
  ⟨h.row.only ho hg, fun y hy => OwnTxts.only (h.needs y hy) ho hg, h.good, h.len⟩
theorem SagaW.below {B : Nat} {w w' : World} {v : Value} {l : List StepV} (h : SagaW B w v l) (hb : Below w.heap.size w w') : SagaW B w' v l :=
  ⟨OwnStepVs.below h.row hb, fun y hy => OwnTxts.below (h.needs y hy) hb, h.good, h.len⟩
/-- One more step. -/
theorem SagaW.snoc {B : Nat} {w w' : World} {v v' : Value} {l : List StepV} {y : StepV} (h : SagaW B w v l) (hn : OwnTxts B w y.nv y.x.needs) (hy : StepG l.length y.x) (hl : l.length < 8) (hr : OwnStepVs B w' v' (l ++ [y])) (hg : w.grownBy w' v.ownBlock) : SagaW B w' v' (l ++ [y]) := by
  have keep : ∀ {u : Value} {t : List ByteArray}, OwnTxts B w u t → OwnTxts B w' u t := fun hu => OwnTxts.kept hu hg (rows_apartD hu h.row (by decide))
  refine ⟨hr, fun z hz => ?_, fun i hi => ?_, by simp; omega⟩
  · rcases List.mem_append.1 hz with q | q
    · exact keep (h.needs z q)
    · rw [List.mem_singleton] at q; subst q; exact keep hn
  · by_cases e : i < l.length
    · rw [List.getElem_append_left e]; exact h.good i e
    · have hi' : i = l.length := by simp at hi; omega
      subst hi'
      rw [List.getElem_append_right (Nat.le_refl _)]
      simpa using hy
theorem SagaW.at {B : Nat} {w : World} {v : Value} {l : List StepV} (h : SagaW B w v l) : StepsAt (fun b => B ≤ b ∧ b < w.heap.size) w v (l.map (·.x)) := by
  obtain ⟨h1, a, cap, hv, hc⟩ := h.row.at
  refine ⟨by simpa using h1, a, cap, by simpa using hv, fun h0 => ?_⟩
  obtain ⟨b, off, ha, hb, hcell⟩ := hc (by simpa using h0)
  refine ⟨b, off, ha, hb, fun i hi => ?_⟩
  have hi' : i < l.length := by simpa using hi
  obtain ⟨c0, c1, c2, c3⟩ := hcell i hi'
  simp only [List.getElem_map]
  exact ⟨c0, c2, c3, l[i].nv, c1, (h.needs l[i] (List.getElem_mem hi')).at⟩
theorem own_full {B : Nat} {E : TypeId} {k n : Nat} {w : World} {v : Value} {xs : List Value} (h : w.ownsRow B E k v n xs) : FullCap v := by
  intro a m c e
  rcases h.2 with ⟨h1, _⟩ | ⟨b, cap, cur, h1, hB, hb, h3, _⟩
  · rw [e] at h1
    simp only [Value.slice.injEq] at h1
    omega
  · rw [e] at h1
    simp only [Value.slice.injEq] at h1
    omega
theorem SagaW.full {B : Nat} {w : World} {v : Value} {l : List StepV} (h : SagaW B w v l) : StepsFull w v (l.map (·.x)) := by
  refine ⟨own_full h.row, fun b off n c e i hi nv hn => ?_⟩
  have hi' : i < l.length := by simpa using hi
  obtain ⟨h1, a, cap, hv, hc⟩ := h.row.at
  obtain ⟨b', off', ha, hb, hcell⟩ := hc (by omega)
  rw [hv] at e
  simp only [Value.slice.injEq] at e
  rw [ha] at e
  simp only [Option.some.injEq, Addr.mk.injEq, and_true] at e
  obtain ⟨⟨rfl, rfl⟩, _⟩ := e
  obtain ⟨_, c1, _⟩ := hcell i hi'
  rw [c1] at hn
  injection hn with hn
  rw [← hn]
  exact own_full (h.needs l[i] (List.getElem_mem hi'))
theorem StepVsAt.newAt (w : World) (y : StepV) (g : Nat) (hg : w.heap.size = g) : StepVsAt (fun b => b = g) (w.alloc (.cells #[.string y.x.name, y.nv, .bool y.x.undo, .int .i64 y.x.tries] 40)) (.slice (some ⟨g, 0, none⟩) 1 1) [y] := by
  subst hg
  refine ⟨by simp [maxLen], _, 1, rfl, fun _ => ⟨w.heap.size, 0, rfl, rfl, fun i hi => ?_⟩⟩
  have hi0 : i = 0 := by simpa using hi
  subst hi0
  have hb : Blk (w.alloc (.cells #[.string y.x.name, y.nv, .bool y.x.undo, .int .i64 y.x.tries] 40)) w.heap.size 40 #[.string y.x.name, y.nv, .bool y.x.undo, .int .i64 y.x.tries] := heap_alloc_last w _
  exact ⟨hb.cell 0, hb.cell 1, hb.cell 2, hb.cell 3⟩
end Go.Proofs.YtlnfobeedpbnmaaDoor

namespace Go.Proofs.YtlnfobeedpbnmaaDoor
open Go.ChangeShapes Go.WideShapes Go.ChangeAt Go.RowKit
set_option linter.unusedVariables false
set_option linter.unusedSimpArgs false

theorem set_grownX (w : World) (g i : Nat) (u : Value) : w.grownBy (w.setCell ⟨g, i, none⟩ u) (some g) := by
  have hb := (Below.refl 0 w).setCell (p := ⟨g, i, none⟩) (Nat.zero_le _) u
  exact ⟨hb.os, hb.tape, hb.output, hb.size, fun k _ hk => Below.heap_setCell w ⟨g, i, none⟩ u k (fun e => hk (by rw [e]))⟩
theorem nm8_len : nm8.length = 8 := rfl
theorem wrapN (n : Nat) (h : n ≤ 1000) : IntKind.i64.wrap (1 + (n : Int)) = 1 + (n : Int) := by
  unfold IntKind.wrap
  simp [IntKind.bits, IntKind.signed]
  omega
set_option maxRecDepth 100000 in
set_option maxHeartbeats 16000000 in
theorem drawSaga {B g : Nat} {a : Option Addr} {len cap : Nat} {w0 w : World} (hl : len ≤ 1048576) (h : Src B g a len cap 0 w0 w) :
    Calls Tryd.prog 12 #[.pointer (some ⟨g, 0, none⟩)] w fun e w' => (∃ (v : Value) (l : List StepV), e = .returned v ∧ SagaW w.heap.size w' v l ∧ 0 < l.length) ∧ Below B w0 w' := by
  have hg := h.lt
  have hBg : B ≤ g := h.ge
  have hBw : B ≤ w.heap.size := by omega
  have b0 : Below w.heap.size w ((w.alloc (.cells #[] 40)).alloc (.cells nmCells 9)) := ((Below.refl _ w).alloc (Nat.le_refl _) _).alloc (by simp) _
  have kN : Blk ((w.alloc (.cells #[] 40)).alloc (.cells nmCells 9)) (w.heap.size + 1) 9 nmCells := by
    have := heap_alloc_last (w.alloc (.cells #[] 40)) (.cells nmCells 9)
    rwa [World.size_alloc] at this
  have s0 : SagaW w.heap.size ((w.alloc (.cells #[] 40)).alloc (.cells nmCells 9)) (.slice (some ⟨w.heap.size, 0, none⟩) 0 0) [] :=
    ⟨OwnStepVs.below (OwnStepVs.empty w.heap.size w (Nat.le_refl _)) ((Below.refl _ _).alloc (Nat.le_refl _) _), fun y hy => (by cases hy), fun i hi => by simp at hi, by simp⟩
  have hs0 := h.bel b0
  have HC : Hid (∀ (n A' : Nat), n ≤ 1000 → A' ≤ 90000 → ∀ W, Src B g a len cap A' w0 W → Calls Tryd.prog 24 #[.pointer (some ⟨g, 0, none⟩), .int .i64 n] W fun e w' => ∃ b : Bool, e = .returned (.bool b) ∧ Src B g a len cap (A' + 3) w0 w' ∧ Only g W w') := fun n A' hn hA' W hs => drawChance n (by omega) (by omega) hl hs
  have HX : Hid (∀ (n A' : Nat), n ≤ 1000 → A' ≤ 90000 → ∀ W, Src B g a len cap A' w0 W → Calls Tryd.prog 14 #[.pointer (some ⟨g, 0, none⟩), .int .i64 n] W fun e w' => ∃ b : Nat, (b = 0 ∨ b < n) ∧ e = .returned (.int .i64 b) ∧ Src B g a len cap (A' + 3) w0 w' ∧ Only g W w') := fun n A' hn hA' W hs => drawNext n (by omega) (by omega) hl hs
  have cz := drawSize 7 (by omega) hl hs0
  have HS0 : Hid (SagaW w.heap.size ((w.alloc (.cells #[] 40)).alloc (.cells nmCells 9)) (.slice (some ⟨w.heap.size, 0, none⟩) 0 0) []) := s0
  have HKN : Hid (Blk ((w.alloc (.cells #[] 40)).alloc (.cells nmCells 9)) (w.heap.size + 1) 9 nmCells) := kN
  have hoD : Only g w ((w.alloc (.cells #[] 40)).alloc (.cells nmCells 9)) := (Only.refl g w).bel b0
  clear s0 kN h b0
  go_enter Tryd.func12, Tryd.ntmps12
  go_wp2_with (first
    | (go_at_call 15; go_must (refine cz.mono ?_; rintro e w1 ⟨z, hz, rfl, rfl⟩; have cy := HX.out (z + 1) 0 (by omega) (by omega) _ hs0))
    | (go_at_call 14; go_must (refine cy.mono ?_; rintro e w2 ⟨y, hy, rfl, hs2, ho2⟩)))
  have HS2 : Hid (SagaW w.heap.size w2 (.slice (some ⟨w.heap.size, 0, none⟩) 0 0) []) := HS0.out.only ho2 hg
  have HK2 : Hid (Blk w2 (w.heap.size + 1) 9 nmCells) := HKN.out.only ho2 (by omega)
  have HO2 : Hid (Only g w w2) := hoD.trans ho2
  have hy7 : y ≤ 7 := by omega
  clear HS0 HKN hoD ho2 cz cy hs0
  go_loopw [3, 5] (fun i3 i5 wr => ∃ (i : Nat) (l : List StepV), i5 = .int .i64 (i : Int) ∧ i ≤ 8 ∧ 1 ≤ i + l.length ∧ SagaW w.heap.size wr i3 l ∧ Blk wr (w.heap.size + 1) 9 nmCells ∧ Src B g a len cap (10 + 40 * (9 - i)) w0 wr ∧ Only g w wr) (fun _ i5 _ => (intOf i5).toNat)
  case atStart => exact ⟨y + 1, [], by go_num, by omega, by simp, HS2.out, HK2.out, hs2.mono (by omega), HO2.out⟩
  case round =>
    obtain ⟨i, l, rfl, hi8, hil, hsw, hkn, hs, ho⟩ := hrel
    obtain ⟨oa, oc, hv, hva⟩ := hsw.row.value
    subst hv
    obtain ⟨wO, hwO⟩ : ∃ W, W = wr := ⟨_, rfl⟩
    subst hwO
    have HSW : Hid (SagaW w.heap.size wO (.slice oa l.length oc) l) := hsw
    have HKO : Hid (Blk wO (w.heap.size + 1) 9 nmCells) := hkn
    have HOO : Hid (Only g w wO) := ho
    have hl8 : (l.length : Int) ≤ 8 := by have := hsw.len; omega
    clear hsw hkn ho HS2 HK2 HO2 hs2 hva
    by_cases hi0 : 0 < i
    · have hi0' : (0 : Int) < (i : Int) := by omega
      by_cases hl7 : l.length < 8
      · have hl7' : (l.length : Int) < 8 := by omega
        have qn := nm_at HKO.out l.length hl7
        obtain ⟨nm, hnm⟩ : ∃ nm, nm8[l.length]'hl7 = nm := ⟨_, rfl⟩
        rw [hnm] at qn
        have HNM : Hid (nm8[l.length]'hl7 = nm) := hnm
        have hbNw : w.heap.size + 1 < wO.heap.size := HKO.out.lt
        have hsD := hs.bel ((Below.refl _ wO).drew)
        have hoD : Only g wO wO.drew := (Only.refl g wO).bel ((Below.refl _ wO).drew)
        have hgO : g < wO.heap.size := by omega
        have hdr : wO.drew.heap.size = wO.heap.size := rfl
        have KP : Hid (∀ W, Only g wO W → W.cell? ⟨w.heap.size + 1, l.length, none⟩ = some (.string nm)) := fun W hW => (hW.cell hbNw (by omega)).trans qn
        clear hnm
        go_upto_region 6 with fail
        go_cut [6] from 27 to 38 (fun s6 wx => ∃ (bx : Nat) (ub : Bool) (t : Nat), s6 = .pointer (some ⟨bx, 0, none⟩) ∧ t ≤ 2 ∧ wO.heap.size ≤ bx ∧ Blk wx bx 40 #[.string nm, .slice none 0 0, .bool ub, .int .i64 (1 + (t : Int))] ∧ Src B g a len cap (10 + 40 * (9 - i) + 6) w0 wx ∧ Only g wO wx)
        case first =>
          go_region_held3 (fun w' => w'.cell? ⟨w.heap.size + 1, l.length, none⟩ = some (.string nm)) (first | go_keep | exact KP.out _ (((((hoA.trans (ho3.trans (hoB.trans ho4))).set' (by first | exact Nat.le_refl _ | (have q := ho3.1; (try simp only [World.size_alloc] at q); omega)) 0 _).set' (by first | exact Nat.le_refl _ | (have q := ho3.1; (try simp only [World.size_alloc] at q); omega)) 1 _).set' (by first | exact Nat.le_refl _ | (have q := ho3.1; (try simp only [World.size_alloc] at q); omega)) 2 _).set' (by first | exact Nat.le_refl _ | (have q := ho3.1; (try simp only [World.size_alloc] at q); omega)) 3 _) | exact KP.out _ (hoA.trans (ho3.trans (hoB.trans ho4))) | exact KP.out _ (hoA.trans (ho3.trans hoB)) | exact KP.out _ (hoA.trans ho3) | exact KP.out _ hoA | exact KP.out _ hoD | exact KP.out _ (hoD.bel ((Below.refl _ _).alloc (Nat.le_refl _) _)) | exact KP.out _ ((hoA.trans ho3).bel ((Below.refl _ _).alloc (Nat.le_refl _) _)) | exact KP.out _ ((hoA.trans (ho3.trans (hoB.trans ho4))).bel ((Below.refl _ _).alloc (Nat.le_refl _) _))) (first
            | (go_at_call 24; go_must (first | (refine (HC.out 4 _ (by omega) (by omega) _ hsD).mono ?_; rintro e w3 ⟨b3, rfl, hs3, ho3⟩; have hoA := hoD) | (refine (HC.out 4 _ (by omega) (by omega) _ (hsD.bel ((Below.refl _ _).alloc (Nat.le_refl _) _))).mono ?_; rintro e w3 ⟨b3, rfl, hs3, ho3⟩; have hoA := hoD.bel ((Below.refl _ wO.drew).alloc (Nat.le_refl _) (.cells #[.string ⟨#[]⟩, .slice none 0 0, .bool false, .int .i64 0] 40)); have kZ3 : Blk w3 wO.heap.size 40 #[.string ⟨#[]⟩, .slice none 0 0, .bool false, .int .i64 0] := Blk.only (g := g) (show Blk (wO.drew.alloc (.cells #[.string ⟨#[]⟩, .slice none 0 0, .bool false, .int .i64 0] 40)) wO.heap.size 40 #[.string ⟨#[]⟩, .slice none 0 0, .bool false, .int .i64 0] from heap_alloc_last wO.drew _) ho3 (by omega))))
            | (go_at_call 14; go_must (first | (refine (HX.out 3 _ (by omega) (by omega) _ hs3).mono ?_; rintro e w4 ⟨b4, hb4, rfl, hs4, ho4⟩; have hb42 : (b4 : Int) ≤ 2 := (by omega); have hoB := Only.refl g w3; (try (have kZ4 := Blk.only kZ3 ho4 (by omega); have f0 := kZ4.fro 0; have f1 := kZ4.fro 1; have f2 := kZ4.fro 2; have f3 := kZ4.fro 3; have q0 := kZ4.cell 0; have q1 := kZ4.cell 1; have q2 := kZ4.cell 2; have q3 := kZ4.cell 3; simp at q0 q1 q2 q3))) | (refine (HX.out 3 _ (by omega) (by omega) _ (hs3.bel ((Below.refl _ _).alloc (Nat.le_refl _) _))).mono ?_; rintro e w4 ⟨b4, hb4, rfl, hs4, ho4⟩; have hb42 : (b4 : Int) ≤ 2 := (by omega); have hoB := (Only.refl g w3).bel ((Below.refl _ w3).alloc (Nat.le_refl _) (.cells #[.string ⟨#[]⟩, .slice none 0 0, .bool false, .int .i64 0] 40)); have kY4 : Blk w4 w3.heap.size 40 #[.string ⟨#[]⟩, .slice none 0 0, .bool false, .int .i64 0] := Blk.only (g := g) (show Blk (w3.alloc (.cells #[.string ⟨#[]⟩, .slice none 0 0, .bool false, .int .i64 0] 40)) w3.heap.size 40 #[.string ⟨#[]⟩, .slice none 0 0, .bool false, .int .i64 0] from heap_alloc_last w3 _) ho4 (by have q := ho3.1; (try simp only [World.size_alloc] at q); omega); have f0 := kY4.fro 0; have f1 := kY4.fro 1; have f2 := kY4.fro 2; have f3 := kY4.fro 3; have q0 := kY4.cell 0; have q1 := kY4.cell 1; have q2 := kY4.cell 2; have q3 := kY4.cell 3; simp at q0 q1 q2 q3))))
          · refine meet_then (by assumption) ?_
            go_meet
            refine ⟨_, !b3, b4, rfl, by omega, by have q := ho3.1; have q2 := ho4.1; omega, ?_, (hs4.bel ((Below.refl _ w4).alloc (Nat.le_refl _) _)).mono (by omega), (hoA.trans (ho3.trans (hoB.trans ho4))).bel ((Below.refl _ w4).alloc (Nat.le_refl _) _)⟩
            rw [wrapN b4 (by omega)]
            exact heap_alloc_last w4 _
          · refine meet_then (by assumption) ?_
            go_meet
            refine ⟨_, !b3, b4, rfl, by omega, by have q := ho3.1; omega, ?_, ((((hs4.set' (x := w3.heap.size) (by have q := ho3.1; omega) (by have q := ho3.1; omega) 0 _).set' (x := w3.heap.size) (by have q := ho3.1; omega) (by have q := ho3.1; omega) 1 _).set' (x := w3.heap.size) (by have q := ho3.1; omega) (by have q := ho3.1; omega) 2 _).set' (x := w3.heap.size) (by have q := ho3.1; omega) (by have q := ho3.1; omega) 3 _).mono (by omega), ((((hoA.trans (ho3.trans (hoB.trans ho4))).set' (by have q := ho3.1; omega) 0 _).set' (by have q := ho3.1; omega) 1 _).set' (by have q := ho3.1; omega) 2 _).set' (by have q := ho3.1; omega) 3 _⟩
            rw [wrapN b4 (by omega)]
            have q := (((kY4.set 0 (.string nm)).set 1 (.slice none 0 0)).set 2 (.bool !b3)).set 3 (.int .i64 (1 + (b4 : Int)))
            simpa using q
          · refine meet_then (by assumption) ?_
            go_meet
            refine ⟨_, !b3, b4, rfl, by omega, Nat.le_refl _, ?_, ((((hs4.set' (x := wO.heap.size) (by omega) (by omega) 0 _).set' (x := wO.heap.size) (by omega) (by omega) 1 _).set' (x := wO.heap.size) (by omega) (by omega) 2 _).set' (x := wO.heap.size) (by omega) (by omega) 3 _).mono (by omega), ((((hoA.trans (ho3.trans (hoB.trans ho4))).set' (Nat.le_refl _) 0 _).set' (Nat.le_refl _) 1 _).set' (Nat.le_refl _) 2 _).set' (Nat.le_refl _) 3 _⟩
            rw [wrapN b4 (by omega)]
            have q := (((kZ4.set 0 (.string nm)).set 1 (.slice none 0 0)).set 2 (.bool !b3)).set 3 (.int .i64 (1 + (b4 : Int)))
            simpa using q
        case rest =>
          obtain ⟨bx, ub, t, rfl, ht2, hbx, hkx, hsX, hoX⟩ := hcut
          obtain ⟨wX, hwX⟩ : ∃ W, W = wc := ⟨_, rfl⟩
          subst hwX
          have HBX : Hid (Blk wX bx 40 #[.string nm, .slice none 0 0, .bool ub, .int .i64 (1 + (t : Int))]) := hkx
          have HOX : Hid (Only g wO wX) := hoX
          have ht2' : (t : Int) ≤ 2 := by omega
          clear hkx hoX KP hsD hoD qn hs
          go_wp2_with fail
          go_loopw [7] (fun i7 wr => ∃ (k : Nat) (nd : List ByteArray) (xa : Option Addr) (xc : Nat), i7 = .int .i64 (k : Int) ∧ k ≤ l.length ∧ Blk wr bx 40 #[.string nm, .slice xa nd.length xc, .bool ub, .int .i64 (1 + (t : Int))] ∧ OwnTxts (bx + 1) wr (.slice xa nd.length xc) nd ∧ nd.Sublist (nm8.take k) ∧ Src B g a len cap (10 + 40 * (9 - i) + 6 + 3 * k) w0 wr ∧ Only g wO wr) (fun i7 _ => l.length - (intOf i7).toNat)
          case atStart => exact ⟨0, [], none, 0, rfl, by omega, HBX.out, OwnTxts.nil _ _, by simp, hsX.mono (by omega), HOX.out⟩
          case round =>
            obtain ⟨k, nd, xa, xc, rfl, hk, hkb, hon, hsub, hs, hoR⟩ := hrel
            obtain ⟨wR, hwR⟩ : ∃ W, W = wr := ⟨_, rfl⟩
            subst hwR
            have hndl : nd.length ≤ 8 := by have q := hsub.length_le; rw [List.length_take] at q; have : nm8.length = 8 := rfl; omega
            have HKB : Hid (Blk wR bx 40 #[.string nm, .slice xa nd.length xc, .bool ub, .int .i64 (1 + (t : Int))]) := hkb
            have HON : Hid (OwnTxts (bx + 1) wR (.slice xa nd.length xc) nd) := hon
            have HSUB : Hid (nd.Sublist (nm8.take k)) := hsub
            have HOR : Hid (Only g wO wR) := hoR
            have hbxR : bx < wR.heap.size := hkb.lt
            clear hkb hon hsub hoR HBX HOX hsX
            by_cases hkn : k < l.length
            · have hkn' : (k : Int) < (l.length : Int) := by omega
              obtain ⟨_, _, hva, -, hca⟩ := (HSW.out).row.value
              simp only [Value.slice.injEq] at hva
              obtain ⟨e1, -, -⟩ := hva
              obtain ⟨gr, e2, hgrB, hgrL, hcell⟩ := hca (by omega)
              rw [← e1] at e2
              subst e2
              obtain ⟨x0, -⟩ := hcell k hkn
              have hgood := HSW.out.good k hkn
              obtain ⟨nk, hnk⟩ : ∃ nk, l[k].x.name = nk := ⟨_, rfl⟩
              rw [hnk] at x0
              have HGK : Hid (nm8[k]? = some nk) := by have := hgood.1; rw [hnk] at this; exact this
              have hgrO : gr < wO.heap.size := cell_lt x0
              have cc := HC.out 3 _ (by omega) (by omega) wR hs
              clear hcell hca e1 hgood hnk
              go_upto_if 46 with (go_at_call 24; go_must (refine cc.mono ?_; rintro e w2 ⟨ch, rfl, hs2, ho2⟩))
              have HB2 : Hid (Blk w2 bx 40 #[.string nm, .slice xa nd.length xc, .bool ub, .int .i64 (1 + (t : Int))]) := HKB.out.only ho2 (by omega)
              have HN2 : Hid (OwnTxts (bx + 1) w2 (.slice xa nd.length xc) nd) := OwnTxts.only HON.out ho2 (by omega)
              have HO2 : Hid (Only g wO w2) := HOR.out.trans ho2
              have hz2 : bx < w2.heap.size := HB2.out.lt
              have x2 : w2.cell? ⟨gr, k * 4, none⟩ = some (.string nk) := (HO2.out.cell hgrO (by omega)).trans x0
              clear HKB HON HOR cc ho2 hs
              cases ch
              · go_wp2_with fail
                exact ⟨⟨k + 1, nd, xa, xc, by go_num, by omega, HB2.out, HN2.out, HSUB.out.trans (List.take_sublist_take_left (by omega)), hs2.mono (by omega), HO2.out⟩, by simp [intOf]; omega⟩
              · have y2 : w2.cell? ⟨bx, 1, none⟩ = some (.slice xa nd.length xc) := HB2.out.cell 1
                have KP : Hid (∀ W, Below w2.heap.size w2 W → W.cell? ⟨bx, 1, none⟩ = some (.slice xa nd.length xc) ∧ W.cell? ⟨gr, k * 4, none⟩ = some (.string nk)) := fun W hW => ⟨(hW.cell (World.block_lt_of_cell? _ _ y2)).trans y2, (hW.cell (World.block_lt_of_cell? _ _ x2)).trans x2⟩
                have hxb : some bx ≠ (Value.slice xa nd.length xc).ownBlock := fun e => by have := OwnTxts.block HN2.out bx e.symm; omega
                have hxr : some gr ≠ (Value.slice xa nd.length xc).ownBlock := fun e => by have := OwnTxts.block HN2.out gr e.symm; omega
                have hrl : (l.length : Int) ≤ 8 := hl8
                clear x0 y2 x2
                go_upto_region 11 with fail
                refine wp_region_last (S := (fun w' => w'.cell? ⟨bx, 1, none⟩ = some (.slice xa nd.length xc) ∧ w'.cell? ⟨gr, k * 4, none⟩ = some (.string nk))) 10 (by kernel_rfl) rfl (by kernel_rfl) (KP.out _ (Below.refl _ _).drew) (fun hHeld => ?_)
                simp only [List.take_succ_cons, List.take_zero]
                refine wpAnyH_take (i := 0) (v := ?_) rfl (by kernel_rfl) (by kernel_rfl) (by kernel_rfl) (fun _ _ _ h => h) (Or.inl ⟨by rfl, ?_⟩) (by assumption) ?_
                rotate_left 1
                · (intro w' hSw; (try dsimp only at hSw); go_simp; all_goals with_reducible rfl)
                (try simp only [Act.put, List.setIfInBounds_toArray, List.set_cons_zero, List.set_cons_succ])
                refine wpAnyH_take (i := 1) (v := ?_) rfl (by kernel_rfl) (by kernel_rfl) (by kernel_rfl) (fun _ _ _ h => h) (Or.inl ⟨by rfl, ?_⟩) (by assumption) ?_
                rotate_left 1
                · (intro w' hSw; (try dsimp only at hSw); go_simp; all_goals with_reducible rfl)
                (try simp only [Act.put, List.setIfInBounds_toArray, List.set_cons_zero, List.set_cons_succ])
                refine wpAnyH_take (i := 2) (v := ?_) rfl (by kernel_rfl) (by kernel_rfl) (by kernel_rfl) (fun _ _ _ h => h) (Or.inl ⟨by rfl, ?_⟩) (by assumption) ?_
                rotate_left 1
                · (intro w' hSw; (try dsimp only at hSw); go_simp; all_goals with_reducible rfl)
                (try simp only [Act.put, List.setIfInBounds_toArray, List.set_cons_zero, List.set_cons_succ])
                refine wpAnyH_take (i := 3) (v := ?_) rfl (by kernel_rfl) (by kernel_rfl) (by kernel_rfl) (fun _ _ _ h => h) (Or.inl ⟨by rfl, ?_⟩) (by assumption) ?_
                rotate_left 1
                · (intro w' hSw; (try dsimp only at hSw); go_simp; all_goals with_reducible rfl)
                (try simp only [Act.put, List.setIfInBounds_toArray, List.set_cons_zero, List.set_cons_succ])
                refine wpAnyH_take (i := 4) (v := ?_) rfl (by kernel_rfl) (by kernel_rfl) (by kernel_rfl) (fun _ _ _ h => h) (Or.inl ⟨by rfl, ?_⟩) (by assumption) ?_
                rotate_left 1
                · (intro w' hSw; (try dsimp only at hSw); go_simp; all_goals with_reducible rfl)
                (try simp only [Act.put, List.setIfInBounds_toArray, List.set_cons_zero, List.set_cons_succ])
                refine wpAnyH_take (i := 5) (v := ?_) rfl (by kernel_rfl) (by kernel_rfl) (by kernel_rfl) (fun _ _ _ h => h) (Or.inl ⟨by rfl, ?_⟩) (by assumption) ?_
                rotate_left 1
                · (intro w' hSw; (try dsimp only at hSw); go_simp; all_goals with_reducible rfl)
                (try simp only [Act.put, List.setIfInBounds_toArray, List.set_cons_zero, List.set_cons_succ])
                refine wpAnyH_take (i := 6) (v := ?_) rfl (by kernel_rfl) (by kernel_rfl) (by kernel_rfl) (fun _ _ _ h => h) (Or.inl ⟨by rfl, ?_⟩) (by assumption) ?_
                rotate_left 1
                · (intro w' hSw; (try dsimp only at hSw); go_simp; all_goals with_reducible rfl)
                (try simp only [Act.put, List.setIfInBounds_toArray, List.set_cons_zero, List.set_cons_succ])
                refine wpAnyH_ready (rs := [7]) (by kernel_rfl) (by simp) ?_
                refine AllReadyH.cons rfl (fun K hK => ?_) AllReadyH.nil
                go_simp
                refine hK.out _ _ ?_ (fun hHeld => ?_)
                · exact KP.out _ (((Below.refl _ w2).alloc (Nat.le_refl _) _).drew)
                clear hK K
                (try simp only [Act.put, List.setIfInBounds_toArray, List.set_cons_zero, List.set_cons_succ])
                refine wpAnyH_ready (rs := [8]) (by kernel_rfl) (by simp) ?_
                refine AllReadyH.cons rfl (fun K hK => ?_) AllReadyH.nil
                refine step_appendTxts rfl (.tmp 48) (.tmp 54) rfl (bx + 1) (.slice xa nd.length xc) nd (by simp [Act.eval]) (OwnTxts.below HN2.out (((Below.refl _ w2).alloc (Nat.le_refl _) _).drew)) (.slice (some ⟨w2.heap.size, 0, none⟩) 1 1) [nk] (by simp [Act.eval]) (TxtsAt.new w2 nk) (by simp; omega) (by simp; omega) ?_
                intro va vn vc w4 hown4 hB4 hgr4 hnil4
                refine hK.out _ _ ?_ (fun hHeld => ?_)
                · exact ⟨hgr4.cell hHeld.1 hxb, hgr4.cell hHeld.2 hxr⟩
                clear hK K
                (try simp only [Act.put, List.setIfInBounds_toArray, List.set_cons_zero, List.set_cons_succ])
                refine wpAnyH_take (i := 9) (v := ?_) rfl (by kernel_rfl) (by kernel_rfl) (by kernel_rfl) (fun _ _ _ h => h) (Or.inl ⟨by rfl, ?_⟩) (by assumption) ?_
                rotate_left 1
                · (intro w' hSw; (try dsimp only at hSw); go_simp; all_goals with_reducible rfl)
                (try simp only [Act.put, List.setIfInBounds_toArray, List.set_cons_zero, List.set_cons_succ])
                have bA : Below w2.heap.size w2 (w2.alloc (.cells #[.string nk] 9)).drew := ((Below.refl _ w2).alloc (Nat.le_refl _) _).drew
                have kb4 := (HB2.out.below bA).kept hgr4 hxb
                have g1 := kb4.cell 1
                have f1 := kb4.fro 1
                simp at g1
                have hvn : vn = nd.length + 1 := by
                  obtain ⟨_, _, e9, -⟩ := hown4.value
                  simp only [Value.slice.injEq] at e9
                  have := e9.2.1
                  simpa using this
                subst hvn
                have hla : (nd ++ [nk]).length = nd.length + 1 := by simp
                have HLA : Hid ((nd ++ [nk]).length = nd.length + 1) := hla
                clear hla
                have hsA := (hs2.bel bA).grown hB4 (by omega) (by omega)
                have hoA : Only g wO w4 := ⟨Nat.le_trans (HO2.out.bel bA).1 hB4.size, fun b hb1 hb2 => (hB4.block b (by omega)).trans ((HO2.out.bel bA).2 b hb1 hb2)⟩
                refine wpAnyH_done (by kernel_rfl) ?_ _
                show Oper.wp _ _ _ _ _ _
                unfold Oper.wp
                go_simp
                go_wp2_with fail
                refine ⟨⟨k + 1, nd ++ [nk], va, vc, by go_num, by omega, ?_, ?_, ?_, (hsA.set' (x := bx) (by omega) (by omega) 1 _).mono (by omega), hoA.set' hbx 1 _⟩, by simp [intOf]; omega⟩
                · rw [HLA.out]
                  have := kb4.set 1 (.slice va (nd.length + 1) vc)
                  simpa using this
                · rw [HLA.out]
                  exact hown4.kept (set_grownX w4 bx 1 _) (.inr fun e => by have := OwnTxts.block hown4 bx e; omega)
                · have hk8 : k < nm8.length := by have : nm8.length = 8 := rfl; omega
                  rw [List.take_succ_eq_append_getElem hk8]
                  have hq := HGK.out
                  rw [List.getElem?_eq_getElem hk8] at hq
                  injection hq with hq
                  rw [hq]
                  exact HSUB.out.append (List.Sublist.refl _)
            · obtain rfl : k = l.length := by omega
              have hkn' : ¬ ((l.length : Int) < (l.length : Int)) := by omega
              have kb := HKB.out
              have y0 := kb.cell 0
              have y1 := kb.cell 1
              have y2 := kb.cell 2
              have y3 := kb.cell 3
              simp at y0 y1 y2 y3
              have hsR := HSW.out.only HOR.out hg
              have bA : Below wR.heap.size wR (wR.alloc (.cells #[.string nm, .slice xa nd.length xc, .bool ub, .int .i64 (1 + (t : Int))] 40)) := (Below.refl _ wR).alloc (Nat.le_refl _) _
              have HSA : Hid (SagaW w.heap.size (wR.alloc (.cells #[.string nm, .slice xa nd.length xc, .bool ub, .int .i64 (1 + (t : Int))] 40)) (.slice oa l.length oc) l) := hsR.below bA
              have HNA : Hid (OwnTxts w.heap.size (wR.alloc (.cells #[.string nm, .slice xa nd.length xc, .bool ub, .int .i64 (1 + (t : Int))] 40)) (.slice xa nd.length xc) nd) := OwnTxts.mono (OwnTxts.below HON.out bA) (by have := HOO.out.1; omega)
              have hsA := hs.bel bA
              have hoA := (HOO.out.trans HOR.out).bel bA
              have HKA : Hid (Blk (wR.alloc (.cells #[.string nm, .slice xa nd.length xc, .bool ub, .int .i64 (1 + (t : Int))] 40)) (w.heap.size + 1) 9 nmCells) := (HKO.out.only HOR.out (by omega)).below bA
              have hszA : w.heap.size ≤ (wR.alloc (.cells #[.string nm, .slice xa nd.length xc, .bool ub, .int .i64 (1 + (t : Int))] 40)).heap.size := hoA.1
              clear hsR bA kb
              go_wp2_with (at_builtin; go_must (refine wpList_appendStepVs rfl (.tmp 57) (.tmp 59) rfl w.heap.size (.slice oa l.length oc) l rfl HSA.out.row _ [⟨⟨nm, nd, ub, 1 + (t : Int)⟩, .slice xa nd.length xc⟩] rfl (StepVsAt.newAt wR ⟨⟨nm, nd, ub, 1 + (t : Int)⟩, .slice xa nd.length xc⟩ _ rfl) (by simp; omega) hszA (fun x hx => by rw [List.mem_singleton] at hx; subst hx; rfl) ?_; intro v9 w9 hown9 hB9 hgr9 hnil9))
              have hG : StepG l.length ⟨nm, nd, ub, 1 + (t : Int)⟩ := ⟨(List.getElem?_eq_getElem (l := nm8) (by rw [nm8_len]; exact hl7)).trans (congrArg some HNM.out), by dsimp only; omega, by dsimp only; omega, HSUB.out⟩
              have hsn := HSA.out.snoc (y := ⟨⟨nm, nd, ub, 1 + (t : Int)⟩, .slice xa nd.length xc⟩) HNA.out hG hl7 hown9 hgr9
              exact ⟨⟨i - 1, l ++ [⟨⟨nm, nd, ub, 1 + (t : Int)⟩, .slice xa nd.length xc⟩], by go_num, by omega, by simp; omega, hsn, HKA.out.kept hgr9 (row_blkD HSA.out.row HKA.out (by decide)), (hsA.grown hB9 hg hBw).mono (by omega), hoA.grown hB9⟩, by simp [intOf]; omega⟩
      · have hl7' : ¬ (l.length : Int) < 8 := by omega
        go_wp2_with fail
        go_ret
        exact ⟨⟨_, rfl, l, HSW.out, by omega⟩, hs.below⟩
    · have hi0' : ¬ (0 : Int) < (i : Int) := by omega
      go_wp2_with fail
      go_ret
      exact ⟨⟨_, rfl, l, HSW.out, by omega⟩, hs.below⟩
end Go.Proofs.YtlnfobeedpbnmaaDoor

namespace Go.Proofs.YtlnfobeedpbnmaaDoor
open Go.ChangeShapes Go.WideShapes Go.ChangeAt Go.RowKit
set_option linter.unusedVariables false
set_option linter.unusedSimpArgs false

/-- A sum over numbers below n. -/
def sumN (f : Nat → Nat) : Nat → Nat
  | 0 => 0
  | n + 1 => sumN f n + f n
theorem sumN_congr {f g : Nat → Nat} : ∀ n, (∀ i, i < n → f i = g i) → sumN f n = sumN g n
  | 0, _ => rfl
  | n + 1, h => by unfold sumN; rw [sumN_congr n (fun i hi => h i (by omega)), h n (by omega)]
theorem sumN_le {f g : Nat → Nat} : ∀ n, (∀ i, i < n → f i ≤ g i) → sumN f n ≤ sumN g n
  | 0, _ => Nat.le_refl _
  | n + 1, h => by
    unfold sumN
    have h1 := sumN_le n (fun i hi => h i (by omega))
    have h2 := h n (by omega)
    omega
theorem sumN_lt {f g : Nat → Nat} {j : Nat} (n : Nat) (hj : j < n) (h : ∀ i, i < n → f i ≤ g i) (hs : f j < g j) : sumN f n < sumN g n := by
  induction n with
  | zero => omega
  | succ n ih =>
    unfold sumN
    by_cases e : j = n
    · subst e
      have h1 := sumN_le j (fun i hi => h i (by omega))
      omega
    · have h1 := ih (by omega) (fun i hi => h i (by omega))
      have h2 := h n (by omega)
      omega
/-- What a step still has ahead of it. -/
def wt (st x t : Int) : Nat :=
  if x = 0 then (if st = 1 then 40 else 0)
  else if x = 1 then 30 + (6 - t).toNat
  else if x = 2 then 20
  else if x = 3 then 5 + (6 - t).toNat
  else 0
def wtAt (s : Sg) (i : Nat) : Nat := wt s.st (isAt s i) (trAt s i)
def phi (l : List Step) (s : Sg) : Nat := sumN (wtAt s) l.length + (if s.st = 1 ∨ s.st = 2 then 1 else 0)
theorem wt_st {st st' x t : Int} (h : st' = 1 → st = 1) : wt st' x t ≤ wt st x t := by
  unfold wt
  split
  · by_cases h1 : st' = 1
    · rw [if_pos h1, if_pos (h h1)]; exact Nat.le_refl _
    · rw [if_neg h1]; exact Nat.zero_le _
  · exact Nat.le_refl _
/-- One step's cells turn, the saga's state may leave 1. -/
theorem phi_turn {l : List Step} {s s' : Sg} {j : Nat} (hj : j < l.length) (hst : s'.st = 1 → s.st = 1) (hother : ∀ i, i ≠ j → isAt s' i = isAt s i ∧ trAt s' i = trAt s i) (hlt : wtAt s' j < wtAt s j) : sumN (wtAt s') l.length < sumN (wtAt s) l.length := by
  refine sumN_lt l.length hj (fun i hi => ?_) hlt
  by_cases e : i = j
  · subst e; exact Nat.le_of_lt hlt
  · obtain ⟨h1, h2⟩ := hother i e
    unfold wtAt
    rw [h1, h2]
    exact wt_st hst
theorem phi_same {l : List Step} {s s' : Sg} (hst : s'.st = 1 → s.st = 1) (hi : s'.is = s.is) (ht : s'.tr = s.tr) : sumN (wtAt s') l.length ≤ sumN (wtAt s) l.length :=
  sumN_le l.length (fun i _ => by
    unfold wtAt isAt trAt
    rw [hi, ht]
    exact wt_st hst)
theorem beg_at {l : List Step} {s : Sg} (h : Ok l s) {j : Nat} (hj : j < l.length) (x kind : Int) (i : Nat) : isAt (beg l s x kind j) i = (if i = j then x else isAt s i) ∧ trAt (beg l s x kind j) i = (if i = j then 1 else trAt s i) := by
  have h1 := isAt_set (s := s) (by rw [h.il]; exact hj) x i
  have h2 := trAt_set (s := setIs s j x) (i := j) (by show j < s.tr.length; rw [h.tl]; exact hj) 1 i
  exact ⟨h1, h2⟩
theorem ask_phi {l : List Step} {s : Sg} (h : Ok l s) (h1 : s.st = 1) {k : Nat} (hk : k < l.length) : sumN (wtAt (ask l s k)) l.length ≤ sumN (wtAt s) l.length := by
  unfold ask
  split
  · rename_i ha
    have hidle : isAt s k = 0 := by
      unfold askB at ha
      rw [Bool.and_eq_true] at ha
      exact of_decide_eq_true ha.2
    refine Nat.le_of_lt (phi_turn hk (fun _ => h1) (fun i hi => ?_) ?_)
    · have := beg_at h hk 1 1 i
      rw [if_neg hi, if_neg hi] at this
      exact this
    · have := beg_at h hk 1 1 k
      rw [if_pos rfl, if_pos rfl] at this
      unfold wtAt
      rw [this.1, this.2, hidle, h1]
      simp [wt]
  · exact Nat.le_refl _
theorem asks_phi {l : List Step} {s : Sg} (h : Ok l s) (h1 : s.st = 1) : ∀ k, k ≤ l.length → sumN (wtAt (asks l s k)) l.length ≤ sumN (wtAt s) l.length
  | 0, _ => by rw [asks_zero]; exact Nat.le_refl _
  | k + 1, hk => by
    rw [asks_succ]
    have h2 := ask_phi (h.asks k (by omega)) (by rw [asks_st]; exact h1) (k := k) (by omega)
    have h3 := asks_phi h h1 k (by omega)
    omega
theorem undo_phi {l : List Step} {s : Sg} (h : Ok l s) (h0 : 0 < s.done.length) : sumN (wtAt (undoS l s (lastOf s))) l.length < sumN (wtAt s) l.length := by
  have hin := h.dk _ (last_in h0)
  unfold undoS
  split
  · refine phi_turn hin.1 (fun h => h) (fun i hi => ?_) ?_
    · have := beg_at h.drop hin.1 3 2 i
      rw [if_neg hi, if_neg hi] at this
      exact this
    · have := beg_at h.drop hin.1 3 2 (lastOf s)
      rw [if_pos rfl, if_pos rfl] at this
      unfold wtAt
      rw [this.1, this.2, hin.2]
      simp [wt]
  · refine phi_turn hin.1 (fun h => h) (fun i hi => ?_) ?_
    · have := isAt_set (s := { s with done := s.done.dropLast }) (i := lastOf s) (by show _ < s.is.length; rw [h.il]; exact hin.1) 4 i
      rw [if_neg hi] at this
      exact ⟨this, rfl⟩
    · have := isAt_set (s := { s with done := s.done.dropLast }) (i := lastOf s) (by show _ < s.is.length; rw [h.il]; exact hin.1) 4 (lastOf s)
      rw [if_pos rfl] at this
      unfold wtAt
      rw [this, hin.2]
      simp [wt]
theorem back_phi {l : List Step} : ∀ (m : Nat) {s : Sg}, Ok l s → m = s.done.length → sumN (wtAt (back l m s)) l.length ≤ sumN (wtAt s) l.length
  | 0, s, h, hm => by
    unfold back
    split
    · exact Nat.le_refl _
    · exact phi_same (fun h => by simp [setSt] at h) rfl rfl
  | m + 1, s, h, hm => by
    unfold back
    split
    · exact Nat.le_refl _
    · have h1 := undo_phi h (by omega)
      have h2 := back_phi m (h.undo (by omega)) (by rw [undo_len, List.length_dropLast]; omega)
      omega
theorem goOn_phi {l : List Step} {s : Sg} (h : Ok l s) : sumN (wtAt (goOnS l s)) l.length ≤ sumN (wtAt s) l.length := by
  unfold goOnS
  by_cases h1 : s.st = 1
  · rw [if_pos h1]
    unfold fwd
    have h2 := asks_phi h h1 l.length (Nat.le_refl _)
    split
    · have h3 := phi_same (l := l) (s := asks l s l.length) (s' := setSt (asks l s l.length) 3) (fun h => by simp [setSt] at h) rfl rfl
      omega
    · exact h2
  · rw [if_neg h1]
    split
    · exact back_phi _ h rfl
    · exact Nat.le_refl _
theorem move_phi {l : List Step} {s : Sg} (h : Ok l s) (ht : ∀ i (hi : i < l.length), l[i].tries ≤ 5) (hst : s.st = 1 ∨ s.st = 2) {k : Nat} (hk : k < l.length) {kind : Int} (h1 : kind = 1 ∨ kind = 2 ∨ kind = 3 ∨ kind = 4) (hw : isAt s k = wantI kind) :
    sumN (wtAt (moveS l s k kind)) l.length < sumN (wtAt s) l.length ∨ (sumN (wtAt (moveS l s k kind)) l.length ≤ sumN (wtAt s) l.length ∧ (moveS l s k kind).st = 5) := by
  have hki : k < s.is.length := by rw [h.il]; exact hk
  have hkt : k < s.tr.length := by rw [h.tl]; exact hk
  have tb := h.tb k
  have set_lt : ∀ (x : Int), wt s.st x (trAt s k) < wt s.st (isAt s k) (trAt s k) → sumN (wtAt (setIs s k x)) l.length < sumN (wtAt s) l.length := fun x hx => by
    refine phi_turn hk (fun h => h) (fun i hi => ?_) ?_
    · have := isAt_set hki x i
      rw [if_neg hi] at this
      exact ⟨this, rfl⟩
    · have := isAt_set hki x k
      rw [if_pos rfl] at this
      unfold wtAt
      rw [this]
      exact hx
  have again_lt : ∀ (kd : Int), moreB l s k = true → (isAt s k = 1 ∨ isAt s k = 3) → sumN (wtAt (again l s kd k)) l.length < sumN (wtAt s) l.length := fun kd hm hx => by
    unfold moreB at hm
    have hm := of_decide_eq_true hm
    rw [stepOf_eq hk] at hm
    have h5 := ht k hk
    refine phi_turn hk (fun h => h) (fun i hi => ?_) ?_
    · have := trAt_set hkt (trAt s k + 1) i
      rw [if_neg hi] at this
      exact ⟨rfl, this⟩
    · have := trAt_set hkt (trAt s k + 1) k
      rw [if_pos rfl] at this
      show wt s.st (isAt s k) (trAt (setTr s k (trAt s k + 1)) k) < wt s.st (isAt s k) (trAt s k)
      rw [this]
      rcases hx with e | e <;> rw [e] <;> simp [wt] <;> omega
  rcases h1 with rfl | rfl | rfl | rfl
  · left
    have hw : isAt s k = 1 := hw
    rw [move_one]
    exact set_lt 2 (by rw [hw]; simp [wt]; omega)
  · left
    have hw : isAt s k = 1 := hw
    by_cases hb : s.st = 1 ∧ moreB l s k = true
    · rw [move_two_a hb.1 hb.2]
      exact again_lt 1 hb.2 (.inl hw)
    · rw [move_two_b hb]
      refine phi_turn hk (fun h => by simp [setSt] at h) (fun i hi => ?_) ?_
      · have := isAt_set hki 0 i
        rw [if_neg hi] at this
        exact ⟨this, rfl⟩
      · have := isAt_set hki 0 k
        rw [if_pos rfl] at this
        show wt 2 (isAt (setIs s k 0) k) (trAt s k) < wt s.st (isAt s k) (trAt s k)
        rw [this, hw]
        simp [wt]
        omega
  · left
    have hw : isAt s k = 3 := hw
    rw [move_three]
    exact set_lt 4 (by rw [hw]; simp [wt]; omega)
  · have hw : isAt s k = 3 := hw
    cases hm : moreB l s k
    · right
      rw [move_four_b hm]
      exact ⟨phi_same (fun h => by simp [setSt] at h) rfl rfl, rfl⟩
    · left
      rw [move_four_a hm]
      exact again_lt 2 hm (.inr hw)
theorem hear_phi {l : List Step} {s : Sg} (h : Ok l s) (ht : ∀ i (hi : i < l.length), l[i].tries ≤ 5) (hst : s.st = 1 ∨ s.st = 2) (m : Msg) (h0 : ¬ findI (names l) m.step < 0) (h1 : m.kind = 1 ∨ m.kind = 2 ∨ m.kind = 3 ∨ m.kind = 4) (hw : isAt s (numOf l m.step) = wantI m.kind) : phi l (hearS l s m) < phi l s := by
  have hk := (find_lt (Int.not_lt.1 h0)).1
  have hw2 : isAt s (numOf l m.step) ≠ 2 := by rw [hw]; unfold wantI; split <;> omega
  obtain ⟨_, e⟩ := code_fits (l := l) (s := s) (m := m) h0 (by omega) (by omega) (by rw [hw]; simp)
  rw [e]
  have hok := h.move ht hk m.kind hw2
  have hg := goOn_phi hok
  have hm := move_phi h ht hst hk h1 hw
  unfold phi
  rw [if_pos hst]
  rcases hm with hm | ⟨hm, h5⟩
  · split <;> omega
  · have hgo : goOnS l (moveS l s (numOf l m.step) m.kind) = moveS l s (numOf l m.step) m.kind := by unfold goOnS; rw [if_neg (by omega), if_neg (by omega)]
    rw [hgo, if_neg (by omega)]
    omega
end Go.Proofs.YtlnfobeedpbnmaaDoor

namespace Go.Proofs.YtlnfobeedpbnmaaDoor
open Go.ChangeShapes Go.WideShapes Go.ChangeAt Go.RowKit
set_option linter.unusedVariables false
set_option linter.unusedSimpArgs false

/-- What holds besides. -/
structure Ok2 (l : List Step) (s : Sg) : Prop where
  fw : s.st = 1 → ∀ i, isAt s i = 0 ∨ isAt s i = 1 ∨ isAt s i = 2
  kd : ∀ k, k < l.length → isAt s k = 2 → k ∈ s.done
/-- What a step needs stands ahead of it. -/
def Ahead (l : List Step) : Prop := ∀ i, i < l.length → ∀ t ∈ (stepOf l i).needs, numOf l t < i
theorem Ok2.same {l : List Step} {s s' : Sg} (h : Ok2 l s) (h1 : s'.st = 1 → s.st = 1) (h2 : s'.is = s.is) (h3 : s'.done = s.done) : Ok2 l s' :=
  ⟨fun e i => by unfold isAt; rw [h2]; exact h.fw (h1 e) i, fun k hk e => by rw [h3]; unfold isAt at e; rw [h2] at e; exact h.kd k hk e⟩
theorem Ok2.setIs {l : List Step} {s : Sg} (h : Ok2 l s) {j : Nat} (hj : j < s.is.length) {x : Int} (hx : x ≠ 2) (hf : s.st = 1 → x = 0 ∨ x = 1) : Ok2 l (setIs s j x) := by
  refine ⟨fun e i => ?_, fun k hk e => ?_⟩
  · rw [isAt_set hj]
    split
    · rcases hf e with h1 | h1
      · exact .inl h1
      · exact .inr (.inl h1)
    · exact h.fw e i
  · rw [isAt_set hj] at e
    split at e
    · exact absurd e hx
    · exact h.kd k hk e
theorem Ok2.setTr {l : List Step} {s : Sg} (h : Ok2 l s) (j : Nat) (x : Int) : Ok2 l (setTr s j x) := h.same (fun e => e) rfl rfl
theorem Ok2.cmd {l : List Step} {s : Sg} (h : Ok2 l s) (kind : Int) (j : Nat) : Ok2 l (cmdS l s kind j) := h.same (fun e => e) rfl rfl
theorem Ok2.beg {l : List Step} {s : Sg} (h : Ok2 l s) {j : Nat} (hj : j < s.is.length) {x : Int} (hx : x ≠ 2) (hf : s.st = 1 → x = 0 ∨ x = 1) (kind : Int) : Ok2 l (beg l s x kind j) := ((h.setIs hj hx hf).setTr j 1).cmd kind j
theorem Ok2.ask {l : List Step} {s : Sg} (h : Ok2 l s) (ho : Ok l s) {k : Nat} (hk : k < l.length) : Ok2 l (ask l s k) := by
  unfold Go.Proofs.YtlnfobeedpbnmaaDoor.ask
  split
  · exact h.beg (by rw [ho.il]; exact hk) (by omega) (fun _ => .inr rfl) 1
  · exact h
theorem Ok2.asks {l : List Step} {s : Sg} (h : Ok2 l s) (ho : Ok l s) : ∀ k, k ≤ l.length → Ok2 l (asks l s k)
  | 0, _ => h
  | k + 1, hk => by rw [asks_succ]; exact (h.asks ho k (by omega)).ask (ho.asks k (by omega)) (by omega)
theorem ask_is {l : List Step} {s : Sg} (ho : Ok l s) {k : Nat} (hk : k < l.length) (i : Nat) : isAt (ask l s k) i = if i = k ∧ askB l s k = true then 1 else isAt s i := by
  unfold ask
  cases ha : askB l s k
  · rw [if_neg (by simp), if_neg (by simp)]
  · rw [if_pos rfl]
    have := (beg_at ho hk 1 1 i).1
    rw [this]
    by_cases e : i = k
    · rw [if_pos e, if_pos ⟨e, rfl⟩]
    · rw [if_neg e, if_neg (fun h => e h.1)]
theorem ask_two {l : List Step} {s : Sg} (ho : Ok l s) {k : Nat} (hk : k < l.length) (i : Nat) : isAt (ask l s k) i = 2 ↔ isAt s i = 2 := by
  rw [ask_is ho hk]
  by_cases e : i = k ∧ askB l s k = true
  · rw [if_pos e]
    have h0 : isAt s i = 0 := by
      rw [e.1]
      have := e.2
      unfold askB at this
      rw [Bool.and_eq_true] at this
      exact of_decide_eq_true this.2
    rw [h0]
    constructor <;> intro h <;> omega
  · rw [if_neg e]
theorem asks_two {l : List Step} {s : Sg} (ho : Ok l s) : ∀ k, k ≤ l.length → ∀ i, isAt (asks l s k) i = 2 ↔ isAt s i = 2
  | 0, _, i => Iff.rfl
  | k + 1, hk, i => by rw [asks_succ, ask_two (ho.asks k (by omega)) (by omega)]; exact asks_two ho k (by omega) i
theorem asks_one {l : List Step} {s : Sg} (ho : Ok l s) {i : Nat} : ∀ k, k ≤ l.length → isAt s i = 1 → isAt (asks l s k) i = 1
  | 0, _, h => h
  | k + 1, hk, h => by
    rw [asks_succ, ask_is (ho.asks k (by omega)) (by omega)]
    split
    · rfl
    · exact asks_one ho k (by omega) h
theorem asks_ahead {l : List Step} {s : Sg} (ho : Ok l s) {i : Nat} : ∀ k, k ≤ i → k ≤ l.length → isAt (asks l s k) i = isAt s i
  | 0, _, _ => rfl
  | k + 1, hk, hl => by
    rw [asks_succ, ask_is (ho.asks k (by omega)) (by omega), if_neg (fun h => by omega)]
    exact asks_ahead ho k (by omega) (by omega)
theorem asks_keep {l : List Step} {s : Sg} (ho : Ok l s) {i m : Nat} : ∀ k, m ≤ k → k ≤ l.length → isAt (asks l s m) i = 1 → isAt (asks l s k) i = 1
  | 0, hm, _, h => by
    obtain rfl : m = 0 := by omega
    exact h
  | k + 1, hm, hk, h => by
    by_cases e : m = k + 1
    · subst e; exact h
    · rw [asks_succ, ask_is (ho.asks k (by omega)) (by omega)]
      split
      · rfl
      · exact asks_keep ho k (by omega) (by omega) h
theorem least_not {n : Nat} {p : Nat → Prop} (h : ∃ i, i < n ∧ ¬ p i) : ∃ i, i < n ∧ ¬ p i ∧ ∀ j, j < i → p j := by
  obtain ⟨i, hi, hp⟩ := h
  induction i using Nat.strongRecOn with
  | ind i ih =>
    by_cases hq : ∃ j, j < i ∧ ¬ p j
    · obtain ⟨j, hj, hpj⟩ := hq
      exact ih j hj (by omega) hpj
    · exact ⟨i, hi, hp, fun j hj => Classical.byContradiction fun hn => hq ⟨j, hj, hn⟩⟩
theorem fwd_busy {l : List Step} {s : Sg} (ho : Ok l s) (h2 : Ok2 l s) (ha : Ahead l) (h1 : s.st = 1) (hd : s.done.length ≠ l.length) : ∃ i, i < l.length ∧ isAt (asks l s l.length) i = 1 := by
  have hex : ∃ i, i < l.length ∧ ¬ isAt s i = 2 := Classical.byContradiction fun hn => by
    have hall : ∀ k ∈ List.range l.length, k ∈ s.done := fun k hk => h2.kd k (List.mem_range.1 hk) (Classical.byContradiction fun hk2 => hn ⟨k, List.mem_range.1 hk, hk2⟩)
    have := pigeonN (List.range l.length) s.done List.nodup_range hall
    rw [List.length_range] at this
    have := done_len ho
    omega
  obtain ⟨i, hi, hne, hlt⟩ := least_not hex
  refine ⟨i, hi, ?_⟩
  rcases h2.fw h1 i with h0 | h0 | h0
  · have hat : isAt (asks l s i) i = 0 := by rw [asks_ahead ho i (Nat.le_refl _) (by omega)]; exact h0
    have hask : askB l (asks l s i) i = true := by
      unfold askB readyB
      rw [Bool.and_eq_true, List.all_eq_true]
      refine ⟨fun t ht => decide_eq_true ?_, decide_eq_true hat⟩
      have hn := ha i hi t ht
      exact (asks_two ho i (by omega) _).2 (hlt _ hn)
    have : isAt (asks l s (i + 1)) i = 1 := by rw [asks_succ, ask_is (ho.asks i (by omega)) hi, if_pos ⟨rfl, hask⟩]
    exact asks_keep ho l.length (by omega) (Nat.le_refl _) this
  · exact asks_one ho l.length (Nat.le_refl _) h0
  · exact absurd h0 hne
theorem busy_of {s : Sg} {i : Nat} (hi : i < s.is.length) (h : isAt s i = 1 ∨ isAt s i = 3) : busy s = true := by
  unfold busy anyB
  rw [Bool.or_eq_true, List.any_eq_true, List.any_eq_true]
  rw [isAt_eq hi] at h
  rcases h with h | h
  · exact .inl ⟨_, List.getElem_mem hi, decide_eq_true h⟩
  · exact .inr ⟨_, List.getElem_mem hi, decide_eq_true h⟩
theorem back_ends {l : List Step} : ∀ (m : Nat) (s : Sg), (back l m s).st = 4 ∨ busy (back l m s) = true
  | 0, s => by
    unfold back
    split
    · rename_i h; exact .inr h
    · exact .inl rfl
  | m + 1, s => by
    unfold back
    split
    · rename_i h; exact .inr h
    · exact back_ends m _
/-- Behind goOn a saga that is not over is busy. -/
theorem goOn_busy {l : List Step} {s : Sg} (ho : Ok l s) (h2 : Ok2 l s) (ha : Ahead l) (h : (goOnS l s).st = 1 ∨ (goOnS l s).st = 2) : busy (goOnS l s) = true := by
  unfold goOnS at h ⊢
  by_cases h1 : s.st = 1
  · rw [if_pos h1] at h ⊢
    unfold fwd at h ⊢
    by_cases hd : (asks l s l.length).done.length = l.length
    · rw [if_pos hd] at h
      simp [setSt] at h
    · rw [if_neg hd] at h ⊢
      rw [asks_done] at hd
      obtain ⟨i, hi, hi1⟩ := fwd_busy ho h2 ha h1 hd
      exact busy_of (by rw [(ho.asks l.length (Nat.le_refl _)).il]; exact hi) (.inl hi1)
  · rw [if_neg h1] at h ⊢
    by_cases h3 : s.st = 2
    · rw [if_pos h3] at h ⊢
      rcases back_ends s.done.length s with e | e
      · rw [e] at h; omega
      · exact e
    · rw [if_neg h3] at h
      omega
theorem Ok2.undo {l : List Step} {s : Sg} (h : Ok2 l s) (ho : Ok l s) (h0 : 0 < s.done.length) (hst : s.st ≠ 1) : Ok2 l (undoS l s (lastOf s)) := by
  have hin := (ho.dk _ (last_in h0)).1
  have hil : lastOf s < s.is.length := by rw [ho.il]; exact hin
  have key : ∀ (x : Int), x ≠ 2 → Ok2 l (Go.Proofs.YtlnfobeedpbnmaaDoor.setIs { s with done := s.done.dropLast } (lastOf s) x) := fun x hx => by
    refine ⟨fun e => absurd e hst, fun k hk e => ?_⟩
    have h1 := isAt_set (s := { s with done := s.done.dropLast }) (i := lastOf s) hil x k
    rw [h1] at e
    split at e
    · exact absurd e hx
    · rename_i hne
      have hm := h.kd k hk e
      rw [last_split h0] at hm
      rcases List.mem_append.1 hm with hm | hm
      · exact hm
      · simp at hm; exact absurd hm hne
  unfold undoS
  split
  · exact ((key 3 (by omega)).setTr _ 1).cmd 2 _
  · exact key 4 (by omega)
theorem Ok2.back {l : List Step} : ∀ (m : Nat) {s : Sg}, Ok2 l s → Ok l s → m = s.done.length → s.st ≠ 1 → Ok2 l (back l m s)
  | 0, s, h, ho, hm, hst => by
    unfold Go.Proofs.YtlnfobeedpbnmaaDoor.back
    split
    · exact h
    · exact h.same (fun e => by simp [setSt] at e) rfl rfl
  | m + 1, s, h, ho, hm, hst => by
    unfold Go.Proofs.YtlnfobeedpbnmaaDoor.back
    split
    · exact h
    · exact Ok2.back m (h.undo ho (by omega) hst) (ho.undo (by omega)) (by rw [undo_len, List.length_dropLast]; omega) (by rw [undo_st]; exact hst)
theorem Ok2.goOn {l : List Step} {s : Sg} (h : Ok2 l s) (ho : Ok l s) : Ok2 l (goOnS l s) := by
  unfold goOnS
  split
  · unfold fwd
    have h1 := h.asks ho l.length (Nat.le_refl _)
    split
    · exact h1.same (fun e => by simp [setSt] at e) rfl rfl
    · exact h1
  · split
    · exact h.back _ ho rfl (by omega)
    · exact h
theorem Ok2.move {l : List Step} {s : Sg} (h : Ok2 l s) (ho : Ok l s) {k : Nat} (hk : k < l.length) {kind : Int} (h1 : kind = 1 ∨ kind = 2 ∨ kind = 3 ∨ kind = 4) (hw : isAt s k = wantI kind) : Ok2 l (moveS l s k kind) := by
  have hki : k < s.is.length := by rw [ho.il]; exact hk
  rcases h1 with rfl | rfl | rfl | rfl
  · rw [move_one]
    refine ⟨fun e i => ?_, fun j hj e => ?_⟩
    · show isAt (Go.Proofs.YtlnfobeedpbnmaaDoor.setIs s k 2) i = 0 ∨ isAt (Go.Proofs.YtlnfobeedpbnmaaDoor.setIs s k 2) i = 1 ∨ isAt (Go.Proofs.YtlnfobeedpbnmaaDoor.setIs s k 2) i = 2
      rw [isAt_set hki]
      split
      · exact .inr (.inr rfl)
      · exact h.fw e i
    · have e : isAt (Go.Proofs.YtlnfobeedpbnmaaDoor.setIs s k 2) j = 2 := e
      rw [isAt_set hki] at e
      show j ∈ s.done ++ [k]
      split at e
      · rename_i hjk; subst hjk; simp
      · exact List.mem_append.2 (.inl (h.kd j hj e))
  · by_cases hb : s.st = 1 ∧ moreB l s k = true
    · rw [move_two_a hb.1 hb.2]
      exact (h.setTr k _).cmd 1 k
    · rw [move_two_b hb]
      have h2 := h.setIs hki (x := 0) (by omega) (fun _ => .inl rfl)
      exact h2.same (fun e => by simp [setSt] at e) rfl rfl
  · rw [move_three]
    have hw : isAt s k = 3 := hw
    refine h.setIs hki (by omega) (fun e => ?_)
    have := h.fw e k
    omega
  · cases hm : moreB l s k
    · rw [move_four_b hm]
      exact h.same (fun e => by simp [setSt] at e) rfl rfl
    · rw [move_four_a hm]
      exact (h.setTr k _).cmd 2 k
theorem Ok2.zero (l : List Step) : Ok2 l (zeroS l) := by
  have hz : ∀ i, isAt (zeroS l) i = 0 := fun i => by
    unfold isAt zeroS
    dsimp only
    rw [List.getElem?_replicate]
    split <;> rfl
  exact ⟨fun _ i => .inl (hz i), fun k _ e => by rw [hz] at e; omega⟩
theorem Ok2.begin (l : List Step) : Ok2 l (beginS l) := by
  have h := (Ok2.zero l).goOn (Ok.zero l)
  have e : goOnS l (zeroS l) = beginS l := by unfold goOnS beginS; rw [if_pos (show (zeroS l).st = 1 from rfl)]
  rw [e] at h
  exact h
theorem ahead_of {l : List Step} (hb : sagaB l = true) : Ahead l := by
  intro i hi t ht
  have hat : StepAt l i hi := Classical.byContradiction fun hn => by rw [sagaB_not i hi hn] at hb; simp at hb
  rw [stepOf_eq hi] at ht
  obtain ⟨k, hk, rfl⟩ := List.getElem_of_mem ht
  have h1 := (hat.2 k hk).1
  rw [← findI_has] at h1
  have h1 := of_decide_eq_true h1
  -- the first one of that name stands ahead
  have hlt := (findI_ge (ahead l i) l[i].needs[k]).2
  rw [ahead_len (by omega)] at hlt
  have key : ∀ (a b : List ByteArray) (x : ByteArray), 0 ≤ findI a x → findI (a ++ b) x = findI a x := fun a b x => by
    induction a with
    | nil => intro h; simp [findI] at h
    | cons y a ih =>
      intro h
      simp only [findI, List.cons_append] at h ⊢
      by_cases e : (y.toList == x.toList) = true
      · simp [e]
      · simp only [e] at h ⊢
        have hr := ih (by have := (findI_ge a x).1; simp at h ⊢; omega)
        simp [hr]
  have hn : names l = ahead l i ++ (l.drop i).map Step.name := by unfold names ahead; rw [← List.map_append, List.take_append_drop]
  unfold numOf
  rw [hn, key _ _ _ h1]
  omega
end Go.Proofs.YtlnfobeedpbnmaaDoor

namespace Go.Proofs.YtlnfobeedpbnmaaDoor
open Go.ChangeShapes Go.WideShapes Go.ChangeAt Go.RowKit
set_option linter.unusedVariables false
set_option linter.unusedSimpArgs false

def isBusy (x : Int) : Bool := decide (x = 1) || decide (x = 3)
/-- The first step that is asked or undoing. -/
def firstB (s : Sg) : Nat := s.is.findIdx isBusy
/-- Its answer. -/
def ansM (l : List Step) (s : Sg) (f u : List ByteArray) (k : Nat) : Msg :=
  ⟨nameAt l k, if isAt s k = 3 then (if hasB u (nameAt l k) then 4 else 3) else (if hasB f (nameAt l k) then 2 else 1)⟩
def stepE (l : List Step) (f u : List ByteArray) (s : Sg) : Sg := hearS l s (ansM l s f u (firstB s))
def overP (s : Sg) : Prop := s.st ≠ 1 ∧ s.st ≠ 2
instance (s : Sg) : Decidable (overP s) := by unfold overP; infer_instance
def endsN (l : List Step) (f u : List ByteArray) : Nat → Sg → Sg
  | 0, s => s
  | n + 1, s => if overP s then s else endsN l f u n (stepE l f u s)
/-- What is kept on the way. -/
structure Way (l : List Step) (s : Sg) : Prop where
  ok : Ok l s
  ok2 : Ok2 l s
  bz : s.st = 1 ∨ s.st = 2 → busy s = true
theorem first_lt {s : Sg} (h : busy s = true) : firstB s < s.is.length ∧ (isAt s (firstB s) = 1 ∨ isAt s (firstB s) = 3) := by
  have hex : ∃ x ∈ s.is, isBusy x = true := by
    unfold busy anyB at h
    rw [Bool.or_eq_true, List.any_eq_true, List.any_eq_true] at h
    rcases h with ⟨x, hx, h⟩ | ⟨x, hx, h⟩
    · exact ⟨x, hx, by unfold isBusy; rw [h]; rfl⟩
    · exact ⟨x, hx, by unfold isBusy; rw [h, Bool.or_true]⟩
  have hlt : firstB s < s.is.length := List.findIdx_lt_length_of_exists hex
  refine ⟨hlt, ?_⟩
  have hb : isBusy s.is[firstB s] = true := List.findIdx_getElem (w := hlt)
  rw [isAt_eq hlt]
  unfold isBusy at hb
  simpa using hb
theorem name_find {l : List Step} (hb : sagaB l = true) {k : Nat} (hk : k < l.length) : findI (names l) (nameAt l k) = (k : Int) := by
  have hn : nameAt l k = l[k].name := by unfold nameAt; rw [stepOf_eq hk]
  have hkn : k < (names l).length := by rw [names_len]; exact hk
  refine findI_at hkn (fun i hi hlt => ?_) ?_
  · have hat : StepAt l k hk := Classical.byContradiction fun hn => by rw [sagaB_not k hk hn] at hb; simp at hb
    have h1 := hat.1
    unfold stepB0 at h1
    simp only [Bool.and_eq_true] at h1
    have h2 : hasB (ahead l k) l[k].name = false := by have := h1.1.1.1.2; simpa using this
    rw [hn]
    cases he : ((names l)[i].toList == l[k].name.toList)
    · rfl
    · exfalso
      have : hasB (ahead l k) l[k].name = true := by
        unfold hasB
        rw [List.any_eq_true]
        refine ⟨(names l)[i], ?_, he⟩
        have hil : i < l.length := by rw [names_len] at hi; exact hi
        have hni : (names l)[i] = l[i].name := by simp [names]
        rw [hni]
        unfold ahead
        exact List.mem_map_of_mem (List.mem_take_iff_getElem.2 ⟨i, by omega, rfl⟩)
      rw [h2] at this
      cases this
  · rw [hn]
    simp [names]
theorem Way.step {l : List Step} {s : Sg} (h : Way l s) (hb : sagaB l = true) (ht : ∀ i (hi : i < l.length), l[i].tries ≤ 5) (f u : List ByteArray) (ho : ¬ overP s) : Way l (stepE l f u s) ∧ phi l (stepE l f u s) < phi l s ∧ codeS l s (ansM l s f u (firstB s)) = 0 := by
  have hst : s.st = 1 ∨ s.st = 2 := by unfold overP at ho; omega
  obtain ⟨hlt, hbz⟩ := first_lt (h.bz hst)
  rw [h.ok.il] at hlt
  have hf := name_find hb hlt
  have hstep : (ansM l s f u (firstB s)).step = nameAt l (firstB s) := rfl
  have h0 : ¬ findI (names l) (ansM l s f u (firstB s)).step < 0 := by rw [hstep, hf]; omega
  have hnum : numOf l (ansM l s f u (firstB s)).step = firstB s := by unfold numOf; rw [hstep, hf]; omega
  have hkw : ((ansM l s f u (firstB s)).kind = 1 ∨ (ansM l s f u (firstB s)).kind = 2 ∨ (ansM l s f u (firstB s)).kind = 3 ∨ (ansM l s f u (firstB s)).kind = 4) ∧ isAt s (firstB s) = wantI (ansM l s f u (firstB s)).kind := by
    unfold ansM
    dsimp only
    rcases hbz with e | e
    · rw [if_neg (by omega)]
      split
      · exact ⟨by omega, e⟩
      · exact ⟨by omega, e⟩
    · rw [if_pos e]
      split
      · exact ⟨by omega, e⟩
      · exact ⟨by omega, e⟩
  have hw : isAt s (numOf l (ansM l s f u (firstB s)).step) = wantI (ansM l s f u (firstB s)).kind := by rw [hnum]; exact hkw.2
  have hph := hear_phi h.ok ht hst (ansM l s f u (firstB s)) h0 hkw.1 hw
  obtain ⟨hc, he⟩ := code_fits (l := l) (s := s) (m := ansM l s f u (firstB s)) h0 (by omega) (by omega) (by rw [hw]; simp)
  have hw2 : isAt s (numOf l (ansM l s f u (firstB s)).step) ≠ 2 := by rw [hw]; unfold wantI; split <;> omega
  rw [hnum] at hw hw2
  have hmo := h.ok.move ht hlt (ansM l s f u (firstB s)).kind hw2
  have hm2 := h.ok2.move h.ok hlt hkw.1 hw
  rw [hnum] at he
  refine ⟨?_, hph, hc⟩
  unfold stepE
  rw [he]
  exact ⟨hmo.goOn, hm2.goOn hmo, goOn_busy hmo hm2 (ahead_of hb)⟩
theorem Way.begin {l : List Step} (hb : sagaB l = true) : Way l (beginS l) := by
  have e : goOnS l (zeroS l) = beginS l := by unfold goOnS beginS; rw [if_pos (show (zeroS l).st = 1 from rfl)]
  refine ⟨Ok.begin l, Ok2.begin l, fun h => ?_⟩
  rw [← e] at h ⊢
  exact goOn_busy (Ok.zero l) (Ok2.zero l) (ahead_of hb) h
theorem endsN_over {l : List Step} (hb : sagaB l = true) (ht : ∀ i (hi : i < l.length), l[i].tries ≤ 5) (f u : List ByteArray) : ∀ (n : Nat) {s : Sg}, Way l s → phi l s ≤ n → overP (endsN l f u n s) ∧ Way l (endsN l f u n s)
  | 0, s, h, hn => by
    refine ⟨Classical.byContradiction fun ho => ?_, h⟩
    have := (h.step hb ht f u ho).2.1
    omega
  | n + 1, s, h, hn => by
    unfold endsN
    by_cases ho : overP s
    · rw [if_pos ho]; exact ⟨ho, h⟩
    · rw [if_neg ho]
      obtain ⟨h1, h2, _⟩ := h.step hb ht f u ho
      exact endsN_over hb ht f u n h1 (by omega)
end Go.Proofs.YtlnfobeedpbnmaaDoor

namespace Go.Proofs.YtlnfobeedpbnmaaDoor
open Go.ChangeShapes Go.WideShapes Go.ChangeAt Go.RowKit
set_option linter.unusedVariables false
set_option linter.unusedSimpArgs false

def doneF (l : List Step) (s : Sg) : List Nat := (List.range l.length).filter (fun i => decide (isAt s i = 2))
theorem done_perm {l : List Step} {s : Sg} (h : Ok l s) (h2 : Ok2 l s) : s.done.Perm (doneF l s) := by
  unfold doneF
  rw [List.perm_ext_iff_of_nodup h.dn (List.nodup_range.sublist List.filter_sublist)]
  intro a
  rw [List.mem_filter, List.mem_range]
  constructor
  · intro ha
    exact ⟨(h.dk a ha).1, decide_eq_true (h.dk a ha).2⟩
  · rintro ⟨h1, h3⟩
    exact h2.kd a h1 (of_decide_eq_true h3)
theorem nums_perm {a b : List Nat} (h : a.Perm b) : (nums a).Perm (nums b) := h.map _
theorem done_sorted {l : List Step} {s : Sg} (h : Ok l s) (h2 : Ok2 l s) : (nums s.done).mergeSort (fun x y => decide (x ≤ y)) = nums (doneF l s) := by
  refine List.Perm.eq_of_pairwise (le := fun a b : Int => a ≤ b) (fun a b _ _ h1 h2 => by omega) ?_ ?_ ((List.mergeSort_perm _ _).trans (nums_perm (done_perm h h2)))
  · have := List.pairwise_mergeSort (le := fun x y : Int => decide (x ≤ y)) (fun a b c h1 h2 => by simp at *; omega) (fun a b => by simp; omega) (nums s.done)
    exact this.imp (fun h => of_decide_eq_true h)
  · have h3 : List.Pairwise (fun a b : Nat => a < b) (doneF l s) := List.pairwise_lt_range.filter _
    unfold nums
    rw [List.pairwise_map]
    exact h3.imp (fun h => by omega)
/-- What a SagaEnds answers. -/
noncomputable def endF (l : List Step) (f u : List ByteArray) : Int × List ByteArray × Int :=
  if 4096 < l.length ∨ 4096 < f.length ∨ 4096 < u.length then (0, [], 2)
  else if sagaB l = false then (0, [], 1)
  else if f.all (hasB (names l)) = false ∨ u.all (hasB (names l)) = false then (0, [], 7)
  else ((endsN l f u (phi l (beginS l)) (beginS l)).st, (doneF l (endsN l f u (phi l (beginS l)) (beginS l))).map (nameAt l), 0)
end Go.Proofs.YtlnfobeedpbnmaaDoor

namespace Go.Proofs.YtlnfobeedpbnmaaDoor
open Go.ChangeShapes Go.WideShapes Go.ChangeAt Go.RowKit
set_option linter.unusedVariables false
set_option linter.unusedSimpArgs false

/-- How many messages a step takes still. -/
def wu (st x t : Int) : Nat :=
  if x = 0 then (if st = 1 then 4 else 0)
  else if x = 1 then 2 + (3 - t).toNat
  else if x = 2 then 1
  else if x = 3 then 1
  else 0
def wuAt (s : Sg) (i : Nat) : Nat := wu s.st (isAt s i) (trAt s i)
def psi (l : List Step) (s : Sg) : Nat := sumN (wuAt s) l.length
theorem wu_st {st st' x t : Int} (h : st' = 1 → st = 1) : wu st' x t ≤ wu st x t := by
  unfold wu
  split
  · by_cases h1 : st' = 1
    · rw [if_pos h1, if_pos (h h1)]; exact Nat.le_refl _
    · rw [if_neg h1]; exact Nat.zero_le _
  · exact Nat.le_refl _
theorem psi_le {l : List Step} {s s' : Sg} {j : Nat} (hj : j < l.length) (hst : s'.st = 1 → s.st = 1) (hother : ∀ i, i ≠ j → isAt s' i = isAt s i ∧ trAt s' i = trAt s i) (hle : wuAt s' j ≤ wuAt s j) : psi l s' ≤ psi l s := by
  refine sumN_le l.length (fun i hi => ?_)
  by_cases e : i = j
  · subst e; exact hle
  · obtain ⟨h1, h2⟩ := hother i e
    unfold wuAt
    rw [h1, h2]
    exact wu_st hst
theorem psi_turn {l : List Step} {s s' : Sg} {j : Nat} (hj : j < l.length) (hst : s'.st = 1 → s.st = 1) (hother : ∀ i, i ≠ j → isAt s' i = isAt s i ∧ trAt s' i = trAt s i) (hlt : wuAt s' j < wuAt s j) : psi l s' < psi l s := by
  refine sumN_lt l.length hj (fun i hi => ?_) hlt
  by_cases e : i = j
  · subst e; exact Nat.le_of_lt hlt
  · obtain ⟨h1, h2⟩ := hother i e
    unfold wuAt
    rw [h1, h2]
    exact wu_st hst
theorem psi_same {l : List Step} {s s' : Sg} (hst : s'.st = 1 → s.st = 1) (hi : s'.is = s.is) (ht : s'.tr = s.tr) : psi l s' ≤ psi l s :=
  sumN_le l.length (fun i _ => by
    unfold wuAt isAt trAt
    rw [hi, ht]
    exact wu_st hst)
theorem ask_psi {l : List Step} {s : Sg} (h : Ok l s) (h1 : s.st = 1) {k : Nat} (hk : k < l.length) : psi l (ask l s k) ≤ psi l s := by
  unfold ask
  split
  · rename_i ha
    have hidle : isAt s k = 0 := by
      unfold askB at ha
      rw [Bool.and_eq_true] at ha
      exact of_decide_eq_true ha.2
    refine psi_le hk (fun _ => h1) (fun i hi => ?_) ?_
    · have := beg_at h hk 1 1 i
      rw [if_neg hi, if_neg hi] at this
      exact this
    · have := beg_at h hk 1 1 k
      rw [if_pos rfl, if_pos rfl] at this
      unfold wuAt
      rw [this.1, this.2, hidle, h1]
      simp [wu]
  · exact Nat.le_refl _
theorem asks_psi {l : List Step} {s : Sg} (h : Ok l s) (h1 : s.st = 1) : ∀ k, k ≤ l.length → psi l (asks l s k) ≤ psi l s
  | 0, _ => by rw [asks_zero]; exact Nat.le_refl _
  | k + 1, hk => by
    rw [asks_succ]
    have h2 := ask_psi (h.asks k (by omega)) (by rw [asks_st]; exact h1) (k := k) (by omega)
    have h3 := asks_psi h h1 k (by omega)
    omega
theorem undo_psi {l : List Step} {s : Sg} (h : Ok l s) (h0 : 0 < s.done.length) : psi l (undoS l s (lastOf s)) ≤ psi l s := by
  have hin := h.dk _ (last_in h0)
  unfold undoS
  split
  · refine psi_le hin.1 (fun h => h) (fun i hi => ?_) ?_
    · have := beg_at h.drop hin.1 3 2 i
      rw [if_neg hi, if_neg hi] at this
      exact this
    · have := beg_at h.drop hin.1 3 2 (lastOf s)
      rw [if_pos rfl, if_pos rfl] at this
      unfold wuAt
      rw [this.1, this.2, hin.2]
      simp [wu]
  · refine psi_le hin.1 (fun h => h) (fun i hi => ?_) ?_
    · have := isAt_set (s := { s with done := s.done.dropLast }) (i := lastOf s) (by show _ < s.is.length; rw [h.il]; exact hin.1) 4 i
      rw [if_neg hi] at this
      exact ⟨this, rfl⟩
    · have := isAt_set (s := { s with done := s.done.dropLast }) (i := lastOf s) (by show _ < s.is.length; rw [h.il]; exact hin.1) 4 (lastOf s)
      rw [if_pos rfl] at this
      unfold wuAt
      rw [this, hin.2]
      simp [wu]
theorem back_psi {l : List Step} : ∀ (m : Nat) {s : Sg}, Ok l s → m = s.done.length → psi l (back l m s) ≤ psi l s
  | 0, s, h, hm => by
    unfold back
    split
    · exact Nat.le_refl _
    · exact psi_same (fun h => by simp [setSt] at h) rfl rfl
  | m + 1, s, h, hm => by
    unfold back
    split
    · exact Nat.le_refl _
    · have h1 := undo_psi h (by omega)
      have h2 := back_psi m (h.undo (by omega)) (by rw [undo_len, List.length_dropLast]; omega)
      omega
theorem goOn_psi {l : List Step} {s : Sg} (h : Ok l s) : psi l (goOnS l s) ≤ psi l s := by
  unfold goOnS
  by_cases h1 : s.st = 1
  · rw [if_pos h1]
    unfold fwd
    have h2 := asks_psi h h1 l.length (Nat.le_refl _)
    split
    · have h3 := psi_same (l := l) (s := asks l s l.length) (s' := setSt (asks l s l.length) 3) (fun h => by simp [setSt] at h) rfl rfl
      omega
    · exact h2
  · rw [if_neg h1]
    split
    · exact back_psi _ h rfl
    · exact Nat.le_refl _
theorem move_psi {l : List Step} {s : Sg} (h : Ok l s) (ht : ∀ i (hi : i < l.length), l[i].tries ≤ 3) {k : Nat} (hk : k < l.length) {kind : Int} (h1 : kind = 1 ∨ kind = 2 ∨ kind = 3) (hw : isAt s k = wantI kind) : psi l (moveS l s k kind) < psi l s := by
  have hki : k < s.is.length := by rw [h.il]; exact hk
  have hkt : k < s.tr.length := by rw [h.tl]; exact hk
  have set_lt : ∀ (x : Int), wu s.st x (trAt s k) < wu s.st (isAt s k) (trAt s k) → psi l (setIs s k x) < psi l s := fun x hx => by
    refine psi_turn hk (fun h => h) (fun i hi => ?_) ?_
    · have := isAt_set hki x i
      rw [if_neg hi] at this
      exact ⟨this, rfl⟩
    · have := isAt_set hki x k
      rw [if_pos rfl] at this
      unfold wuAt
      rw [this]
      exact hx
  rcases h1 with rfl | rfl | rfl
  · have hw : isAt s k = 1 := hw
    rw [move_one]
    exact set_lt 2 (by rw [hw]; simp [wu]; omega)
  · have hw : isAt s k = 1 := hw
    by_cases hb : s.st = 1 ∧ moreB l s k = true
    · rw [move_two_a hb.1 hb.2]
      have hm := hb.2
      unfold moreB at hm
      have hm := of_decide_eq_true hm
      rw [stepOf_eq hk] at hm
      have h5 := ht k hk
      refine psi_turn hk (fun h => h) (fun i hi => ?_) ?_
      · have := trAt_set hkt (trAt s k + 1) i
        rw [if_neg hi] at this
        exact ⟨rfl, this⟩
      · have := trAt_set hkt (trAt s k + 1) k
        rw [if_pos rfl] at this
        show wu s.st (isAt s k) (trAt (setTr s k (trAt s k + 1)) k) < wu s.st (isAt s k) (trAt s k)
        rw [this, hw]
        simp [wu]
        omega
    · rw [move_two_b hb]
      refine psi_turn hk (fun h => by simp [setSt] at h) (fun i hi => ?_) ?_
      · have := isAt_set hki 0 i
        rw [if_neg hi] at this
        exact ⟨this, rfl⟩
      · have := isAt_set hki 0 k
        rw [if_pos rfl] at this
        show wu 2 (isAt (setIs s k 0) k) (trAt s k) < wu s.st (isAt s k) (trAt s k)
        rw [this, hw]
        simp [wu]
        omega
  · have hw : isAt s k = 3 := hw
    rw [move_three]
    exact set_lt 4 (by rw [hw]; simp [wu])
theorem begin_psi (l : List Step) : psi l (beginS l) ≤ 4 * l.length := by
  have e : goOnS l (zeroS l) = beginS l := by unfold goOnS beginS; rw [if_pos (show (zeroS l).st = 1 from rfl)]
  have h := goOn_psi (Ok.zero l)
  rw [e] at h
  have h2 : ∀ n, sumN (wuAt (zeroS l)) n ≤ 4 * n := fun n => by
    induction n with
    | zero => simp [sumN]
    | succ n ih =>
      have hz : isAt (zeroS l) n = 0 := by
        unfold isAt zeroS
        dsimp only
        rw [List.getElem?_replicate]
        split <;> rfl
      have : wuAt (zeroS l) n ≤ 4 := by
        unfold wuAt
        rw [hz]
        show wu 1 0 _ ≤ 4
        simp [wu]
      simp only [sumN]
      omega
  exact Nat.le_trans h (h2 l.length)
end Go.Proofs.YtlnfobeedpbnmaaDoor
