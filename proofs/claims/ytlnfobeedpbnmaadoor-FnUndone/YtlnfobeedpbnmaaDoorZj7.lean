/-
  What the program's order, begin and takeBack do. What the program's begin, takeBack and isReady do. What the program's goForward, goBack and goOn do. What the program's undoLast, goBack, goOn and sagaRunOf do. What the program's sagaRunOf and its moves do. What the program's hear does. What the program's hear does. What the program's names and RunSaga answer. No statement of the seat is proved here.
-/
import Derived.Test.YtlnfobeedpbnmaaDoorZj6
namespace Go.Proofs.YtlnfobeedpbnmaaDoor
open Go.ChangeShapes Go.WideShapes Go.ChangeAt Go.RowKit
set_option linter.unusedVariables false
set_option linter.unusedSimpArgs false

set_option maxRecDepth 100000 in
theorem implCloneT (s : ByteArray) (hz : s.size ≤ 1048576) (w : World) : Calls Tryd.prog 39 #[.string s] w fun e w' => e = .returned (.string s) ∧ Below w.heap.size w w' := by
  have c := Tryd.stringslite_Clone s w (by omega)
  go_enter Tryd.func39, Tryd.ntmps39
  go_wp2_with (go_at_call 56; go_must (refine c.mono ?_; rintro e w1 ⟨rfl, hb1⟩))
  go_ret
  exact ⟨rfl, hb1⟩
theorem step_callC {ops : Array Oper} {o : Oper} {a : Act} {w : World} {K : Act → World → Prop} {Q : Exit → Act → World → Prop} {E : Prop} (hg : o.guard = none) (f : FuncId) (args : Array Value) (hrun : (execOp a.eval o).run Tryd.prog w = .ok (.enter f args) w) {Post : Ending → World → Prop} (hc : Calls Tryd.prog f args w Post) (h : ∀ e w', Post e w' → ∃ v, e = .returned v ∧ K (a.put o.dst v) w') :
    if Region.wanted o (yielded ops a.tmps) = true then Oper.wp Tryd.prog o a w K Q else E := by
  have hw : Region.wanted o (yielded ops a.tmps) = true := by simp [Region.wanted, hg]
  rw [if_pos hw]
  unfold Oper.wp
  rw [hrun, Oper.upon_enter]
  refine hc.mono fun e w'' hh => ?_
  obtain ⟨v, rfl, hk⟩ := h e w'' hh
  exact hk
theorem CmdsAt.newAt (w : World) (x y : Int) (z : ByteArray) (g : Nat) (hg : w.heap.size = g) : CmdsAt (fun b => b = g) (w.alloc (.cells #[.int .i64 x, .int .i64 y, .string z] 38)) (.slice (some ⟨g, 0, none⟩) 1 1) [⟨x, y, z⟩] := by
  subst hg; exact CmdsAt.new w x y z
section
variable {S : Nat → Prop} {B : Nat} {l : List Step} {a : Option Addr} {cap g gp : Nat} {rv : Value} {reps : List Int} {dv cv : Value} {w0 w : World} {s : Sg}
set_option maxRecDepth 100000 in
set_option maxHeartbeats 4000000 in
theorem implOrder (h : RunI S B l a cap g gp rv reps dv cv w0 w s) (kind : Int) (i : Nat) (hi : i < l.length) (ht : trAt s i < 5) (hc : s.cmds.length ≤ 900000) :
    Calls Tryd.prog 74 #[.pointer (some ⟨g, 0, none⟩), .int .i64 kind, .int .i64 (i : Int)] w fun e w' => e = .returned (.tuple #[]) ∧ ∃ cv', RunI S B l a cap g gp rv reps dv cv' w0 w' (again l s kind i) := by
  have c2 := h.blk.cell 2
  simp at c2
  have hl : l.length ≤ 20 := h.saga.len.2
  have hl' : (l.length : Int) ≤ 20 := by omega
  have hi' : (i : Int) < (l.length : Int) := by omega
  obtain ⟨d1, f1⟩ := h.trCell i hi
  have tb := h.ok.tb i
  obtain ⟨tt, htt⟩ : ∃ tt, trAt s i = tt := ⟨_, rfl⟩
  unfold again
  rw [htt] at d1 tb ht ⊢
  have H1 := h.putTr i hi (tt + 1) (h.ok.setTr hi (tt + 1) (by omega) (by omega))
  have hta := trAt_set (s := s) (i := i) (by rw [h.ok.tl]; exact hi) (tt + 1) i
  rw [if_pos rfl] at hta
  have hzn : (stepOf l i).name.size ≤ 1048576 := by
    have := (h.saga.ok _ (List.getElem_mem hi)).1
    rw [← stepOf_eq hi] at this
    omega
  unfold cmdS
  rw [hta]
  obtain ⟨nm, hnm⟩ : ∃ nm, (stepOf l i).name = nm := ⟨_, rfl⟩
  rw [hnm] at hzn ⊢
  obtain ⟨s1, hs1⟩ : ∃ s1, setTr s i (tt + 1) = s1 := ⟨_, rfl⟩
  have hcm : s1.cmds = s.cmds := by rw [← hs1]; rfl
  rw [hs1] at H1 hta ⊢
  have HH1 : Hid (RunI S B l a cap g gp rv reps dv cv w0 (w.setCell ⟨gp, i * 2 + 1, none⟩ (.int .i64 (tt + 1))) s1) := H1
  have HTA : Hid (trAt s1 i = tt + 1) := hta
  have HC1 : Hid (s1.cmds.length ≤ 900000) := by rw [hcm]; exact hc
  have HNM : Hid ((stepOf l i).name = nm) := hnm
  clear h H1 htt hta hc hcm hs1 hnm
  go_enter Tryd.func74, Tryd.ntmps74
  go_upto_region 1 with fail
  obtain ⟨wA, hwA⟩ : ∃ wA, w.setCell ⟨gp, i * 2 + 1, none⟩ (.int .i64 (tt + 1)) = wA := ⟨_, rfl⟩
  rw [hwA] at HH1 ⊢
  clear hwA c2 d1 f1
  have H1 := HH1.out
  obtain ⟨b, off, rfl, hbB, hst⟩ := H1.stepCell
  have e0 := (hst i hi).1
  have c0 := H1.blk.cell 0
  have c2 := H1.blk.cell 2
  have c4 := H1.blk.cell 4
  simp at c0 c2 c4
  have d1 := (H1.trCell i hi).1
  rw [HTA.out] at d1
  rw [HNM.out] at e0
  clear H1 hst
  have KP : Hid (∀ W, Below wA.heap.size wA W → W.cell? ⟨g, 0, none⟩ = some (.slice (some ⟨b, off, none⟩) l.length cap) ∧ W.cell? ⟨g, 2, none⟩ = some (.slice (some ⟨gp, 0, none⟩) l.length l.length) ∧ W.cell? ⟨g, 4, none⟩ = some cv ∧ W.cell? ⟨gp, i * 2 + 1, none⟩ = some (.int .i64 (tt + 1)) ∧ W.cell? ⟨b, off + i * 4, none⟩ = some (.string nm)) := fun W hW =>
    ⟨(hW.cell (World.block_lt_of_cell? _ _ c0)).trans c0, (hW.cell (World.block_lt_of_cell? _ _ c2)).trans c2, (hW.cell (World.block_lt_of_cell? _ _ c4)).trans c4, (hW.cell (World.block_lt_of_cell? _ _ d1)).trans d1, (hW.cell (World.block_lt_of_cell? _ _ e0)).trans e0⟩
  have cc := implCloneT nm hzn wA.drew
  clear c0 c2 c4 d1 e0
  refine wp_region_last (S := (fun w' => w'.cell? ⟨g, 0, none⟩ = some (.slice (some ⟨b, off, none⟩) l.length cap) ∧ w'.cell? ⟨g, 2, none⟩ = some (.slice (some ⟨gp, 0, none⟩) l.length l.length) ∧ w'.cell? ⟨g, 4, none⟩ = some cv ∧ w'.cell? ⟨gp, i * 2 + 1, none⟩ = some (.int .i64 (tt + 1)) ∧ w'.cell? ⟨b, off + i * 4, none⟩ = some (.string nm))) 28 (by kernel_rfl) rfl (by kernel_rfl) (KP.out _ (Below.refl _ _).drew) (fun hHeld => ?_)
  simp only [List.take_succ_cons, List.take_zero]
  refine wpAnyH_take (i := 0) (v := ?_) rfl (by kernel_rfl) (by kernel_rfl) (by kernel_rfl) (fun _ _ _ h => h) (Or.inl ⟨by rfl, ?_⟩) (by assumption) ?_
  rotate_left 1
  · (intro w' hSw; (try dsimp only at hSw); go_simp; all_goals with_reducible rfl)
  (try simp only [Act.put, List.setIfInBounds_toArray, List.set_cons_zero, List.set_cons_succ])
  refine wpAnyH_take (i := 1) (v := ?_) rfl (by kernel_rfl) (by kernel_rfl) (by kernel_rfl) (fun _ _ _ h => h) (Or.inl ⟨by rfl, ?_⟩) (by assumption) ?_
  rotate_left 1
  · (intro w' hSw; (try dsimp only at hSw); go_simp; all_goals with_reducible rfl)
  (try simp only [Act.put, List.setIfInBounds_toArray, List.set_cons_zero, List.set_cons_succ])
  refine wpAnyH_take (i := 2) (v := ?_) rfl (by kernel_rfl) (by kernel_rfl) (by kernel_rfl) (fun _ _ _ h => h) (Or.inl ⟨by rfl, ?_⟩) (by assumption) ?_
  rotate_left 1
  · (intro w' hSw; (try dsimp only at hSw); go_simp; all_goals with_reducible rfl)
  (try simp only [Act.put, List.setIfInBounds_toArray, List.set_cons_zero, List.set_cons_succ])
  refine wpAnyH_take (i := 3) (v := ?_) rfl (by kernel_rfl) (by kernel_rfl) (by kernel_rfl) (fun _ _ _ h => h) (Or.inl ⟨by rfl, ?_⟩) (by assumption) ?_
  rotate_left 1
  · (intro w' hSw; (try dsimp only at hSw); go_simp; all_goals with_reducible rfl)
  (try simp only [Act.put, List.setIfInBounds_toArray, List.set_cons_zero, List.set_cons_succ])
  refine wpAnyH_take (i := 4) (v := ?_) rfl (by kernel_rfl) (by kernel_rfl) (by kernel_rfl) (fun _ _ _ h => h) (Or.inl ⟨by rfl, ?_⟩) (by assumption) ?_
  rotate_left 1
  · (intro w' hSw; (try dsimp only at hSw); go_simp; all_goals with_reducible rfl)
  (try simp only [Act.put, List.setIfInBounds_toArray, List.set_cons_zero, List.set_cons_succ])
  refine wpAnyH_take (i := 5) (v := ?_) rfl (by kernel_rfl) (by kernel_rfl) (by kernel_rfl) (fun _ _ _ h => h) (Or.inl ⟨by rfl, ?_⟩) (by assumption) ?_
  rotate_left 1
  · (intro w' hSw; (try dsimp only at hSw); go_simp; all_goals with_reducible rfl)
  (try simp only [Act.put, List.setIfInBounds_toArray, List.set_cons_zero, List.set_cons_succ])
  refine wpAnyH_take (i := 6) (v := ?_) rfl (by kernel_rfl) (by kernel_rfl) (by kernel_rfl) (fun _ _ _ h => h) (Or.inl ⟨by rfl, ?_⟩) (by assumption) ?_
  rotate_left 1
  · (intro w' hSw; (try dsimp only at hSw); go_simp; all_goals with_reducible rfl)
  (try simp only [Act.put, List.setIfInBounds_toArray, List.set_cons_zero, List.set_cons_succ])
  refine wpAnyH_take (i := 7) (v := ?_) rfl (by kernel_rfl) (by kernel_rfl) (by kernel_rfl) (fun _ _ _ h => h) (Or.inl ⟨by rfl, ?_⟩) (by assumption) ?_
  rotate_left 1
  · (intro w' hSw; (try dsimp only at hSw); go_simp; all_goals with_reducible rfl)
  (try simp only [Act.put, List.setIfInBounds_toArray, List.set_cons_zero, List.set_cons_succ])
  refine wpAnyH_take (i := 8) (v := ?_) rfl (by kernel_rfl) (by kernel_rfl) (by kernel_rfl) (fun _ _ _ h => h) (Or.inl ⟨by rfl, ?_⟩) (by assumption) ?_
  rotate_left 1
  · (intro w' hSw; (try dsimp only at hSw); go_simp; all_goals with_reducible rfl)
  (try simp only [Act.put, List.setIfInBounds_toArray, List.set_cons_zero, List.set_cons_succ])
  refine wpAnyH_take (i := 9) (v := ?_) rfl (by kernel_rfl) (by kernel_rfl) (by kernel_rfl) (fun _ _ _ h => h) (Or.inl ⟨by rfl, ?_⟩) (by assumption) ?_
  rotate_left 1
  · (intro w' hSw; (try dsimp only at hSw); go_simp; all_goals with_reducible rfl)
  (try simp only [Act.put, List.setIfInBounds_toArray, List.set_cons_zero, List.set_cons_succ])
  refine wpAnyH_take (i := 10) (v := ?_) rfl (by kernel_rfl) (by kernel_rfl) (by kernel_rfl) (fun _ _ _ h => h) (Or.inl ⟨by rfl, ?_⟩) (by assumption) ?_
  rotate_left 1
  · (intro w' hSw; (try dsimp only at hSw); go_simp; all_goals with_reducible rfl)
  (try simp only [Act.put, List.setIfInBounds_toArray, List.set_cons_zero, List.set_cons_succ])
  refine wpAnyH_take (i := 11) (v := ?_) rfl (by kernel_rfl) (by kernel_rfl) (by kernel_rfl) (fun _ _ _ h => h) (Or.inl ⟨by rfl, ?_⟩) (by assumption) ?_
  rotate_left 1
  · (intro w' hSw; (try dsimp only at hSw); go_simp; all_goals with_reducible rfl)
  (try simp only [Act.put, List.setIfInBounds_toArray, List.set_cons_zero, List.set_cons_succ])
  refine wpAnyH_take (i := 12) (v := ?_) rfl (by kernel_rfl) (by kernel_rfl) (by kernel_rfl) (fun _ _ _ h => h) (Or.inl ⟨by rfl, ?_⟩) (by assumption) ?_
  rotate_left 1
  · (intro w' hSw; (try dsimp only at hSw); go_simp; all_goals with_reducible rfl)
  (try simp only [Act.put, List.setIfInBounds_toArray, List.set_cons_zero, List.set_cons_succ])
  refine wpAnyH_take (i := 13) (v := ?_) rfl (by kernel_rfl) (by kernel_rfl) (by kernel_rfl) (fun _ _ _ h => h) (Or.inl ⟨by rfl, ?_⟩) (by assumption) ?_
  rotate_left 1
  · (intro w' hSw; (try dsimp only at hSw); go_simp; all_goals with_reducible rfl)
  (try simp only [Act.put, List.setIfInBounds_toArray, List.set_cons_zero, List.set_cons_succ])
  refine wpAnyH_take (i := 14) (v := ?_) rfl (by kernel_rfl) (by kernel_rfl) (by kernel_rfl) (fun _ _ _ h => h) (Or.inl ⟨by rfl, ?_⟩) (by assumption) ?_
  rotate_left 1
  · (intro w' hSw; (try dsimp only at hSw); go_simp; all_goals with_reducible rfl)
  (try simp only [Act.put, List.setIfInBounds_toArray, List.set_cons_zero, List.set_cons_succ])
  refine wpAnyH_take (i := 15) (v := ?_) rfl (by kernel_rfl) (by kernel_rfl) (by kernel_rfl) (fun _ _ _ h => h) (Or.inl ⟨by rfl, ?_⟩) (by assumption) ?_
  rotate_left 1
  · (intro w' hSw; (try dsimp only at hSw); go_simp; all_goals with_reducible rfl)
  (try simp only [Act.put, List.setIfInBounds_toArray, List.set_cons_zero, List.set_cons_succ])
  refine wpAnyH_take (i := 16) (v := ?_) rfl (by kernel_rfl) (by kernel_rfl) (by kernel_rfl) (fun _ _ _ h => h) (Or.inl ⟨by rfl, ?_⟩) (by assumption) ?_
  rotate_left 1
  · (intro w' hSw; (try dsimp only at hSw); go_simp; all_goals with_reducible rfl)
  (try simp only [Act.put, List.setIfInBounds_toArray, List.set_cons_zero, List.set_cons_succ])
  refine wpAnyH_take (i := 17) (v := ?_) rfl (by kernel_rfl) (by kernel_rfl) (by kernel_rfl) (fun _ _ _ h => h) (Or.inl ⟨by rfl, ?_⟩) (by assumption) ?_
  rotate_left 1
  · (intro w' hSw; (try dsimp only at hSw); go_simp; all_goals with_reducible rfl)
  (try simp only [Act.put, List.setIfInBounds_toArray, List.set_cons_zero, List.set_cons_succ])
  refine wpAnyH_take (i := 18) (v := ?_) rfl (by kernel_rfl) (by kernel_rfl) (by kernel_rfl) (fun _ _ _ h => h) (Or.inl ⟨by rfl, ?_⟩) (by assumption) ?_
  rotate_left 1
  · (intro w' hSw; (try dsimp only at hSw); go_simp; all_goals with_reducible rfl)
  (try simp only [Act.put, List.setIfInBounds_toArray, List.set_cons_zero, List.set_cons_succ])
  refine wpAnyH_take (i := 19) (v := ?_) rfl (by kernel_rfl) (by kernel_rfl) (by kernel_rfl) (fun _ _ _ h => h) (Or.inl ⟨by rfl, ?_⟩) (by assumption) ?_
  rotate_left 1
  · (intro w' hSw; (try dsimp only at hSw); go_simp; all_goals with_reducible rfl)
  (try simp only [Act.put, List.setIfInBounds_toArray, List.set_cons_zero, List.set_cons_succ])
  refine wpAnyH_take (i := 20) (v := ?_) rfl (by kernel_rfl) (by kernel_rfl) (by kernel_rfl) (fun _ _ _ h => h) (Or.inl ⟨by rfl, ?_⟩) (by assumption) ?_
  rotate_left 1
  · (intro w' hSw; (try dsimp only at hSw); go_simp; all_goals with_reducible rfl)
  (try simp only [Act.put, List.setIfInBounds_toArray, List.set_cons_zero, List.set_cons_succ])
  refine wpAnyH_take (i := 21) (v := ?_) rfl (by kernel_rfl) (by kernel_rfl) (by kernel_rfl) (fun _ _ _ h => h) (Or.inl ⟨by rfl, ?_⟩) (by assumption) ?_
  rotate_left 1
  · (intro w' hSw; (try dsimp only at hSw); go_simp; all_goals with_reducible rfl)
  (try simp only [Act.put, List.setIfInBounds_toArray, List.set_cons_zero, List.set_cons_succ])
  refine wpAnyH_ready (rs := [22]) (by kernel_rfl) (by simp) ?_
  refine AllReadyH.cons rfl (fun K hK => ?_) AllReadyH.nil
  refine step_callC rfl 39 _ (by kernel_rfl) cc ?_
  rintro e w1 ⟨rfl, hb1⟩
  refine ⟨_, rfl, ?_⟩
  have hbz : Below wA.heap.size wA w1 := (Below.refl _ wA).drew.trans hb1
  refine hK.out _ _ ?_ (fun hHeld => ?_)
  · exact KP.out _ hbz
  clear hK K
  (try simp only [Act.put, List.setIfInBounds_toArray, List.set_cons_zero, List.set_cons_succ])
  refine wpAnyH_take (i := 23) (v := ?_) rfl (by kernel_rfl) (by kernel_rfl) (by kernel_rfl) (fun _ _ _ h => h) (Or.inl ⟨by rfl, ?_⟩) (by assumption) ?_
  rotate_left 1
  · (intro w' hSw; (try dsimp only at hSw); go_simp; all_goals with_reducible rfl)
  (try simp only [Act.put, List.setIfInBounds_toArray, List.set_cons_zero, List.set_cons_succ])
  have HZ := HH1.out.go hbz
  have k4 := HZ.blk.cell 4
  have hxg : some g ≠ cv.ownBlock := Ne.symm (HZ.cmds.off HZ.blk (by decide))
  have hxp : some gp ≠ cv.ownBlock := by
    obtain ⟨cs, h1, _⟩ := HZ.parts
    exact Ne.symm (HZ.cmds.off h1 (by decide))
  have hxb : some b ≠ cv.ownBlock := fun e => by have := OwnCmds.block HZ.cmds b e.symm; omega
  refine wpAnyH_ready (rs := [24]) (by kernel_rfl) (by simp) ?_
  refine AllReadyH.cons rfl (fun K hK => ?_) AllReadyH.nil
  go_simp
  refine hK.out _ _ ?_ (fun hHeld => ?_)
  · exact KP.out _ (hbz.alloc hbz.size _)
  clear hK K
  (try simp only [Act.put, List.setIfInBounds_toArray, List.set_cons_zero, List.set_cons_succ])
  refine wpAnyH_ready (rs := [25]) (by kernel_rfl) (by simp) ?_
  refine AllReadyH.cons rfl (fun K hK => ?_) AllReadyH.nil
  refine step_appendCmds rfl (.tmp 21) (.tmp 41) rfl B cv s1.cmds (by simp [Act.eval]) (HZ.cmds.below ((Below.refl _ w1).alloc (Nat.le_refl _) _)) (.slice (some ⟨w1.heap.size, 0, none⟩) 1 1) [⟨kind, tt + 1, nm⟩] (by simp [Act.eval]) (CmdsAt.new w1 kind (tt + 1) nm) (by simp; exact Nat.le_trans HC1.out (by omega)) (by simp; have := HZ.size; omega) ?_
  intro va vn vc w4 hown4 hB4 hgr4 hnil4
  refine hK.out _ _ ?_ (fun hHeld => ?_)
  · exact ⟨hgr4.cell hHeld.1 hxg, hgr4.cell hHeld.2.1 hxg, hgr4.cell hHeld.2.2.1 hxg, hgr4.cell hHeld.2.2.2.1 hxp, hgr4.cell hHeld.2.2.2.2 hxb⟩
  clear hK K
  (try simp only [Act.put, List.setIfInBounds_toArray, List.set_cons_zero, List.set_cons_succ])
  refine wpAnyH_take (i := 26) (v := ?_) rfl (by kernel_rfl) (by kernel_rfl) (by kernel_rfl) (fun _ _ _ h => h) (Or.inl ⟨by rfl, ?_⟩) (by assumption) ?_
  rotate_left 1
  · (intro w' hSw; (try dsimp only at hSw); go_simp; all_goals with_reducible rfl)
  (try simp only [Act.put, List.setIfInBounds_toArray, List.set_cons_zero, List.set_cons_succ])
  refine wpAnyH_take (i := 27) (v := ?_) rfl (by kernel_rfl) (by kernel_rfl) (by kernel_rfl) (fun _ _ _ h => h) (Or.inl ⟨by rfl, ?_⟩) (by assumption) ?_
  rotate_left 1
  · (intro w' hSw; (try dsimp only at hSw); go_simp; all_goals with_reducible rfl)
  (try simp only [Act.put, List.setIfInBounds_toArray, List.set_cons_zero, List.set_cons_succ])
  obtain ⟨hb4, H4⟩ := (HZ.go ((Below.refl _ w1).alloc (Nat.le_refl _) _)).growC hown4 hB4 hgr4
  have g4 := hb4.cell 4
  have f4 := hb4.fro 4
  simp at g4
  refine wpAnyH_done (by kernel_rfl) ?_ _
  show Oper.wp _ _ _ _ _ _
  unfold Oper.wp
  go_simp
  go_end0
  exact ⟨rfl, _, H4⟩
end
end Go.Proofs.YtlnfobeedpbnmaaDoor

namespace Go.Proofs.YtlnfobeedpbnmaaDoor
open Go.ChangeShapes Go.WideShapes Go.ChangeAt Go.RowKit
set_option linter.unusedVariables false
set_option linter.unusedSimpArgs false

section
variable {S : Nat → Prop} {B : Nat} {l : List Step} {a : Option Addr} {cap g gp : Nat} {rv : Value} {reps : List Int} {dv cv : Value} {w0 w : World} {s : Sg}
theorem again_beg (l : List Step) {s : Sg} {i : Nat} (h : i < s.tr.length) (x kind : Int) : again l (setTr (setIs s i x) i 0) kind i = beg l s x kind i := by
  unfold again beg
  have h1 : trAt (setTr (setIs s i x) i 0) i = 0 := by
    have := trAt_set (s := setIs s i x) (i := i) h 0 i
    rw [if_pos rfl] at this
    exact this
  rw [h1]
  have h2 : setTr (setTr (setIs s i x) i 0) i (0 + 1) = setTr (setIs s i x) i 1 := by
    simp [setTr, setIs]
  rw [h2]
set_option maxRecDepth 100000 in
set_option maxHeartbeats 2000000 in
theorem implBegin (h : RunI S B l a cap g gp rv reps dv cv w0 w s) (x kind : Int) (i : Nat) (hi : i < l.length) (hx0 : 0 ≤ x) (hx4 : x ≤ 4) (hn : i ∉ s.done) (hc : s.cmds.length ≤ 900000) :
    Calls Tryd.prog 70 #[.pointer (some ⟨g, 0, none⟩), .int .i64 x, .int .i64 kind, .int .i64 (i : Int)] w fun e w' => e = .returned (.tuple #[]) ∧ ∃ cv', RunI S B l a cap g gp rv reps dv cv' w0 w' (beg l s x kind i) := by
  have c2 := h.blk.cell 2
  simp at c2
  have hl : l.length ≤ 20 := h.saga.len.2
  have hl' : (l.length : Int) ≤ 20 := by omega
  have hi' : (i : Int) < (l.length : Int) := by omega
  obtain ⟨d1, f1⟩ := h.isCell i hi
  obtain ⟨d2, f2⟩ := h.trCell i hi
  have H1 := h.putIs i hi x hx0 hx4 (h.ok.setIs hi x hn)
  have H2 := H1.putTr i hi 0 (H1.ok.setTr hi 0 (by omega) (by omega))
  have hta := trAt_set (s := setIs s i x) (i := i) (by show i < s.tr.length; rw [h.ok.tl]; exact hi) 0 i
  rw [if_pos rfl] at hta
  have hab := again_beg l (s := s) (i := i) (by rw [h.ok.tl]; exact hi) x kind
  have co := implOrder H2 kind i hi (by rw [hta]; omega) hc
  rw [hab] at co
  clear h H1 H2 hta hab
  go_enter Tryd.func70, Tryd.ntmps70
  go_upto_region 1 with fail
  go_wp2_with (go_at_call 74; go_must (refine co.mono ?_; rintro e w5 ⟨rfl, cv5, H5⟩))
  go_end0
  exact ⟨rfl, cv5, H5⟩
set_option maxRecDepth 100000 in
theorem implTakeBack (h : RunI S B l a cap g gp rv reps dv cv w0 w s) (i : Nat) (hi : i < l.length) (hn : i ∉ s.done) :
    Calls Tryd.prog 54 #[.pointer (some ⟨g, 0, none⟩), .int .i64 (i : Int)] w fun e w' => e = .returned (.tuple #[]) ∧ RunI S B l a cap g gp rv reps dv cv w0 w' (setIs s i 4) := by
  have c2 := h.blk.cell 2
  simp at c2
  have hl : l.length ≤ 20 := h.saga.len.2
  have hl' : (l.length : Int) ≤ 20 := by omega
  have hi' : (i : Int) < (l.length : Int) := by omega
  obtain ⟨d1, f1⟩ := h.isCell i hi
  have H1 := h.putIs i hi 4 (by omega) (by omega) (h.ok.setIs hi 4 hn)
  have HH1 : Hid (RunI S B l a cap g gp rv reps dv cv w0 (w.setCell ⟨gp, i * 2, none⟩ (.int .i64 4)) (setIs s i 4)) := H1
  clear h H1
  go_enter Tryd.func54, Tryd.ntmps54
  go_wp2_with fail
  go_end0
  exact ⟨rfl, HH1.out⟩
/-- What a need that is not done answers. -/
def openB (l : List Step) (s : Sg) (t : ByteArray) : Bool := decide (isAt s (numOf l t) ≠ 2)
set_option maxRecDepth 100000 in
set_option maxHeartbeats 2000000 in
theorem implOpen (h : RunI S B l a cap g gp rv reps dv cv w0 w s) (t : ByteArray) (gx : Nat) (hg : w.cell? ⟨gx, 0, none⟩ = some (.pointer (some ⟨g, 0, none⟩))) (hgl : gx < w.heap.size) (hf : 0 ≤ findI (names l) t) :
    Calls Tryd.prog 80 #[.string t, .pointer (some ⟨gx, 0, none⟩)] w fun e w' => e = .returned (.bool (openB l s t)) ∧ Below w.heap.size w w' := by
  have hl : l.length ≤ 20 := h.saga.len.2
  have hl' : (l.length : Int) ≤ 20 := by omega
  obtain ⟨hjl, hj⟩ := find_lt hf
  unfold openB
  have cf := fun N : GoodW (fun W => Below w.heap.size w W) => implFind (h.go N.ok) t
  have p0 := fun N : GoodW (fun W => Below w.heap.size w W) => (N.ok.cell (p := ⟨gx, 0, none⟩) hgl).trans hg
  have p2 := fun N : GoodW (fun W => Below w.heap.size w W) => (h.go N.ok).blk.cell 2
  have p3 := fun N : GoodW (fun W => Below w.heap.size w W) => ((h.go N.ok).isCell (numOf l t) hjl).1
  simp at p2
  simp only [← hj] at cf
  obtain ⟨j, hjj⟩ : ∃ j, numOf l t = j := ⟨_, rfl⟩
  simp only [hjj] at cf p3 hjl ⊢
  have hjl' : (j : Int) < (l.length : Int) := by omega
  obtain ⟨v, hv⟩ : ∃ v, isAt s j = v := ⟨_, rfl⟩
  simp only [hv] at p3 ⊢
  haveI ne : Nonempty (GoodW (fun W => Below w.heap.size w W)) := ⟨⟨_, Below.refl _ _⟩⟩
  clear h hg hf hj hjj hv
  go_enter Tryd.func80, Tryd.ntmps80
  go_upto_region 1 with fail
  refine wp_region_calm (fun W => Below w.heap.size w W) (by kernel_rfl) (by kernel_rfl) (Below.refl _ _).drew ?_
  repeat (go_big_quiet_step ((go_at_call 36; exact Calls.calm _ (fun _ hb => good_below (GoodW.ok _) hb) (cf _))))
  refine wpQuiet_nil ?_
  rintro W2 ⟨⟨W3, hW3⟩, hWe⟩
  have hW2 : Below w.heap.size w W2 := hWe ▸ hW3
  clear hWe hW3
  go_wp2_with fail
  go_ret
  refine ⟨?_, hW2⟩
  by_cases hv2 : v = 2 <;> simp [hv2]
set_option maxRecDepth 100000 in
set_option maxHeartbeats 2000000 in
theorem implIndexN (h : RunI S B l a cap g gp rv reps dv cv w0 w s) (ss : List ByteArray) (a2 : Option Addr) (cap2 gx : Nat) (hlen : ss.length ≤ 2000000) (hc2 : TxtsIn w a2 ss) (hg : w.cell? ⟨gx, 0, none⟩ = some (.pointer (some ⟨g, 0, none⟩))) (hgl : gx < w.heap.size) (hf : ∀ t ∈ ss, 0 ≤ findI (names l) t) :
    Calls Tryd.prog 78 #[.slice a2 ss.length cap2, .func (.func 80) #[] #[.pointer (some ⟨gx, 0, none⟩)]] w fun e w' => (∃ r : Int, e = .returned (.int .i64 r) ∧ decide (0 ≤ r) = ss.any (openB l s)) ∧ Below w.heap.size w w' := by
  have HC : Hid (TxtsIn w a2 ss) := hc2
  have HR : Hid (RunI S B l a cap g gp rv reps dv cv w0 w s) := h
  have HG : Hid (w.cell? ⟨gx, 0, none⟩ = some (.pointer (some ⟨g, 0, none⟩))) := hg
  have HF : Hid (∀ t ∈ ss, 0 ≤ findI (names l) t) := hf
  have hlen' : (ss.length : Int) ≤ 2000000 := by omega
  clear h hc2 hg hf
  go_enter Tryd.func78, Tryd.ntmps78
  go_wp2_with fail
  go_loopw [8] (fun i8 wr => ∃ (k : Nat), i8 = .int .i64 (k : Int) ∧ k ≤ ss.length ∧ (ss.take k).any (openB l s) = false ∧ Below w.heap.size w wr) (fun i8 _ => ss.length - (intOf i8).toNat)
  case atStart => exact ⟨0, rfl, by omega, by simp, Below.refl _ _⟩
  case round =>
    obtain ⟨k, rfl, hk, hany, hb⟩ := hrel
    have HA : Hid ((ss.take k).any (openB l s) = false) := hany
    clear hany
    by_cases hkn : k < ss.length
    · have hkn' : (k : Int) < (ss.length : Int) := by omega
      obtain ⟨b, off, rfl, hg2, hcell⟩ := HC.out (by omega)
      have x1 := (hb.cell (p := ⟨b, off + k, none⟩) hg2).trans (hcell k hkn)
      have cx := implOpen (HR.out.go hb) ss[k] gx ((hb.cell (p := ⟨gx, 0, none⟩) hgl).trans HG.out) (Nat.lt_of_lt_of_le hgl hb.size) (HF.out _ (List.getElem_mem hkn))
      obtain ⟨x, hx⟩ : ∃ x, ss[k] = x := ⟨_, rfl⟩
      have HX : Hid (ss[k] = x) := hx
      rw [hx] at x1 cx
      have HBW : Hid (Below w.heap.size w wr) := hb
      clear hx hcell hb
      obtain ⟨B1, hB1⟩ : ∃ B1, openB l s x = B1 := ⟨_, rfl⟩
      rw [hB1] at cx
      have HB1 : Hid (openB l s x = B1) := hB1
      clear hB1
      cases B1
      · go_wp2_with (go_at_call 80; go_must (refine cx.mono ?_; rintro e w1 ⟨rfl, hb1⟩))
        exact ⟨⟨k + 1, rfl, by omega, any_takeA ss _ k hkn HA.out (by rw [HX.out]; exact HB1.out), good_below HBW.out hb1⟩, by simp [intOf]; omega⟩
      · go_wp2_with (go_at_call 80; go_must (refine cx.mono ?_; rintro e w1 ⟨rfl, hb1⟩))
        go_ret
        refine ⟨⟨_, rfl, ?_⟩, good_below HBW.out hb1⟩
        rw [List.any_eq_true.2 ⟨ss[k], List.getElem_mem hkn, by rw [HX.out]; exact HB1.out⟩]
        simp
    · have hkn' : ¬ ((k : Int) < (ss.length : Int)) := by omega
      have hA := HA.out
      rw [List.take_of_length_le (by omega)] at hA
      go_wp2_with fail
      go_ret
      refine ⟨⟨_, rfl, ?_⟩, hb⟩
      first
        | (rw [hA]; rfl)
        | omega
set_option maxRecDepth 100000 in
theorem implContN (h : RunI S B l a cap g gp rv reps dv cv w0 w s) (ss : List ByteArray) (a2 : Option Addr) (cap2 gx : Nat) (hlen : ss.length ≤ 2000000) (hc2 : TxtsIn w a2 ss) (hg : w.cell? ⟨gx, 0, none⟩ = some (.pointer (some ⟨g, 0, none⟩))) (hgl : gx < w.heap.size) (hf : ∀ t ∈ ss, 0 ≤ findI (names l) t) :
    Calls Tryd.prog 67 #[.slice a2 ss.length cap2, .func (.func 80) #[] #[.pointer (some ⟨gx, 0, none⟩)]] w fun e w' => e = .returned (.bool (ss.any (openB l s))) ∧ Below w.heap.size w w' := by
  have c := implIndexN h ss a2 cap2 gx hlen hc2 hg hgl hf
  clear h hc2 hg hf
  go_enter Tryd.func67, Tryd.ntmps67
  go_wp2_with (go_at_call 78; go_must (refine c.mono ?_; rintro e w1 ⟨⟨r, rfl, hr⟩, hb1⟩))
  go_ret
  refine ⟨congrArg (fun b => Ending.returned (Value.bool b)) ?_, hb1⟩
  rw [← hr]
theorem open_ready (l : List Step) (s : Sg) (i : Nat) : (!(stepOf l i).needs.any (openB l s)) = readyB l s i := by
  unfold readyB
  rw [List.not_any_eq_all_not]
  congr 1
  funext t
  unfold openB
  by_cases h : isAt s (numOf l t) = 2 <;> simp [h]
set_option maxRecDepth 100000 in
set_option maxHeartbeats 2000000 in
theorem implReady (h : RunI S B l a cap g gp rv reps dv cv w0 w s) (i : Nat) (hi : i < l.length) :
    Calls Tryd.prog 69 #[.pointer (some ⟨g, 0, none⟩), .int .i64 (i : Int)] w fun e w' => e = .returned (.bool (readyB l s i)) ∧ Below w.heap.size w w' := by
  have hb : Below w.heap.size w (w.alloc (.cells #[.pointer (some ⟨g, 0, none⟩)] 55)) := (Below.refl _ w).alloc (Nat.le_refl _) _
  have kb : Blk (w.alloc (.cells #[.pointer (some ⟨g, 0, none⟩)] 55)) w.heap.size 55 #[.pointer (some ⟨g, 0, none⟩)] := heap_alloc_last w _
  have h1 := h.go hb
  have hl : l.length ≤ 20 := h.saga.len.2
  have hl' : (l.length : Int) ≤ 20 := by omega
  have hi' : (i : Int) < (l.length : Int) := by omega
  obtain ⟨b, off, rfl, hbB, hst⟩ := h1.stepCell
  obtain ⟨_, _, _, nv, e1, hnv⟩ := hst i hi
  obtain ⟨za, zc, hzv⟩ := hnv.shape
  subst hzv
  have hnd := h.saga.needs i hi
  have hnl := (h.saga.ok _ (List.getElem_mem hi)).2.1
  rw [← stepOf_eq hi] at hnd hnl
  have hin : TxtsIn (w.alloc (.cells #[.pointer (some ⟨g, 0, none⟩)] 55)) za (stepOf l i).needs := fun h0 => by
    obtain ⟨_, ta, tc, htv, hcl⟩ := hnv
    simp only [Value.slice.injEq] at htv
    obtain ⟨rfl, -, rfl⟩ := htv
    obtain ⟨cb, co, rfl, hcS, hcl⟩ := hcl h0
    exact ⟨cb, co, rfl, Nat.lt_of_lt_of_le (h1.saga.low cb hcS) h1.size, hcl⟩
  have cc := implContN h1 (stepOf l i).needs za zc w.heap.size (by omega) hin (kb.cell 0) kb.lt hnd
  have hor := open_ready l s i
  have c0 := h1.blk.cell 0
  simp at c0
  obtain ⟨F, hF⟩ : ∃ F, (stepOf l i).needs.any (openB l s) = F := ⟨_, rfl⟩
  rw [hF] at cc hor
  rw [← hor]
  obtain ⟨m, hm⟩ : ∃ m, (stepOf l i).needs.length = m := ⟨_, rfl⟩
  rw [hm] at e1 cc
  have HB : Hid _ := hb
  clear h h1 hst hnv hin hnd hnl hor hF hm hb kb
  go_enter Tryd.func69, Tryd.ntmps69
  go_wp2_with (go_at_call 67; go_must (refine cc.mono ?_; rintro e w1 ⟨rfl, hb1⟩))
  go_ret
  exact ⟨rfl, good_below HB.out hb1⟩
end
end Go.Proofs.YtlnfobeedpbnmaaDoor

namespace Go.Proofs.YtlnfobeedpbnmaaDoor
open Go.ChangeShapes Go.WideShapes Go.ChangeAt Go.RowKit
set_option linter.unusedVariables false
set_option linter.unusedSimpArgs false

section
variable {S : Nat → Prop} {B : Nat} {l : List Step} {a : Option Addr} {cap g gp : Nat} {rv : Value} {reps : List Int} {dv cv : Value} {w0 w : World} {s : Sg}
set_option maxRecDepth 100000 in
set_option maxHeartbeats 4000000 in
theorem implForward (h : RunI S B l a cap g gp rv reps dv cv w0 w s) (hc : s.cmds.length ≤ 800000) :
    Calls Tryd.prog 48 #[.pointer (some ⟨g, 0, none⟩)] w fun e w' => e = .returned (.tuple #[]) ∧ ∃ cv', RunI S B l a cap g gp rv reps dv cv' w0 w' (fwd l s) := by
  have hl : l.length ≤ 20 := h.saga.len.2
  have hl' : (l.length : Int) ≤ 20 := by omega
  have hdl := done_len h.ok
  have c0 := h.blk.cell 0
  simp at c0
  have HR : Hid (RunI S B l a cap g gp rv reps dv cv w0 w s) := h
  have HC : Hid (s.cmds.length ≤ 800000) := hc
  clear h hc
  go_enter Tryd.func48, Tryd.ntmps48
  go_wp2_with fail
  go_loopw [8] (fun i8 wr => ∃ (k : Nat) (cv' : Value), i8 = .int .i64 (k : Int) ∧ k ≤ l.length ∧ RunI S B l a cap g gp rv reps dv cv' w0 wr (asks l s k)) (fun i8 _ => l.length - (intOf i8).toNat)
  case atStart => exact ⟨0, cv, rfl, by omega, HR.out⟩
  case round =>
    clear c0
    obtain ⟨k, cv', rfl, hk, hR⟩ := hrel
    by_cases hkn : k < l.length
    case neg =>
      obtain rfl : k = l.length := by omega
      have hkn' : ¬ ((l.length : Int) < (l.length : Int)) := by omega
      obtain ⟨da, dc, hdv, -⟩ := hR.done.natCells
      rw [asks_done] at hdv
      have c0 := hR.blk.cell 0
      have c3 := hR.blk.cell 3
      have c1 := hR.blk.cell 1
      have f1 := hR.blk.fro 1
      simp at c0 c1 c3
      rw [hdv] at c3
      by_cases hd : s.done.length = l.length
      · rw [hd] at c3
        have hfw : fwd l s = setSt (asks l s l.length) 3 := by unfold fwd; rw [asks_done, if_pos hd]
        have HFW : Hid (fwd l s = setSt (asks l s l.length) 3) := hfw
        have HH9 : Hid (∀ n, RunI S B l a cap g gp rv reps dv cv' w0 ((wr.drewN n).setCell ⟨g, 1, none⟩ (.int .i64 3)) (setSt (asks l s l.length) 3)) := fun n => (hR.drewN n).putSt 3
        clear hR hfw hd hdv
        go_upto_region 6 with fail
        go_quiet (fail)
        go_wp2_with fail
        go_end0
        refine ⟨rfl, cv', ?_⟩
        rw [HFW.out]; exact HH9.out _
      · have hd' : ¬ ((s.done.length : Int) = (l.length : Int)) := by omega
        have hfw : fwd l s = asks l s l.length := by unfold fwd; rw [asks_done, if_neg hd]
        have HFW : Hid (fwd l s = asks l s l.length) := hfw
        have HH9 : Hid (∀ n, RunI S B l a cap g gp rv reps dv cv' w0 (wr.drewN n) (asks l s l.length)) := fun n => hR.drewN n
        clear hR hfw hdv
        go_upto_region 6 with fail
        go_quiet (fail)
        go_wp2_with fail
        go_end0
        refine ⟨rfl, cv', ?_⟩
        rw [HFW.out]; exact HH9.out _
    have hkn' : (k : Int) < (l.length : Int) := by omega
    have hnx := asks_succ l s k
    have hcl := asks_cmds l s k
    obtain ⟨t, ht⟩ : ∃ t, asks l s k = t := ⟨_, rfl⟩
    rw [ht] at hR hnx hcl
    have HR2 : Hid (RunI S B l a cap g gp rv reps dv cv' w0 wr t) := hR
    have HCL : Hid (t.cmds.length ≤ 900000) := by have := HC.out; show _ ≤ _; omega
    have c2 := hR.blk.cell 2
    simp at c2
    have d1 := (hR.isCell k hkn).1
    have crd := implReady hR k hkn
    have haskB : askB l t k = (readyB l t k && decide (isAt t k = 0)) := rfl
    obtain ⟨iv, hiv⟩ : ∃ iv, isAt t k = iv := ⟨_, rfl⟩
    obtain ⟨R1, hR1⟩ : ∃ R1, readyB l t k = R1 := ⟨_, rfl⟩
    rw [hiv] at d1
    rw [hR1] at crd
    rw [hiv, hR1] at haskB
    clear hR ht hcl hR1
    by_cases hi0 : iv = 0
    case neg =>
      have hi0' : (iv == 0) = false := by simp [hi0]
      rw [decide_eq_false hi0, Bool.and_false] at haskB
      rw [ask_false haskB] at hnx
      have HNX : Hid (asks l s (k + 1) = t) := hnx
      clear hnx haskB crd hiv hi0
      go_wp2_with fail
      refine ⟨⟨k + 1, cv', rfl, by omega, ?_⟩, by simp [intOf]; omega⟩
      rw [HNX.out]; exact HR2.out
    subst hi0
    rw [decide_eq_true rfl, Bool.and_true] at haskB
    cases R1
    case false =>
      rw [ask_false haskB] at hnx
      have HNX : Hid (asks l s (k + 1) = t) := hnx
      clear hnx haskB hiv
      go_wp2_with (go_at_call 69; go_must (refine crd.mono ?_; rintro e w1 ⟨rfl, hb1⟩))
      refine ⟨⟨k + 1, cv', rfl, by omega, ?_⟩, by simp [intOf]; omega⟩
      rw [HNX.out]; exact HR2.out.go hb1
    case true =>
      have hnot : k ∉ t.done := HR2.out.ok.not (by omega)
      have HNX : Hid (asks l s (k + 1) = beg l t 1 1 k) := by rw [hnx, ask_true haskB]; rfl
      have HNOT : Hid (k ∉ t.done) := hnot
      clear hnx haskB hnot hiv
      go_upto_region 4 with (go_at_call 69; go_must (refine crd.mono ?_; rintro e w1 ⟨rfl, hb1⟩))
      have cb := implBegin (HR2.out.go hb1) 1 1 k hkn (by omega) (by omega) HNOT.out HCL.out
      clear crd c2 d1
      go_wp2_with (go_at_call 70; go_must (refine cb.mono ?_; rintro e w5 ⟨rfl, cv5, H5⟩))
      refine ⟨⟨k + 1, cv5, rfl, by omega, ?_⟩, by simp [intOf]; omega⟩
      rw [HNX.out]; exact H5
set_option maxRecDepth 100000 in
theorem implBusy1 (x y : Int) (w : World) :
    Calls Tryd.prog 82 #[.agg #[.int .i64 x, .int .i64 y]] w fun e w' => e = .returned (.bool (decide (x = 1) || decide (x = 3))) ∧ Below w.heap.size w w' := by
  have hb := (Below.refl _ w).alloc (Nat.le_refl _) (.cells #[.int .i64 x, .int .i64 y] 77)
  have HB : Hid _ := hb
  clear hb
  by_cases h1 : x = 1
  · subst h1
    go_enter Tryd.func82, Tryd.ntmps82
    go_wp2_with fail
    go_ret
    exact ⟨by simp, HB.out⟩
  · have h1' : (x == 1) = false := by simp [h1]
    have hd : decide (x = 1) = false := decide_eq_false h1
    rw [hd]
    go_enter Tryd.func82, Tryd.ntmps82
    go_wp2_with fail
    go_ret
    refine ⟨?_, HB.out⟩
    by_cases h3 : x = 3 <;> simp [h3]
theorem busy_any (s : Sg) : busy s = s.is.any (fun y => decide (y = 1) || decide (y = 3)) := by
  unfold busy anyB
  induction s.is with
  | nil => rfl
  | cons x xs ih =>
    simp only [List.any_cons]
    rw [← ih]
    cases decide (x = 1) <;> cases decide (x = 3) <;> cases xs.any (fun y => decide (y = 1)) <;> cases xs.any (fun y => decide (y = 3)) <;> rfl
set_option maxRecDepth 100000 in
set_option maxHeartbeats 2000000 in
theorem implIndexP (h : RunI S B l a cap g gp rv reps dv cv w0 w s) :
    Calls Tryd.prog 81 #[.slice (some ⟨gp, 0, none⟩) l.length l.length, .func (.func 82) #[] #[]] w fun e w' => (∃ r : Int, e = .returned (.int .i64 r) ∧ decide (0 ≤ r) = busy s) ∧ Below w.heap.size w w' := by
  have HR : Hid (RunI S B l a cap g gp rv reps dv cv w0 w s) := h
  have hl : l.length ≤ 20 := h.saga.len.2
  have hl' : (l.length : Int) ≤ 20 := by omega
  have hil := h.ok.il
  have HIL : Hid (s.is.length = l.length) := hil
  rw [busy_any]
  clear h hil
  go_enter Tryd.func81, Tryd.ntmps81
  go_wp2_with fail
  go_loopw [8] (fun i8 wr => ∃ (k : Nat), i8 = .int .i64 (k : Int) ∧ k ≤ l.length ∧ (s.is.take k).any (fun y => decide (y = 1) || decide (y = 3)) = false ∧ Below w.heap.size w wr) (fun i8 _ => l.length - (intOf i8).toNat)
  case atStart => exact ⟨0, rfl, by omega, by simp, Below.refl _ _⟩
  case round =>
    obtain ⟨k, rfl, hk, hany, hb⟩ := hrel
    have HA : Hid ((s.is.take k).any (fun y => decide (y = 1) || decide (y = 3)) = false) := hany
    clear hany
    by_cases hkn : k < l.length
    · have hkn' : (k : Int) < (l.length : Int) := by omega
      have hR := HR.out.go hb
      have d1 := (hR.isCell k hkn).1
      have d2 := (hR.trCell k hkn).1
      have hks : k < s.is.length := by rw [HIL.out]; exact hkn
      have hie := isAt_eq hks
      obtain ⟨x, hx⟩ : ∃ x, isAt s k = x := ⟨_, rfl⟩
      obtain ⟨y, hy⟩ : ∃ y, trAt s k = y := ⟨_, rfl⟩
      rw [hx] at d1 hie
      rw [hy] at d2
      have cx := implBusy1 x y wr
      have HX : Hid (x = s.is[k]) := hie
      have HBW : Hid (Below w.heap.size w wr) := hb
      clear hx hy hR hb hie
      obtain ⟨B1, hB1⟩ : ∃ B1, (decide (x = 1) || decide (x = 3)) = B1 := ⟨_, rfl⟩
      rw [hB1] at cx
      have HB1 : Hid ((decide (x = 1) || decide (x = 3)) = B1) := hB1
      clear hB1
      cases B1
      · go_wp2_with (go_at_call 82; go_must (refine cx.mono ?_; rintro e w1 ⟨rfl, hb1⟩))
        exact ⟨⟨k + 1, rfl, by omega, any_takeA s.is _ k hks HA.out (by rw [← HX.out]; exact HB1.out), good_below HBW.out hb1⟩, by simp [intOf]; omega⟩
      · go_wp2_with (go_at_call 82; go_must (refine cx.mono ?_; rintro e w1 ⟨rfl, hb1⟩))
        go_ret
        refine ⟨⟨_, rfl, ?_⟩, good_below HBW.out hb1⟩
        rw [List.any_eq_true.2 ⟨s.is[k], List.getElem_mem hks, by rw [← HX.out]; exact HB1.out⟩]
        simp
    · have hkn' : ¬ ((k : Int) < (l.length : Int)) := by omega
      have hA := HA.out
      rw [List.take_of_length_le (by rw [HIL.out]; omega)] at hA
      go_wp2_with fail
      go_ret
      refine ⟨⟨_, rfl, ?_⟩, hb⟩
      first
        | (rw [hA]; rfl)
        | omega
set_option maxRecDepth 100000 in
theorem implFirstBusy (h : RunI S B l a cap g gp rv reps dv cv w0 w s) :
    Calls Tryd.prog 71 #[.pointer (some ⟨g, 0, none⟩)] w fun e w' => (∃ r : Int, e = .returned (.int .i64 r) ∧ decide (0 ≤ r) = busy s) ∧ Below w.heap.size w w' := by
  have c := implIndexP h
  have c2 := h.blk.cell 2
  simp at c2
  clear h
  go_enter Tryd.func71, Tryd.ntmps71
  go_wp2_with (go_at_call 81; go_must (refine c.mono ?_; rintro e w1 ⟨⟨r, rfl, hr⟩, hb1⟩))
  go_ret
  exact ⟨⟨r, rfl, hr⟩, hb1⟩
end
end Go.Proofs.YtlnfobeedpbnmaaDoor

namespace Go.Proofs.YtlnfobeedpbnmaaDoor
open Go.ChangeShapes Go.WideShapes Go.ChangeAt Go.RowKit
set_option linter.unusedVariables false
set_option linter.unusedSimpArgs false

section
variable {S : Nat → Prop} {B : Nat} {l : List Step} {a : Option Addr} {cap g gp : Nat} {rv : Value} {reps : List Int} {dv cv : Value} {w0 w : World} {s : Sg}
theorem nums_drop (d : List Nat) {m : Nat} (h : d.length = m + 1) : (nums d).take m = nums d.dropLast := by
  unfold nums
  rw [← List.map_take, List.dropLast_eq_take, h]
  rfl
set_option maxRecDepth 100000 in
set_option maxHeartbeats 4000000 in
theorem implUndo (h : RunI S B l a cap g gp rv reps dv cv w0 w s) (h0 : 0 < s.done.length) (hc : s.cmds.length ≤ 900000) :
    Calls Tryd.prog 72 #[.pointer (some ⟨g, 0, none⟩)] w fun e w' => e = .returned (.tuple #[]) ∧ ∃ dv' cv', RunI S B l a cap g gp rv reps dv' cv' w0 w' (undoS l s (lastOf s)) := by
  have hl : l.length ≤ 20 := h.saga.len.2
  have hl' : (l.length : Int) ≤ 20 := by omega
  have hdl := done_len h.ok
  obtain ⟨m, hm⟩ : ∃ m, s.done.length = m + 1 := ⟨s.done.length - 1, by omega⟩
  obtain ⟨da, dc, hdv, hdc⟩ := h.done.natCells
  obtain ⟨dg, hda, hdB, hdg, hcell⟩ := hdc h0
  subst hda
  subst hdv
  have hla := last_at hm
  have d1 := hcell m (by omega)
  rw [hla] at d1
  have hin := (h.ok.dk _ (last_in h0)).1
  have hout := h.ok.last_out h0
  have htk := OwnNums.take h.done m (by rw [nums_len]; omega)
  rw [nums_drop _ hm] at htk
  obtain ⟨hbk, H1⟩ := h.growD htk (Below.refl _ _) (grown_of (Below.refl _ _) _) (.inl rfl) h.ok.drop
  have hlt := OwnNums.lt h.done
  have hmc : m + 1 ≤ dc := by rw [← hm]; exact hlt.2.2.1
  have hus : undoS l s (lastOf s) = if (stepOf l (lastOf s)).undo then beg l { s with done := s.done.dropLast } 3 2 (lastOf s) else setIs { s with done := s.done.dropLast } (lastOf s) 4 := rfl
  rw [hus]
  obtain ⟨x, hx⟩ : ∃ x, lastOf s = x := ⟨_, rfl⟩
  rw [hx] at d1 hin hout ⊢
  have c3 := h.blk.cell 3
  have f3 := h.blk.fro 3
  simp at c3
  rw [hm] at c3
  have hm20 : (m : Int) < 20 := by omega
  have hm1 : ((m + 1 : Nat) : Int) - 1 = (m : Int) := by omega
  have hxl : (x : Int) < (l.length : Int) := by omega
  have HH1 : Hid (RunI S B l a cap g gp rv reps (.slice (some ⟨dg, 0, none⟩) m dc) cv w0 (w.setCell ⟨g, 3, none⟩ (.slice (some ⟨dg, 0, none⟩) m dc)) { s with done := s.done.dropLast }) := H1
  have HIN : Hid (x < l.length) := hin
  have HOUT : Hid (x ∉ s.done.dropLast) := hout
  have HC : Hid (s.cmds.length ≤ 900000) := hc
  have hdm : (dc : Int) ≤ 9223372036854775807 := by have := hlt.2.2.2.1; simp [maxLen] at this; omega
  have hmc' : (m : Int) + 1 ≤ (dc : Int) := by omega
  clear h hcell hdc htk hbk H1 hlt hla hx hin hout hc h0 hm hus
  cases hu : (stepOf l x).undo
  case false =>
    rw [if_neg (by simp)]
    go_enter Tryd.func72, Tryd.ntmps72
    go_upto_region 3 with fail
    obtain ⟨wA, hwA⟩ : ∃ wA, w.setCell ⟨g, 3, none⟩ (.slice (some ⟨dg, 0, none⟩) m dc) = wA := ⟨_, rfl⟩
    rw [hwA] at HH1 ⊢
    clear hwA c3 f3 d1
    obtain ⟨b, off, rfl, hbB, hst⟩ := HH1.out.stepCell
    have e2 := (hst x HIN.out).2.1
    rw [hu] at e2
    have c0 := HH1.out.blk.cell 0
    simp at c0
    have ct := implTakeBack HH1.out x HIN.out HOUT.out
    clear hst hu
    go_wp2_with (go_at_call 54; go_must (refine ct.mono ?_; rintro e w5 ⟨rfl, H5⟩))
    go_end0
    exact ⟨rfl, _, _, H5⟩
  case true =>
    rw [if_pos rfl]
    go_enter Tryd.func72, Tryd.ntmps72
    go_upto_region 3 with fail
    obtain ⟨wA, hwA⟩ : ∃ wA, w.setCell ⟨g, 3, none⟩ (.slice (some ⟨dg, 0, none⟩) m dc) = wA := ⟨_, rfl⟩
    rw [hwA] at HH1 ⊢
    clear hwA c3 f3 d1
    obtain ⟨b, off, rfl, hbB, hst⟩ := HH1.out.stepCell
    have e2 := (hst x HIN.out).2.1
    rw [hu] at e2
    have c0 := HH1.out.blk.cell 0
    simp at c0
    have cb := implBegin HH1.out 3 2 x HIN.out (by omega) (by omega) HOUT.out HC.out
    clear hst hu
    go_wp2_with (go_at_call 70; go_must (refine cb.mono ?_; rintro e w5 ⟨rfl, cv5, H5⟩))
    (try simp only [Exit.inBlock, Exit.then])
    refine bodyPost_ret (results_none rfl _ _ _) rfl ?_
    exact ⟨rfl, _, _, H5⟩
set_option maxRecDepth 100000 in
set_option maxHeartbeats 4000000 in
theorem implBack (h : RunI S B l a cap g gp rv reps dv cv w0 w s) (hc : s.cmds.length ≤ 800000) :
    Calls Tryd.prog 49 #[.pointer (some ⟨g, 0, none⟩)] w fun e w' => e = .returned (.tuple #[]) ∧ ∃ dv' cv', RunI S B l a cap g gp rv reps dv' cv' w0 w' (back l s.done.length s) := by
  have hl : l.length ≤ 20 := h.saga.len.2
  have hdl := done_len h.ok
  have HR : Hid (RunI S B l a cap g gp rv reps dv cv w0 w s) := h
  have HC : Hid (s.cmds.length ≤ 800000) := hc
  obtain ⟨R, hRr⟩ : ∃ R, back l s.done.length s = R := ⟨_, rfl⟩
  rw [hRr]
  have HRR : Hid (back l s.done.length s = R) := hRr
  clear h hc hRr
  go_enter Tryd.func49, Tryd.ntmps49
  go_wp2_with fail
  go_loopw [2] (fun i2 wr => ∃ (dv' cv' : Value) (t : Sg), RunI S B l a cap g gp rv reps dv' cv' w0 wr t ∧ back l t.done.length t = R ∧ t.cmds.length + t.done.length ≤ 800020) (fun _ wr => lenIn wr ⟨g, 3, none⟩)
  case atStart => exact ⟨dv, cv, s, HR.out, HRR.out, by have := HC.out; omega⟩
  case round =>
    obtain ⟨dv', cv', t, hR, hbk, hcl⟩ := hrel
    have HR1 : Hid (RunI S B l a cap g gp rv reps dv' cv' w0 wr t) := hR
    have HBK : Hid (back l t.done.length t = R) := hbk
    have HCL : Hid (t.cmds.length + t.done.length ≤ 800020) := hcl
    have cf := implFirstBusy hR
    obtain ⟨da, dc, hdv, -⟩ := hR.done.natCells
    clear hbk hcl
    cases hbz : busy t
    case true =>
      have hr : R = t := by rw [← HBK.out]; exact back_busy hbz _
      subst hr
      rw [hbz] at cf
      clear hR hdv
      go_wp2_with (go_at_call 71; go_must (refine cf.mono ?_; rintro e w1 ⟨⟨r, rfl, hr⟩, hb1⟩; have hr' : ¬ (r < 0) := (by have := of_decide_eq_true hr; omega); clear hr))
      go_end0
      exact ⟨rfl, _, _, HR1.out.go hb1⟩
    case false =>
      rw [hbz] at cf
      by_cases h0 : t.done.length = 0
      · have hr : R = setSt t 4 := by rw [← HBK.out, h0]; exact back_zero hbz
        subst hr
        clear hR hbz
        go_upto_region 1 with (go_at_call 71; go_must (refine cf.mono ?_; rintro e w1 ⟨⟨r, rfl, hr⟩, hb1⟩; have hr' : r < 0 := (by have := of_decide_eq_false hr; omega); clear hr))
        have H1 := HR1.out.go hb1
        have c3 := H1.blk.cell 3
        have c1 := H1.blk.cell 1
        have f1 := H1.blk.fro 1
        simp at c3 c1
        rw [hdv, h0] at c3
        have H9 := H1.putSt 4
        have HH9 : Hid (RunI S B l a cap g gp rv reps dv' cv' w0 (w1.setCell ⟨g, 1, none⟩ (.int .i64 4)) (setSt t 4)) := H9
        clear H9 H1 cf hdv h0
        go_wp2_with fail
        (try simp only [Exit.inBlock, Exit.then])
        refine bodyPost_ret (results_none rfl _ _ _) rfl ?_
        exact ⟨rfl, _, _, HH9.out⟩
      · obtain ⟨m, hm⟩ : ∃ m, t.done.length = m + 1 := ⟨t.done.length - 1, by omega⟩
        have hund := back_succ (l := l) hbz m
        rw [← hm, HBK.out] at hund
        have hul := undo_len l t (lastOf t)
        have huc := undo_cmds l t (lastOf t)
        have c3r := hR.blk.cell 3
        simp at c3r
        rw [hdv, hm] at c3r
        have HSLEN : Hid (lenIn wr ⟨g, 3, none⟩ = m + 1) := lenIn_eq c3r
        have HUND : Hid (R = back l m (undoS l t (lastOf t))) := hund
        have HUL : Hid ((undoS l t (lastOf t)).done = t.done.dropLast) := hul
        have HUC : Hid ((undoS l t (lastOf t)).cmds.length ≤ t.cmds.length + 1) := huc
        have HM : Hid (t.done.length = m + 1) := hm
        have hm20 : m < 20 := by have := done_len HR1.out.ok; omega
        clear hund hul huc hR hbz c3r hm h0
        go_upto_region 1 with (go_at_call 71; go_must (refine cf.mono ?_; rintro e w1 ⟨⟨r, rfl, hr⟩, hb1⟩; have hr' : r < 0 := (by have := of_decide_eq_false hr; omega); clear hr))
        have H1 := HR1.out.go hb1
        have c3 := H1.blk.cell 3
        simp at c3
        rw [hdv, HM.out] at c3
        have cu := implUndo H1 (by rw [HM.out]; omega) (by have := HCL.out; omega)
        clear cf hdv H1
        have hne : ¬ (((m + 1 : Nat) : Int) = 0) := by omega
        go_wp2_with (go_at_call 72; go_must (refine cu.mono ?_; rintro e w5 ⟨rfl, dv5, cv5, H5⟩))
        have hlen : (undoS l t (lastOf t)).done.length = m := by rw [HUL.out, List.length_dropLast, HM.out]; omega
        refine ⟨⟨dv5, cv5, _, H5, by rw [hlen]; exact HUND.out.symm, by have := HUC.out; have := HCL.out; have := HM.out; omega⟩, ?_⟩
        obtain ⟨ea, ec, hev, -⟩ := H5.done.natCells
        have k3 := H5.blk.cell 3
        simp at k3
        rw [hev, hlen] at k3
        rw [lenIn_eq k3, HSLEN.out]
        omega
set_option maxRecDepth 100000 in
set_option maxHeartbeats 2000000 in
theorem implGoOn (h : RunI S B l a cap g gp rv reps dv cv w0 w s) (hc : s.cmds.length ≤ 800000) :
    Calls Tryd.prog 35 #[.pointer (some ⟨g, 0, none⟩)] w fun e w' => e = .returned (.tuple #[]) ∧ ∃ dv' cv', RunI S B l a cap g gp rv reps dv' cv' w0 w' (goOnS l s) := by
  have c1 := h.blk.cell 1
  simp at c1
  have cf := implForward h hc
  have cb := implBack h hc
  have HR : Hid (RunI S B l a cap g gp rv reps dv cv w0 w s) := h
  unfold goOnS
  obtain ⟨st, hst⟩ : ∃ st, s.st = st := ⟨_, rfl⟩
  rw [hst] at c1 ⊢
  clear h hst
  by_cases h1 : st = 1
  · subst h1
    rw [if_pos rfl]
    go_enter Tryd.func35, Tryd.ntmps35
    go_wp2_with (go_at_call 48; go_must (refine cf.mono ?_; rintro e w5 ⟨rfl, cv5, H5⟩))
    go_end0
    exact ⟨rfl, _, cv5, H5⟩
  · rw [if_neg h1]
    have h1' : (st == 1) = false := by simp [h1]
    by_cases h2 : st = 2
    · subst h2
      rw [if_pos rfl]
      go_enter Tryd.func35, Tryd.ntmps35
      go_wp2_with (go_at_call 49; go_must (refine cb.mono ?_; rintro e w5 ⟨rfl, dv5, cv5, H5⟩))
      go_end0
      exact ⟨rfl, dv5, cv5, H5⟩
    · rw [if_neg h2]
      have h2' : (st == 2) = false := by simp [h2]
      go_enter Tryd.func35, Tryd.ntmps35
      go_wp2_with fail
      go_end0
      exact ⟨rfl, _, _, HR.out⟩
end
end Go.Proofs.YtlnfobeedpbnmaaDoor

namespace Go.Proofs.YtlnfobeedpbnmaaDoor
open Go.ChangeShapes Go.WideShapes Go.ChangeAt Go.RowKit
set_option linter.unusedVariables false
set_option linter.unusedSimpArgs false

/-- A row of parts is made. -/
theorem made_parts (n : Nat) (hn : n ≤ 20) : ∃ zc : Array Value, PartsAt zc (List.replicate n 0) (List.replicate n 0) ∧ ∀ w, (Instr.makeSlice 57 (.int .i64 (n : Int)) (.int .i64 (n : Int))).run Tryd.prog w = .ok (.slice (some ⟨w.heap.size, 0, none⟩) n n) (w.alloc (.cells zc 77)) := by
  obtain ⟨i, hii, hz0, hz1, hz2⟩ := info_of (t := 77) (z := .agg #[.int .i64 0, .int .i64 0]) (n := 2) (b := 16) (by kernel_rfl)
  have hcell : ∀ j, j < n * 2 → (madeCells (Value.cells (.agg #[.int .i64 0, .int .i64 0])) (n * 2))[j]? = some (.int .i64 0) := fun j hj => by
    unfold madeCells
    rw [Array.getElem?_map, Array.getElem?_range, if_pos hj]
    simp only [Option.map_some]
    have h2 : (Value.cells (.agg #[.int .i64 0, .int .i64 0])) = #[.int .i64 0, .int .i64 0] := by kernel_rfl
    rw [h2]
    have h3 : j % 2 = 0 ∨ j % 2 = 1 := by omega
    rcases h3 with h3 | h3 <;> simp [h3]
  refine ⟨madeCells (Value.cells (.agg #[.int .i64 0, .int .i64 0])) (n * 2), ⟨by simp [size_madeCells], by simp, fun k hk => ?_, fun k hk => ?_⟩, fun w => ?_⟩
  · have hk' : k < n := by simpa using hk
    rw [hcell _ (by omega), List.getElem_replicate]
  · have hk' : k < n := by simpa using hk
    rw [hcell _ (by omega), List.getElem_replicate]
  · have hb : (i.bytes : Int) * (n : Int) ≤ 281474976710656 := by rw [hz2]; omega
    have hr := run_make (P := Tryd.prog) w 57 77 i _ Tryd.underlying57 hii hz0 .i64 .i64 (n : Int) (n : Int) (by omega) (by omega) hb (by omega)
    simp only [Int.toNat_natCast, hz1] at hr
    exact hr
section
variable {S : Nat → Prop} {B : Nat} {l : List Step} {a : Option Addr} {cap : Nat} {w : World}
theorem is_zero (l : List Step) (i : Nat) : isAt (zeroS l) i = 0 := by
  unfold isAt zeroS
  dsimp only
  rw [List.getElem?_replicate]
  split <;> rfl
theorem twoI (w : World) (zc cs : Array Value) : Blk ((w.alloc (.cells zc 77)).alloc (.cells cs 59)) w.heap.size 77 zc ∧ Blk ((w.alloc (.cells zc 77)).alloc (.cells cs 59)) (w.heap.size + 1) 59 cs ∧ Below w.heap.size w ((w.alloc (.cells zc 77)).alloc (.cells cs 59)) :=
  ⟨two1 w _ _, two2 w _ _, ((Below.refl _ w).alloc (Nat.le_refl _) _).alloc (by simp only [World.size_alloc]; omega) _⟩
set_option maxRecDepth 100000 in
set_option maxHeartbeats 2000000 in
theorem implRunOf (h : SagaIn S w.heap.size w a cap l) :
    Calls Tryd.prog 21 #[.slice a l.length cap] w fun e w' => ∃ g gp dv cv, e = .returned (.pointer (some ⟨g, 0, none⟩)) ∧ RunI S w.heap.size l a cap g gp (.slice none 0 0) [] dv cv w w' (beginS l) := by
  have hl : l.length ≤ 20 := h.len.2
  have hl' : (l.length : Int) ≤ 20 := by omega
  obtain ⟨zc, hzc, hmk⟩ := made_parts l.length hl
  obtain ⟨b1, b2, b3⟩ := twoI w zc #[.slice a l.length cap, .int .i64 1, .slice (some ⟨w.heap.size, 0, none⟩) l.length l.length, .slice none 0 0, .slice none 0 0]
  have H1 : RunI S w.heap.size l a cap (w.heap.size + 1) w.heap.size (.slice none 0 0) [] (.slice none 0 0) (.slice none 0 0) w ((w.alloc (.cells zc 77)).alloc (.cells #[.slice a l.length cap, .int .i64 1, .slice (some ⟨w.heap.size, 0, none⟩) l.length l.length, .slice none 0 0, .slice none 0 0] 59)) (zeroS l) :=
    ⟨h.below b3 (Nat.le_refl _), b2, ⟨zc, b1, hzc⟩, OwnNums.nil _ _, OwnCmds.nil _ _, OwnNums.nil _ _, .inl rfl, ⟨by omega, by omega⟩, fun i => by rw [is_zero]; omega, Ok.zero l, Nat.le_refl _, b3⟩
  have co := implGoOn H1 (by simp [zeroS])
  have hg : goOnS l (zeroS l) = beginS l := by unfold goOnS beginS; rw [if_pos (show (zeroS l).st = 1 from rfl)]
  rw [hg] at co
  clear h hzc b1 b2 b3 H1 hg
  go_enter Tryd.func21, Tryd.ntmps21
  go_wp2_with (go_at_call 35; go_must (refine co.mono ?_; rintro e w5 ⟨rfl, dv5, cv5, H5⟩))
  go_ret
  exact ⟨_, _, dv5, cv5, rfl, H5⟩
end
section
variable {S : Nat → Prop} {B : Nat} {l : List Step} {a : Option Addr} {cap g gp : Nat} {rv : Value} {reps : List Int} {dv cv : Value} {w0 w : World} {s : Sg}
set_option maxRecDepth 100000 in
theorem implTries (h : RunI S B l a cap g gp rv reps dv cv w0 w s) (i : Nat) (hi : i < l.length) :
    Calls Tryd.prog 73 #[.pointer (some ⟨g, 0, none⟩), .int .i64 (i : Int)] w fun e w' => e = .returned (.bool (moreB l s i)) ∧ Below w.heap.size w w' := by
  have hl : l.length ≤ 20 := h.saga.len.2
  have hl' : (l.length : Int) ≤ 20 := by omega
  have hi' : (i : Int) < (l.length : Int) := by omega
  obtain ⟨b, off, rfl, hbB, hst⟩ := h.stepCell
  have e3 := (hst i hi).2.2.1
  have c0 := h.blk.cell 0
  have c2 := h.blk.cell 2
  simp at c0 c2
  have d1 := (h.trCell i hi).1
  unfold moreB
  clear h hst
  go_enter Tryd.func73, Tryd.ntmps73
  go_upto_region 1 with fail
  go_quiet (fail)
  go_wp2_with fail
  go_ret
  exact ⟨rfl, bel_drewN (Below.refl _ _) _⟩
theorem more_lt (h : RunI S B l a cap g gp rv reps dv cv w0 w s) {i : Nat} (hi : i < l.length) (hm : moreB l s i = true) : trAt s i < 5 := by
  unfold moreB at hm
  have h1 := of_decide_eq_true hm
  rw [stepOf_eq hi] at h1
  have := h.saga.tries i hi
  omega
/-- What a move does. -/
def MoveC (f : Nat) (kind : Int) : Prop := ∀ {S : Nat → Prop} {B : Nat} {l : List Step} {a : Option Addr} {cap g gp : Nat} {rv : Value} {reps : List Int} {dv cv : Value} {w0 w : World} {s : Sg}, RunI S B l a cap g gp rv reps dv cv w0 w s → ∀ (i : Nat), i < l.length → i ∉ s.done → Ok l (moveS l s i kind) → s.cmds.length ≤ 900000 →
    Calls Tryd.prog f #[.pointer (some ⟨g, 0, none⟩), .int .i64 (i : Int)] w fun e w' => e = .returned (.tuple #[]) ∧ ∃ dv' cv', RunI S B l a cap g gp rv reps dv' cv' w0 w' (moveS l s i kind)
set_option maxRecDepth 100000 in
set_option maxHeartbeats 2000000 in
theorem implFinish : MoveC 52 1 := by
  intro S B l a cap g gp rv reps dv cv w0 w s h i hi hn hok hc
  have hl : l.length ≤ 20 := h.saga.len.2
  have hl' : (l.length : Int) ≤ 20 := by omega
  have hi' : (i : Int) < (l.length : Int) := by omega
  have c2 := h.blk.cell 2
  simp at c2
  obtain ⟨d1, f1⟩ := h.isCell i hi
  have hdl := done_len h.ok
  have H4 := h.putIs i hi 2 (by omega) (by omega) (h.ok.setIs hi 2 hn)
  rw [move_one] at hok ⊢
  have HH4 : Hid (RunI S B l a cap g gp rv reps dv cv w0 (w.setCell ⟨gp, i * 2, none⟩ (.int .i64 2)) (setIs s i 2)) := H4
  have HOK : Hid (Ok l { setIs s i 2 with done := s.done ++ [i] }) := hok
  clear h H4 hok
  go_enter Tryd.func52, Tryd.ntmps52
  go_upto_region 1 with fail
  obtain ⟨wB, hwB⟩ : ∃ wB, w.setCell ⟨gp, i * 2, none⟩ (.int .i64 2) = wB := ⟨_, rfl⟩
  rw [hwB] at HH4 ⊢
  clear hwB c2 d1 f1
  have hwb : Below wB.heap.size wB (wB.alloc (.cells #[.int .i64 (i : Int)] 3)) := (Below.refl _ wB).alloc (Nat.le_refl _) _
  obtain ⟨da, dc, hdv, -⟩ := HH4.out.done.natCells
  have c3 := HH4.out.blk.cell 3
  simp at c3
  rw [hdv] at c3
  have H5 := HH4.out.go hwb
  go_wp2_with (at_builtin; go_must (refine wpList_appendNumAt rfl (.tmp 15) (.tmp 17) rfl B dv (nums s.done) (by simp [Act.eval, hdv, setIs]) H5.done (i : Int) rfl (NumsAt.newAt _ (i : Int) _ (by simp)) (by rw [nums_len]; have : s.done.length ≤ l.length := hdl; omega) H5.size ?_; intro v9 w9 hown9 hB9 hgr9 hat9; obtain ⟨a9, c9, e9, -⟩ := hown9.value; obtain ⟨n9, hn9⟩ : ∃ n9, (nums s.done ++ [(i : Int)]).length = n9 := ⟨_, rfl⟩; rw [hn9] at e9; clear hn9; subst e9; have hown8 : OwnNums B w9 (.slice a9 n9 c9) (nums (s.done ++ [i])) := (by rw [nums_append]; exact hown9); obtain ⟨hbk, H6⟩ := H5.growD hown8 hB9 hgr9 hat9 HOK.out; have g3 := hbk.cell 3; have f3 := hbk.fro 3; simp at g3; rw [hdv] at g3))
  go_end0
  exact ⟨rfl, _, _, H6⟩
set_option maxRecDepth 100000 in
theorem implTake3 : MoveC 54 3 := by
  intro S B l a cap g gp rv reps dv cv w0 w s h i hi hn hok hc
  refine (implTakeBack h i hi hn).mono ?_
  rintro e w' ⟨rfl, h'⟩
  exact ⟨rfl, dv, cv, by rw [move_three]; exact h'⟩
set_option maxRecDepth 100000 in
set_option maxHeartbeats 2000000 in
theorem implFail : MoveC 53 2 := by
  intro S B l a cap g gp rv reps dv cv w0 w s h i hi hn hok hc
  have hl : l.length ≤ 20 := h.saga.len.2
  have hl' : (l.length : Int) ≤ 20 := by omega
  have hi' : (i : Int) < (l.length : Int) := by omega
  have ct := implTries h i hi
  have HR : Hid (RunI S B l a cap g gp rv reps dv cv w0 w s) := h
  have c1 := h.blk.cell 1
  simp at c1
  have hml := fun hm => more_lt h hi hm
  by_cases hs1 : s.st = 1
  · rw [hs1] at c1
    cases hm : moreB l s i
    · rw [hm] at ct
      rw [move_two_b (by rw [hm]; simp)]
      clear h hml hm hs1
      go_enter Tryd.func53, Tryd.ntmps53
      go_upto_region 2 with (go_at_call 73; go_must (refine ct.mono ?_; rintro e w1 ⟨rfl, hb1⟩))
      have H1 := HR.out.go hb1
      clear ct c1
      have c2 := H1.blk.cell 2
      simp at c2
      obtain ⟨d1, f1⟩ := H1.isCell i hi
      have H2 := H1.putIs i hi 0 (by omega) (by omega) (H1.ok.setIs hi 0 hn)
      have c1 := H2.blk.cell 1
      have f2 := H2.blk.fro 1
      simp at c1
      have H3 := H2.putSt 2
      have HH3 : Hid (RunI S B l a cap g gp rv reps dv cv w0 ((w1.setCell ⟨gp, i * 2, none⟩ (.int .i64 0)).setCell ⟨g, 1, none⟩ (.int .i64 2)) (setSt (setIs s i 0) 2)) := H3
      clear H1 H2 H3
      go_wp2_with fail
      go_end0
      exact ⟨rfl, _, _, HH3.out⟩
    · rw [hm] at ct
      have h5 := hml hm
      rw [move_two_a hs1 hm]
      have HH5 : Hid (trAt s i < 5) := h5
      clear h hml hm h5 hs1
      go_enter Tryd.func53, Tryd.ntmps53
      go_upto_region 1 with (go_at_call 73; go_must (refine ct.mono ?_; rintro e w1 ⟨rfl, hb1⟩))
      have co := implOrder (HR.out.go hb1) 1 i hi HH5.out hc
      go_wp2_with (go_at_call 74; go_must (refine co.mono ?_; rintro e w5 ⟨rfl, cv5, H5⟩))
      (try simp only [Exit.inBlock, Exit.then])
      refine bodyPost_ret (results_none rfl _ _ _) rfl ?_
      exact ⟨rfl, _, cv5, H5⟩
  · rw [move_two_b (fun hh => hs1 hh.1)]
    obtain ⟨st, hst⟩ : ∃ st, s.st = st := ⟨_, rfl⟩
    rw [hst] at c1 hs1
    have hs1' : (st == 1) = false := by simp [hs1]
    clear h hml hst ct hs1
    go_enter Tryd.func53, Tryd.ntmps53
    go_upto_region 2 with fail
    have H1 := HR.out
    clear c1
    have c2 := H1.blk.cell 2
    simp at c2
    obtain ⟨d1, f1⟩ := H1.isCell i hi
    have H2 := H1.putIs i hi 0 (by omega) (by omega) (H1.ok.setIs hi 0 hn)
    have c1 := H2.blk.cell 1
    have f2 := H2.blk.fro 1
    simp at c1
    have H3 := H2.putSt 2
    have HH3 : Hid (RunI S B l a cap g gp rv reps dv cv w0 ((w.setCell ⟨gp, i * 2, none⟩ (.int .i64 0)).setCell ⟨g, 1, none⟩ (.int .i64 2)) (setSt (setIs s i 0) 2)) := H3
    clear H1 H2 H3
    go_wp2_with fail
    go_end0
    exact ⟨rfl, _, _, HH3.out⟩
set_option maxRecDepth 100000 in
set_option maxHeartbeats 2000000 in
theorem implStick : MoveC 55 4 := by
  intro S B l a cap g gp rv reps dv cv w0 w s h i hi hn hok hc
  have ct := implTries h i hi
  have HR : Hid (RunI S B l a cap g gp rv reps dv cv w0 w s) := h
  have hml := fun hm => more_lt h hi hm
  cases hm : moreB l s i
  · rw [hm] at ct
    rw [move_four_b hm]
    clear h hml hm
    go_enter Tryd.func55, Tryd.ntmps55
    go_upto_region 2 with (go_at_call 73; go_must (refine ct.mono ?_; rintro e w1 ⟨rfl, hb1⟩))
    have H1 := HR.out.go hb1
    have c1 := H1.blk.cell 1
    have f1 := H1.blk.fro 1
    simp at c1
    have H2 := H1.putSt 5
    have HH2 : Hid (RunI S B l a cap g gp rv reps dv cv w0 (w1.setCell ⟨g, 1, none⟩ (.int .i64 5)) (setSt s 5)) := H2
    clear H1 H2 ct
    go_wp2_with fail
    go_end0
    exact ⟨rfl, _, _, HH2.out⟩
  · rw [hm] at ct
    have h5 := hml hm
    rw [move_four_a hm]
    have HH5 : Hid (trAt s i < 5) := h5
    clear h hml hm h5
    go_enter Tryd.func55, Tryd.ntmps55
    go_upto_region 1 with (go_at_call 73; go_must (refine ct.mono ?_; rintro e w1 ⟨rfl, hb1⟩))
    have co := implOrder (HR.out.go hb1) 2 i hi HH5.out hc
    go_wp2_with (go_at_call 74; go_must (refine co.mono ?_; rintro e w5 ⟨rfl, cv5, H5⟩))
    (try simp only [Exit.inBlock, Exit.then])
    refine bodyPost_ret (results_none rfl _ _ _) rfl ?_
    exact ⟨rfl, _, cv5, H5⟩
end
end Go.Proofs.YtlnfobeedpbnmaaDoor

namespace Go.Proofs.YtlnfobeedpbnmaaDoor
open Go.ChangeShapes Go.WideShapes Go.ChangeAt Go.RowKit
set_option linter.unusedVariables false
set_option linter.unusedSimpArgs false

/-- The move of a message, if one fits. -/
def moveV (x k : Int) : Value :=
  if x = 1 then (if k = 1 then .func (.func 52) #[] #[] else if k = 2 then .func (.func 53) #[] #[] else .nilFunc)
  else if x = 3 then (if k = 3 then .func (.func 54) #[] #[] else if k = 4 then .func (.func 55) #[] #[] else .nilFunc)
  else .nilFunc
def noMoves : Array Value := #[.nilFunc, .nilFunc, .nilFunc, .nilFunc, .nilFunc, .nilFunc, .nilFunc, .nilFunc, .nilFunc, .nilFunc, .nilFunc, .nilFunc, .nilFunc, .nilFunc, .nilFunc, .nilFunc, .nilFunc, .nilFunc, .nilFunc, .nilFunc, .nilFunc, .nilFunc, .nilFunc, .nilFunc, .nilFunc]
def moves : Array Value := #[.nilFunc, .nilFunc, .nilFunc, .nilFunc, .nilFunc, .nilFunc, .func (.func 52) #[] #[], .func (.func 53) #[] #[], .nilFunc, .nilFunc, .nilFunc, .nilFunc, .nilFunc, .nilFunc, .nilFunc, .nilFunc, .nilFunc, .nilFunc, .func (.func 54) #[] #[], .func (.func 55) #[] #[], .nilFunc, .nilFunc, .nilFunc, .nilFunc, .nilFunc]
theorem wpList_table {ops : Array Oper} {rest : List Oper} {o : Oper} {a : Act} {w : World} {Q : Exit → Act → World → Prop} (hgd : o.guard = none) (x y : Operand) (ho : o.op = .store 85 x y)
    (hx : a.eval x = .pointer (some ⟨w.heap.size, 0, none⟩)) (hy : a.eval y = .agg moves) (h : wpList Tryd.prog ops Q rest (a.put o.dst undef) (w.alloc (.cells moves 85))) : wpList Tryd.prog ops Q (o :: rest) a (w.alloc (.cells noMoves 85)) := by
  refine wpList_plain hgd fun K hK => ?_
  unfold Oper.wp execOp
  simp only [ho, hx, hy, Instr.storeAt, Instr.sureAddr, Sem.run_bind, Sem.run_pure, Result.andThen_ok, run_storeVar_new (P := Tryd.prog) w 85 noMoves moves (by kernel_rfl) (by kernel_rfl) (by kernel_rfl)]
  exact hK _ _ h
set_option maxRecDepth 100000 in
set_option maxHeartbeats 4000000 in
theorem implMoveOf (x k : Int) (hx : x = 0 ∨ x = 1 ∨ x = 2 ∨ x = 3 ∨ x = 4) (hk : k = 1 ∨ k = 2 ∨ k = 3 ∨ k = 4) (w : World) :
    Calls Tryd.prog 37 #[.int .i64 x, .int .i64 k] w fun e w' => e = .returned (moveV x k) ∧ Below w.heap.size w w' := by
  have hb : Below w.heap.size w (w.alloc (.cells moves 85)) := (Below.refl _ w).alloc (Nat.le_refl _) _
  have kb : Blk (w.alloc (.cells moves 85)) w.heap.size 85 moves := heap_alloc_last w _
  have HB : Hid _ := hb
  have HK : Hid _ := kb
  clear hb kb
  go_enter Tryd.func37, Tryd.ntmps37
  go_upto_region 2 with (refine wpList_table rfl (.tmp 5) (.tmp 8) rfl rfl rfl ?_)
  (try simp only [Act.put, List.setIfInBounds_toArray, List.set_cons_zero, List.set_cons_succ])
  obtain ⟨wz, hwz⟩ : ∃ wz, w.alloc (.cells moves 85) = wz := ⟨_, rfl⟩
  rw [hwz] at HB HK ⊢
  clear hwz
  have hcell : ∀ n v, moves[n]? = some v → wz.cell? ⟨w.heap.size, n, none⟩ = some v := fun n v h => (Blk.cell HK.out n).trans h
  obtain ⟨bx, hbx⟩ : ∃ bx, w.heap.size = bx := ⟨_, rfl⟩
  rw [hbx] at hcell ⊢
  clear HK
  rcases hx with rfl | rfl | rfl | rfl | rfl <;> rcases hk with rfl | rfl | rfl | rfl
  · have q := hcell 1 .nilFunc rfl
    clear hcell
    go_wp2_with fail
    go_ret
    exact ⟨by simp [moveV], HB.out⟩
  · have q := hcell 2 .nilFunc rfl
    clear hcell
    go_wp2_with fail
    go_ret
    exact ⟨by simp [moveV], HB.out⟩
  · have q := hcell 3 .nilFunc rfl
    clear hcell
    go_wp2_with fail
    go_ret
    exact ⟨by simp [moveV], HB.out⟩
  · have q := hcell 4 .nilFunc rfl
    clear hcell
    go_wp2_with fail
    go_ret
    exact ⟨by simp [moveV], HB.out⟩
  · have q := hcell 6 (.func (.func 52) #[] #[]) rfl
    clear hcell
    go_wp2_with fail
    go_ret
    exact ⟨by simp [moveV], HB.out⟩
  · have q := hcell 7 (.func (.func 53) #[] #[]) rfl
    clear hcell
    go_wp2_with fail
    go_ret
    exact ⟨by simp [moveV], HB.out⟩
  · have q := hcell 8 .nilFunc rfl
    clear hcell
    go_wp2_with fail
    go_ret
    exact ⟨by simp [moveV], HB.out⟩
  · have q := hcell 9 .nilFunc rfl
    clear hcell
    go_wp2_with fail
    go_ret
    exact ⟨by simp [moveV], HB.out⟩
  · have q := hcell 11 .nilFunc rfl
    clear hcell
    go_wp2_with fail
    go_ret
    exact ⟨by simp [moveV], HB.out⟩
  · have q := hcell 12 .nilFunc rfl
    clear hcell
    go_wp2_with fail
    go_ret
    exact ⟨by simp [moveV], HB.out⟩
  · have q := hcell 13 .nilFunc rfl
    clear hcell
    go_wp2_with fail
    go_ret
    exact ⟨by simp [moveV], HB.out⟩
  · have q := hcell 14 .nilFunc rfl
    clear hcell
    go_wp2_with fail
    go_ret
    exact ⟨by simp [moveV], HB.out⟩
  · have q := hcell 16 .nilFunc rfl
    clear hcell
    go_wp2_with fail
    go_ret
    exact ⟨by simp [moveV], HB.out⟩
  · have q := hcell 17 .nilFunc rfl
    clear hcell
    go_wp2_with fail
    go_ret
    exact ⟨by simp [moveV], HB.out⟩
  · have q := hcell 18 (.func (.func 54) #[] #[]) rfl
    clear hcell
    go_wp2_with fail
    go_ret
    exact ⟨by simp [moveV], HB.out⟩
  · have q := hcell 19 (.func (.func 55) #[] #[]) rfl
    clear hcell
    go_wp2_with fail
    go_ret
    exact ⟨by simp [moveV], HB.out⟩
  · have q := hcell 21 .nilFunc rfl
    clear hcell
    go_wp2_with fail
    go_ret
    exact ⟨by simp [moveV], HB.out⟩
  · have q := hcell 22 .nilFunc rfl
    clear hcell
    go_wp2_with fail
    go_ret
    exact ⟨by simp [moveV], HB.out⟩
  · have q := hcell 23 .nilFunc rfl
    clear hcell
    go_wp2_with fail
    go_ret
    exact ⟨by simp [moveV], HB.out⟩
  · have q := hcell 24 .nilFunc rfl
    clear hcell
    go_wp2_with fail
    go_ret
    exact ⟨by simp [moveV], HB.out⟩
end Go.Proofs.YtlnfobeedpbnmaaDoor

namespace Go.Proofs.YtlnfobeedpbnmaaDoor
open Go.ChangeShapes Go.WideShapes Go.ChangeAt Go.RowKit
set_option linter.unusedVariables false
set_option linter.unusedSimpArgs false

section
variable {S : Nat → Prop} {B : Nat} {l : List Step} {a : Option Addr} {cap g gp : Nat} {rv : Value} {reps : List Int} {dv cv : Value} {w0 w : World} {s : Sg}
def overB (s : Sg) : Bool := decide (s.st ≠ 1) && decide (s.st ≠ 2)
set_option maxRecDepth 100000 in
theorem implOver (h : RunI S B l a cap g gp rv reps dv cv w0 w s) :
    Calls Tryd.prog 38 #[.pointer (some ⟨g, 0, none⟩)] w fun e w' => e = .returned (.bool (overB s)) ∧ w' = w := by
  have c1 := h.blk.cell 1
  simp at c1
  unfold overB
  obtain ⟨st, hst⟩ : ∃ st, s.st = st := ⟨_, rfl⟩
  rw [hst] at c1 ⊢
  clear h hst
  by_cases h1 : st = 1
  · subst h1
    go_enter Tryd.func38, Tryd.ntmps38
    go_wp2_with fail
    go_ret
    exact ⟨by simp, rfl⟩
  · have h1' : (st != 1) = true := by simp [h1]
    go_enter Tryd.func38, Tryd.ntmps38
    go_wp2_with fail
    go_ret
    refine ⟨?_, rfl⟩
    by_cases h2 : st = 2 <;> simp [h1, h2]
theorem eq_nil (w : World) : (binOp .eql 74 .nilFunc .nilFunc).run Tryd.prog w = .ok (.bool true) w := by kernel_rfl
theorem eq_func (f : Nat) (w : World) : (binOp .eql 74 (.func (.func f) #[] #[]) .nilFunc).run Tryd.prog w = .ok (.bool false) w := by kernel_rfl
theorem move_fits {x k : Int} (hk : k = 1 ∨ k = 2 ∨ k = 3 ∨ k = 4) (h : x ≠ wantI k) : moveV x k = .nilFunc := by
  unfold moveV
  unfold wantI at h
  rcases hk with rfl | rfl | rfl | rfl <;> simp at h ⊢ <;> omega
set_option maxRecDepth 100000 in
set_option maxHeartbeats 8000000 in
theorem implHear (h : RunI S B l a cap g gp rv reps dv cv w0 w s) (ms : ByteArray) (mk : Int) (hc : s.cmds.length ≤ 700000) :
    Calls Tryd.prog 22 #[.pointer (some ⟨g, 0, none⟩), .agg #[.string ms, .int .i64 mk]] w fun e w' => e = .returned (.int .i64 (codeS l s ⟨ms, mk⟩)) ∧ ∃ dv' cv', RunI S B l a cap g gp rv reps dv' cv' w0 w' (hearS l s ⟨ms, mk⟩) := by
  have hl : l.length ≤ 20 := h.saga.len.2
  have hl' : (l.length : Int) ≤ 20 := by omega
  have hA : Below w.heap.size w (w.alloc (.cells #[.string ms, .int .i64 mk] 36)) := (Below.refl _ w).alloc (Nat.le_refl _) _
  have kb : Blk (w.alloc (.cells #[.string ms, .int .i64 mk] 36)) w.heap.size 36 #[.string ms, .int .i64 mk] := heap_alloc_new w _
  have HRA := h.go hA
  have HC : Hid (s.cmds.length ≤ 700000) := hc
  obtain ⟨bx, hbx⟩ : ∃ bx, w.heap.size = bx := ⟨_, rfl⟩
  obtain ⟨C, hC⟩ : ∃ C, codeS l s ⟨ms, mk⟩ = C := ⟨_, rfl⟩
  obtain ⟨R, hR⟩ : ∃ R, hearS l s ⟨ms, mk⟩ = R := ⟨_, rfl⟩
  rw [hC, hR]
  have HCC : Hid (codeS l s ⟨ms, mk⟩ = C) := hC
  have HRC : Hid (hearS l s ⟨ms, mk⟩ = R) := hR
  clear h hc hA hC hR
  go_enter Tryd.func22, Tryd.ntmps22
  go_upto_region 1 with fail
  obtain ⟨wa, hwa⟩ : ∃ wa, w.alloc (.cells #[.string ms, .int .i64 mk] 36) = wa := ⟨_, rfl⟩
  rw [hwa] at HRA kb ⊢
  rw [hbx] at kb
  clear hwa hbx
  have cf := implFind HRA ms
  have pm := kb.cell 0
  simp at pm
  have HKB : Hid (Blk wa bx 36 #[.string ms, .int .i64 mk]) := kb
  have HR1 : Hid (RunI S B l a cap g gp rv reps dv cv w0 wa s) := HRA
  clear kb HRA
  by_cases hneg : findI (names l) ms < 0
  case pos =>
    obtain ⟨e1, e2⟩ := code_none (l := l) (s := s) (m := ⟨ms, mk⟩) hneg
    rw [HCC.out] at e1
    rw [HRC.out] at e2
    subst e1
    subst e2
    clear HCC HRC
    obtain ⟨fi, hfi⟩ : ∃ fi, findI (names l) ms = fi := ⟨_, rfl⟩
    rw [hfi] at hneg cf
    clear hfi
    go_wp2_with (go_at_call 36; go_must (refine cf.mono ?_; rintro e w1 ⟨rfl, hb1⟩))
    (try simp only [Exit.inBlock, Exit.then])
    go_ret
    exact ⟨rfl, dv, cv, HR1.out.go hb1⟩
  obtain ⟨hjl, hj⟩ := find_lt (Int.not_lt.1 hneg)
  have K1 := code_kind (l := l) (s := s) (m := ⟨ms, mk⟩) hneg
  have K2 := code_over (l := l) (s := s) (m := ⟨ms, mk⟩) hneg
  have K3 := code_not (l := l) (s := s) (m := ⟨ms, mk⟩) hneg
  have K4 := code_fits (l := l) (s := s) (m := ⟨ms, mk⟩) hneg
  rw [HCC.out, HRC.out] at K1 K2 K3 K4
  clear HCC HRC hneg
  dsimp only at K1 K2 K3 K4
  rw [← hj] at cf
  obtain ⟨j, hjj⟩ : ∃ j, numOf l ms = j := ⟨_, rfl⟩
  rw [hjj] at hjl K3 K4 cf
  clear hj hjj
  have hjl' : (j : Int) < (l.length : Int) := by omega
  have hj0 : ¬ ((j : Int) < 0) := by omega
  go_upto_region 4 with (go_at_call 36; go_must (refine cf.mono ?_; rintro e w1 ⟨rfl, hb1⟩))
  clear cf pm
  have H2 := HR1.out.go hb1
  have kb2 := Blk.below HKB.out hb1
  have k1 := kb2.cell 1
  simp at k1
  have HR2 : Hid (RunI S B l a cap g gp rv reps dv cv w0 w1 s) := H2
  have HKB2 : Hid (Blk w1 bx 36 #[.string ms, .int .i64 mk]) := kb2
  have cb := implBetween mk 1 4 w1
  clear HR1 HKB kb2 hb1
  by_cases hm : mk < 1 ∨ 4 < mk
  case pos =>
    obtain ⟨rfl, rfl⟩ := K1 hm
    have hbt : (decide (1 ≤ mk) && decide (mk ≤ 4)) = false := by
      rcases hm with h1 | h1
      · rw [decide_eq_false (by omega : ¬ 1 ≤ mk)]; rfl
      · rw [decide_eq_false (by omega : ¬ mk ≤ 4), Bool.and_false]
    rw [hbt] at cb
    clear K1 K2 K3 K4 H2 hbt
    go_wp2_with (go_at_call 33; go_must (refine cb.mono ?_; rintro e w2 ⟨rfl, hq⟩; obtain rfl := hq.symm; clear hq))
    (try simp only [Exit.inBlock, Exit.then])
    go_ret
    exact ⟨rfl, dv, cv, HR2.out⟩
  have hbt : (decide (1 ≤ mk) && decide (mk ≤ 4)) = true := by
    rw [decide_eq_true (by omega : 1 ≤ mk), decide_eq_true (by omega : mk ≤ 4)]; rfl
  rw [hbt] at cb
  have K2' := K2 hm
  have K3' := K3 hm
  have K4' := K4 hm
  have hmk : mk = 1 ∨ mk = 2 ∨ mk = 3 ∨ mk = 4 := by omega
  clear K1 K2 K3 K4 hbt hm
  go_upto_region 6 with (go_at_call 33; go_must (refine cb.mono ?_; rintro e w2 ⟨rfl, hq⟩; obtain rfl := hq.symm; clear hq))
  clear cb k1
  have hrg := H2.rng j
  obtain ⟨x, hx⟩ : ∃ x, isAt s j = x := ⟨_, rfl⟩
  rw [hx] at hrg K3' K4'
  have HX : Hid (isAt s j = x) := hx
  have hx5 : x = 0 ∨ x = 1 ∨ x = 2 ∨ x = 3 ∨ x = 4 := by omega
  have cm := fun N : GoodW (fun W => Below w1.heap.size w1 W) => implMoveOf x mk hx5 hmk N.W
  have p2 := fun N : GoodW (fun W => Below w1.heap.size w1 W) => (H2.go N.ok).blk.cell 2
  have p3 := fun N : GoodW (fun W => Below w1.heap.size w1 W) => ((H2.go N.ok).isCell j hjl).1
  have p1 := fun N : GoodW (fun W => Below w1.heap.size w1 W) => (Blk.below HKB2.out N.ok).cell 1
  simp only [hx] at p3
  simp at p1 p2
  haveI ne : Nonempty (GoodW (fun W => Below w1.heap.size w1 W)) := ⟨⟨_, Below.refl _ _⟩⟩
  obtain ⟨mv, hmv⟩ : ∃ mv, moveV x mk = mv := ⟨_, rfl⟩
  simp only [hmv] at cm
  have HMV : Hid (moveV x mk = mv) := hmv
  clear H2 hx hrg hmv
  refine wp_region_calm (fun W => Below w1.heap.size w1 W) (by kernel_rfl) (by kernel_rfl) (Below.refl _ _).drew ?_
  repeat (go_big_quiet_step ((go_at_call 37; exact Calls.calm _ (fun _ hb => good_below (GoodW.ok _) hb) (cm _))))
  refine wpQuiet_nil ?_
  rintro W2 ⟨⟨W3, hW3⟩, hWe⟩
  have hW2 : Below w1.heap.size w1 W2 := hWe ▸ hW3
  clear hWe hW3 cm p1 p2 p3 ne
  have H3 := HR2.out.go hW2
  have HR3 : Hid (RunI S B l a cap g gp rv reps dv cv w0 W2 s) := H3
  have cov := implOver H3
  obtain ⟨ov, hov⟩ : ∃ ov, overB s = ov := ⟨_, rfl⟩
  rw [hov] at cov
  clear HR2 HKB2 hW2
  cases ov
  case true =>
    have hst : s.st ≠ 1 ∧ s.st ≠ 2 := by unfold overB at hov; simpa using hov
    obtain ⟨rfl, rfl⟩ := K2' hst
    clear K2' K3' K4' hov hst H3
    go_wp2_with (go_at_call 38; go_must (refine cov.mono ?_; rintro e w3 ⟨rfl, hq⟩; obtain rfl := hq.symm; clear hq))
    go_ret
    exact ⟨rfl, dv, cv, HR3.out⟩
  have hst : ¬ (s.st ≠ 1 ∧ s.st ≠ 2) := by unfold overB at hov; intro hh; simp [hh.1, hh.2] at hov
  have hst' : s.st = 1 ∨ s.st = 2 := by omega
  have K3 := K3' hst
  have K4 := K4' hst
  clear K2' K3' K4' hov hst
  by_cases hne : x = wantI mk
  case neg =>
    obtain ⟨rfl, rfl⟩ := K3 hne
    have hmv := HMV.out
    rw [move_fits hmk hne] at hmv
    subst hmv
    clear K3 K4 H3
    have hqn := fun w => eq_nil w
    go_wp2_with (go_at_call 38; go_must (refine cov.mono ?_; rintro e w3 ⟨rfl, hq⟩; obtain rfl := hq.symm; clear hq))
    go_ret
    exact ⟨rfl, dv, cv, HR3.out⟩
  obtain ⟨rfl, hRR⟩ := K4 (by rw [hne]; simp)
  have HRR : Hid (R = goOnS l (moveS l s j mk)) := hRR
  have hin2 : x ≠ 2 := by rw [hne]; unfold wantI; split <;> omega
  have HNO : Hid (j ∉ s.done) := H3.ok.not (by rw [HX.out]; exact hin2)
  have HOM : Hid (Ok l (moveS l s j mk)) := H3.ok.move H3.saga.tries hjl mk (by rw [HX.out]; exact hin2)
  have HMC : Hid ((moveS l s j mk).cmds.length ≤ 800000) := by have := move_cmds l s j mk; have := HC.out; show _ ≤ _; omega
  have hcm : s.cmds.length ≤ 900000 := by have := HC.out; omega
  clear K3 K4 hRR hin2 H3
  have hmv := HMV.out
  rcases hmk with rfl | rfl | rfl | rfl <;> simp only [wantI] at hne <;> simp at hne <;> subst hne <;> simp [moveV] at hmv <;> subst hmv
  case inl =>
    have cmv := implFinish HR3.out j hjl HNO.out HOM.out hcm
    have hqf := fun f w => eq_func f w
    go_upto_region 10 with (first
      | (go_at_call 38; go_must (refine cov.mono ?_; rintro e w3 ⟨rfl, hq⟩; obtain rfl := hq.symm; clear hq))
      | (go_at_call 52; go_must (refine cmv.mono ?_; rintro e w4 ⟨rfl, dv4, cv4, H4⟩)))
    have co := implGoOn H4 HMC.out
    go_wp2_with (go_at_call 35; go_must (refine co.mono ?_; rintro e w5 ⟨rfl, dv5, cv5, H5⟩))
    go_ret
    refine ⟨rfl, dv5, cv5, ?_⟩
    rw [HRR.out]; exact H5
  case inr.inl =>
    have cmv := implFail HR3.out j hjl HNO.out HOM.out hcm
    have hqf := fun f w => eq_func f w
    go_upto_region 10 with (first
      | (go_at_call 38; go_must (refine cov.mono ?_; rintro e w3 ⟨rfl, hq⟩; obtain rfl := hq.symm; clear hq))
      | (go_at_call 53; go_must (refine cmv.mono ?_; rintro e w4 ⟨rfl, dv4, cv4, H4⟩)))
    have co := implGoOn H4 HMC.out
    go_wp2_with (go_at_call 35; go_must (refine co.mono ?_; rintro e w5 ⟨rfl, dv5, cv5, H5⟩))
    go_ret
    refine ⟨rfl, dv5, cv5, ?_⟩
    rw [HRR.out]; exact H5
  case inr.inr.inl =>
    have cmv := implTake3 HR3.out j hjl HNO.out HOM.out hcm
    have hqf := fun f w => eq_func f w
    go_upto_region 10 with (first
      | (go_at_call 38; go_must (refine cov.mono ?_; rintro e w3 ⟨rfl, hq⟩; obtain rfl := hq.symm; clear hq))
      | (go_at_call 54; go_must (refine cmv.mono ?_; rintro e w4 ⟨rfl, dv4, cv4, H4⟩)))
    have co := implGoOn H4 HMC.out
    go_wp2_with (go_at_call 35; go_must (refine co.mono ?_; rintro e w5 ⟨rfl, dv5, cv5, H5⟩))
    go_ret
    refine ⟨rfl, dv5, cv5, ?_⟩
    rw [HRR.out]; exact H5
  case inr.inr.inr =>
    have cmv := implStick HR3.out j hjl HNO.out HOM.out hcm
    have hqf := fun f w => eq_func f w
    go_upto_region 10 with (first
      | (go_at_call 38; go_must (refine cov.mono ?_; rintro e w3 ⟨rfl, hq⟩; obtain rfl := hq.symm; clear hq))
      | (go_at_call 55; go_must (refine cmv.mono ?_; rintro e w4 ⟨rfl, dv4, cv4, H4⟩)))
    have co := implGoOn H4 HMC.out
    go_wp2_with (go_at_call 35; go_must (refine co.mono ?_; rintro e w5 ⟨rfl, dv5, cv5, H5⟩))
    go_ret
    refine ⟨rfl, dv5, cv5, ?_⟩
    rw [HRR.out]; exact H5
end
end Go.Proofs.YtlnfobeedpbnmaaDoor

namespace Go.Proofs.YtlnfobeedpbnmaaDoor
open Go.ChangeShapes Go.WideShapes Go.ChangeAt Go.RowKit
set_option linter.unusedVariables false
set_option linter.unusedSimpArgs false

set_option maxRecDepth 100000 in
theorem implMax2 (a b : Int) (g : Nat) (w : World) (h0 : w.cell? ⟨g, 0, none⟩ = some (.int .i64 a)) (h1 : w.cell? ⟨g, 1, none⟩ = some (.int .i64 b)) : Calls Tryd.prog 32 #[.slice (some ⟨g, 0, none⟩) 2 2] w fun e w' => (∃ m : Int, e = .returned (.int .i64 m) ∧ decide (4096 < m) = (decide (4096 < a) || decide (4096 < b))) ∧ w' = w := by
  go_enter Tryd.func32, Tryd.ntmps32
  go_wp2
  refine wp_loop_rounds 2 ?_
  rw [rounds_succ]
  go_wp2
  rw [rounds_succ]
  go_wp2
  go_ret
  refine ⟨⟨_, rfl, ?_⟩, rfl⟩
  rw [Bool.eq_iff_iff]
  simp only [decide_eq_true_eq, Bool.or_eq_true]
  omega
set_option maxRecDepth 100000 in
theorem implLong2 (a b : Int) (g : Nat) (w : World) (h0 : w.cell? ⟨g, 0, none⟩ = some (.int .i64 a)) (h1 : w.cell? ⟨g, 1, none⟩ = some (.int .i64 b)) : Calls Tryd.prog 19 #[.slice (some ⟨g, 0, none⟩) 2 2] w fun e w' => e = .returned (.bool (decide (4096 < a) || decide (4096 < b))) ∧ w' = w := by
  have cm := implMax2 a b g w h0 h1
  go_enter Tryd.func19, Tryd.ntmps19
  go_wp2_with (go_at_call 32; go_must (refine cm.mono ?_; rintro e w1 ⟨⟨m, rfl, hm⟩, rfl⟩))
  go_ret
  exact ⟨rfl, rfl⟩
theorem two_newI (w : World) (a b : Int) (g : Nat) (hg : g = w.heap.size) : (w.alloc (.cells #[.int .i64 a, .int .i64 b] 3)).cell? ⟨g, 0, none⟩ = some (.int .i64 a) ∧ (w.alloc (.cells #[.int .i64 a, .int .i64 b] 3)).cell? ⟨g, 1, none⟩ = some (.int .i64 b) := by
  subst hg
  have h : Blk (w.alloc (.cells #[.int .i64 a, .int .i64 b] 3)) w.heap.size 3 #[.int .i64 a, .int .i64 b] := heap_alloc_last w _
  exact ⟨h.cell 0, h.cell 1⟩
theorem TxtsAt.newOf (w : World) (x : ByteArray) (g : Nat) (hg : w.heap.size = g) : TxtsAt (fun b => b = g) (w.alloc (.cells #[.string x] 9)) (.slice (some ⟨g, 0, none⟩) 1 1) [x] := by
  subst hg; exact TxtsAt.new w x
section
variable {S : Nat → Prop} {B : Nat} {l : List Step} {a : Option Addr} {cap g gp : Nat} {rv : Value} {reps : List Int} {dv cv : Value} {w0 w : World} {s : Sg}
set_option maxRecDepth 100000 in
set_option maxHeartbeats 4000000 in
theorem implNames (h : RunI S B l a cap g gp rv reps dv cv w0 w s) :
    Calls Tryd.prog 23 #[.pointer (some ⟨g, 0, none⟩), dv] w fun e w' => (∃ na nn nc, e = .returned (.slice na nn nc) ∧ OwnTxts w.heap.size w' (.slice na nn nc) (s.done.map (nameAt l))) ∧ Below w.heap.size w w' := by
  have hl : l.length ≤ 20 := h.saga.len.2
  have hl' : (l.length : Int) ≤ 20 := by omega
  have hdl := done_len h.ok
  have hdl' : (s.done.length : Int) ≤ 20 := by omega
  obtain ⟨da, dc, hdv, hdc⟩ := h.done.natCells
  subst hdv
  have HR : Hid (RunI S B l a cap g gp rv reps (.slice da s.done.length dc) cv w0 w s) := h
  have HDC : Hid (0 < s.done.length → ∃ dg, da = some ⟨dg, 0, none⟩ ∧ B ≤ dg ∧ dg < w.heap.size ∧ ∀ j (hj : j < s.done.length), w.cell? ⟨dg, j, none⟩ = some (.int .i64 ((s.done[j] : Nat) : Int))) := hdc
  clear h hdc
  go_enter Tryd.func23, Tryd.ntmps23
  go_wp2_with fail
  go_loopw [5, 10] (fun i5 i10 wr => ∃ (k : Nat) (na : Option Addr) (nn nc : Nat), i10 = .int .i64 (k : Int) ∧ i5 = .slice na nn nc ∧ k ≤ s.done.length ∧ OwnTxts w.heap.size wr (.slice na nn nc) ((s.done.take k).map (nameAt l)) ∧ Below w.heap.size w wr) (fun _ i10 _ => s.done.length - (intOf i10).toNat)
  case atStart => exact ⟨0, none, 0, 0, rfl, rfl, by omega, OwnTxts.nil _ _, Below.refl _ _⟩
  case round =>
    obtain ⟨k, na, nn, nc, rfl, rfl, hk, hown, hb⟩ := hrel
    have HOW : Hid (OwnTxts w.heap.size wr (.slice na nn nc) ((s.done.take k).map (nameAt l))) := hown
    clear hown
    by_cases hkn : k < s.done.length
    · have hkn' : (k : Int) < (s.done.length : Int) := by omega
      obtain ⟨dg, rfl, hdB, hdg, hcell⟩ := HDC.out (by omega)
      have d1 := (hb.cell (p := ⟨dg, k, none⟩) hdg).trans (hcell k hkn)
      have hR := HR.out.go hb
      have hjl := (hR.ok.dk _ (List.getElem_mem hkn)).1
      obtain ⟨b, off, rfl, hbB, hst⟩ := hR.stepCell
      have e1 := (hst _ hjl).1
      have htk : (s.done.take (k + 1)).map (nameAt l) = (s.done.take k).map (nameAt l) ++ [nameAt l s.done[k]] := by rw [List.take_succ_eq_append_getElem hkn, List.map_append]; rfl
      have hzn : (stepOf l s.done[k]).name.size ≤ 1048576 := by
        have := (hR.saga.ok _ (List.getElem_mem hjl)).1
        rw [← stepOf_eq hjl] at this
        omega
      have hnn : nameAt l s.done[k] = (stepOf l s.done[k]).name := rfl
      rw [hnn] at htk
      have c0 := hR.blk.cell 0
      simp at c0
      obtain ⟨j, hj⟩ : ∃ j, s.done[k] = j := ⟨_, rfl⟩
      rw [hj] at d1 e1 htk hzn
      simp only [hj] at hjl
      obtain ⟨nm, hnm⟩ : ∃ nm, (stepOf l j).name = nm := ⟨_, rfl⟩
      rw [hnm] at e1 htk hzn
      have HTK : Hid ((s.done.take (k + 1)).map (nameAt l) = (s.done.take k).map (nameAt l) ++ [nm]) := htk
      have hjl' : (j : Int) < (l.length : Int) := by omega
      have hnl : ((s.done.take k).map (nameAt l)).length ≤ 20 := by simp; omega
      have cc := implCloneT nm hzn wr
      have HBW : Hid (Below w.heap.size w wr) := hb
      clear hcell hst htk hnm hj hR hnn hb
      go_wp2_with (first
        | (go_at_call 39; go_must (refine cc.mono ?_; rintro e w1 ⟨rfl, hb1⟩; have hb2 := good_below HBW.out hb1; have hs2 := hb2.size))
        | (at_builtin; go_must (refine wpList_appendTxts rfl (.tmp 14) (.tmp 24) rfl w.heap.size (.slice na nn nc) ((s.done.take k).map (nameAt l)) rfl (OwnTxts.below (OwnTxts.below HOW.out hb1) ((Below.refl _ w1).alloc (Nat.le_refl _) _)) _ [nm] rfl (TxtsAt.newOf _ nm _ (by simp)) (by simp at hnl ⊢; omega) (by simp only [World.size_alloc]; omega) ?_; intro v9 w9 hown9 hB9 hgr9 hnil9; obtain ⟨a9, c9, e9, -⟩ := hown9.value; obtain ⟨n9, hn9⟩ : ∃ n9, ((s.done.take k).map (nameAt l) ++ [nm]).length = n9 := ⟨_, rfl⟩; rw [hn9] at e9; clear hn9; subst e9)))
      refine ⟨⟨k + 1, a9, n9, c9, rfl, rfl, by omega, ?_, (hb2.alloc hs2 _).trans hB9⟩, by simp [intOf]; omega⟩
      rw [HTK.out]; exact hown9
    · obtain rfl : k = s.done.length := by omega
      have hkn' : ¬ ((s.done.length : Int) < (s.done.length : Int)) := by omega
      have ho := HOW.out
      rw [List.take_length] at ho
      have HO2 : Hid (OwnTxts w.heap.size wr (.slice na nn nc) (s.done.map (nameAt l))) := ho
      clear ho HOW
      go_wp2_with fail
      go_ret
      exact ⟨⟨na, nn, nc, rfl, HO2.out⟩, hb⟩
end
end Go.Proofs.YtlnfobeedpbnmaaDoor
