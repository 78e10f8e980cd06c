/-
  What the program's order, begin and takeBack do. No statement of the seat is proved here.
-/
import Derived.Test.YtbpijollcjdkhaaDoorL1
import Derived.Test.YtbpijollcjdkhaaDoorL0
import Derived.Test.YtbpijollcjdkhaaDoorShelf
namespace Go.Proofs.YtbpijollcjdkhaaDoor
open Go.ChangeShapes Go.WideShapes Go.ChangeAt Go.RowKit
set_option linter.unusedVariables false
set_option linter.unusedSimpArgs false

set_option maxRecDepth 100000 in
theorem implCloneT (s : ByteArray) (hz : s.size ≤ 1048576) (w : World) : Calls Tryd.prog 55 #[.string s] w fun e w' => e = .returned (.string s) ∧ Below w.heap.size w w' := by
  have c := Tryd.stringslite_Clone s w (by omega)
  go_enter Tryd.func55, Tryd.ntmps55
  go_wp2_with (go_at_call 73; go_must (refine c.mono ?_; rintro e w1 ⟨rfl, hb1⟩))
  go_ret
  exact ⟨rfl, hb1⟩
theorem step_callC {ops : Array Oper} {o : Oper} {a : Act} {w : World} {K : Act → World → Prop} {Q : Exit → Act → World → Prop} {E : Prop} (hg : o.guard = none) (f : FuncId) (args : Array Value) (hrun : (execOp a.eval o).run Tryd.prog w = .ok (.enter f args) w) {Post : Ending → World → Prop} (hc : Calls Tryd.prog f args w Post) (h : ∀ e w', Post e w' → ∃ v, e = .returned v ∧ K (a.put o.dst v) w') :
    if Region.wanted o (yielded ops a.tmps) = true then Oper.wp Tryd.prog o a w K Q else E := by
  have hw : Region.wanted o (yielded ops a.tmps) = true := by simp [Region.wanted, hg]
  rw [if_pos hw]
  unfold Oper.wp
  rw [hrun, Oper.upon_enter]
  refine hc.mono fun e w'' hh => ?_
  obtain ⟨v, rfl, hk⟩ := h e w'' hh
  exact hk
theorem CmdsAt.newAt (w : World) (x y : Int) (z : ByteArray) (g : Nat) (hg : w.heap.size = g) : CmdsAt (fun b => b = g) (w.alloc (.cells #[.int .i64 x, .int .i64 y, .string z] 93)) (.slice (some ⟨g, 0, none⟩) 1 1) [⟨x, y, z⟩] := by
  subst hg; exact CmdsAt.new w x y z
section
variable {S : Nat → Prop} {B : Nat} {l : List Step} {a : Option Addr} {cap g gp : Nat} {rv : Value} {reps : List Int} {dv cv : Value} {w0 w : World} {s : Sg}
set_option maxRecDepth 100000 in
set_option maxHeartbeats 4000000 in
theorem implOrder (h : RunI S B l a cap g gp rv reps dv cv w0 w s) (kind : Int) (i : Nat) (hi : i < l.length) (ht : trAt s i < 5) (hc : s.cmds.length ≤ 900000) :
    Calls Tryd.prog 91 #[.pointer (some ⟨g, 0, none⟩), .int .i64 kind, .int .i64 (i : Int)] w fun e w' => e = .returned (.tuple #[]) ∧ ∃ cv', RunI S B l a cap g gp rv reps dv cv' w0 w' (again l s kind i) := by
  have c2 := h.blk.cell 2
  simp at c2
  have hl : l.length ≤ 20 := h.saga.len.2
  have hl' : (l.length : Int) ≤ 20 := by omega
  have hi' : (i : Int) < (l.length : Int) := by omega
  obtain ⟨d1, f1⟩ := h.trCell i hi
  have tb := h.ok.tb i
  obtain ⟨tt, htt⟩ : ∃ tt, trAt s i = tt := ⟨_, rfl⟩
  unfold again
  rw [htt] at d1 tb ht ⊢
  have H1 := h.putTr i hi (tt + 1) (h.ok.setTr hi (tt + 1) (by omega) (by omega))
  have hta := trAt_set (s := s) (i := i) (by rw [h.ok.tl]; exact hi) (tt + 1) i
  rw [if_pos rfl] at hta
  have hzn : (stepOf l i).name.size ≤ 1048576 := by
    have := (h.saga.ok _ (List.getElem_mem hi)).1
    rw [← stepOf_eq hi] at this
    omega
  unfold cmdS
  rw [hta]
  obtain ⟨nm, hnm⟩ : ∃ nm, (stepOf l i).name = nm := ⟨_, rfl⟩
  rw [hnm] at hzn ⊢
  obtain ⟨s1, hs1⟩ : ∃ s1, setTr s i (tt + 1) = s1 := ⟨_, rfl⟩
  have hcm : s1.cmds = s.cmds := by rw [← hs1]; rfl
  rw [hs1] at H1 hta ⊢
  have HH1 : Hid (RunI S B l a cap g gp rv reps dv cv w0 (w.setCell ⟨gp, i * 2 + 1, none⟩ (.int .i64 (tt + 1))) s1) := H1
  have HTA : Hid (trAt s1 i = tt + 1) := hta
  have HC1 : Hid (s1.cmds.length ≤ 900000) := by rw [hcm]; exact hc
  have HNM : Hid ((stepOf l i).name = nm) := hnm
  clear h H1 htt hta hc hcm hs1 hnm
  go_enter Tryd.func91, Tryd.ntmps91
  go_upto_region 1 with fail
  obtain ⟨wA, hwA⟩ : ∃ wA, w.setCell ⟨gp, i * 2 + 1, none⟩ (.int .i64 (tt + 1)) = wA := ⟨_, rfl⟩
  rw [hwA] at HH1 ⊢
  clear hwA c2 d1 f1
  have H1 := HH1.out
  obtain ⟨b, off, rfl, hbB, hst⟩ := H1.stepCell
  have e0 := (hst i hi).1
  have c0 := H1.blk.cell 0
  have c2 := H1.blk.cell 2
  have c4 := H1.blk.cell 4
  simp at c0 c2 c4
  have d1 := (H1.trCell i hi).1
  rw [HTA.out] at d1
  rw [HNM.out] at e0
  clear H1 hst
  have KP : Hid (∀ W, Below wA.heap.size wA W → W.cell? ⟨g, 0, none⟩ = some (.slice (some ⟨b, off, none⟩) l.length cap) ∧ W.cell? ⟨g, 2, none⟩ = some (.slice (some ⟨gp, 0, none⟩) l.length l.length) ∧ W.cell? ⟨g, 4, none⟩ = some cv ∧ W.cell? ⟨gp, i * 2 + 1, none⟩ = some (.int .i64 (tt + 1)) ∧ W.cell? ⟨b, off + i * 4, none⟩ = some (.string nm)) := fun W hW =>
    ⟨(hW.cell (World.block_lt_of_cell? _ _ c0)).trans c0, (hW.cell (World.block_lt_of_cell? _ _ c2)).trans c2, (hW.cell (World.block_lt_of_cell? _ _ c4)).trans c4, (hW.cell (World.block_lt_of_cell? _ _ d1)).trans d1, (hW.cell (World.block_lt_of_cell? _ _ e0)).trans e0⟩
  have cc := implCloneT nm hzn wA.drew
  clear c0 c2 c4 d1 e0
  refine wp_region_last (S := (fun w' => w'.cell? ⟨g, 0, none⟩ = some (.slice (some ⟨b, off, none⟩) l.length cap) ∧ w'.cell? ⟨g, 2, none⟩ = some (.slice (some ⟨gp, 0, none⟩) l.length l.length) ∧ w'.cell? ⟨g, 4, none⟩ = some cv ∧ w'.cell? ⟨gp, i * 2 + 1, none⟩ = some (.int .i64 (tt + 1)) ∧ w'.cell? ⟨b, off + i * 4, none⟩ = some (.string nm))) 28 (by kernel_rfl) rfl (by kernel_rfl) (KP.out _ (Below.refl _ _).drew) (fun hHeld => ?_)
  simp only [List.take_succ_cons, List.take_zero]
  refine wpAnyH_take (i := 0) (v := ?_) rfl (by kernel_rfl) (by kernel_rfl) (by kernel_rfl) (fun _ _ _ h => h) (Or.inl ⟨by rfl, ?_⟩) (by assumption) ?_
  rotate_left 1
  · (intro w' hSw; (try dsimp only at hSw); go_simp; all_goals with_reducible rfl)
  (try simp only [Act.put, List.setIfInBounds_toArray, List.set_cons_zero, List.set_cons_succ])
  refine wpAnyH_take (i := 1) (v := ?_) rfl (by kernel_rfl) (by kernel_rfl) (by kernel_rfl) (fun _ _ _ h => h) (Or.inl ⟨by rfl, ?_⟩) (by assumption) ?_
  rotate_left 1
  · (intro w' hSw; (try dsimp only at hSw); go_simp; all_goals with_reducible rfl)
  (try simp only [Act.put, List.setIfInBounds_toArray, List.set_cons_zero, List.set_cons_succ])
  refine wpAnyH_take (i := 2) (v := ?_) rfl (by kernel_rfl) (by kernel_rfl) (by kernel_rfl) (fun _ _ _ h => h) (Or.inl ⟨by rfl, ?_⟩) (by assumption) ?_
  rotate_left 1
  · (intro w' hSw; (try dsimp only at hSw); go_simp; all_goals with_reducible rfl)
  (try simp only [Act.put, List.setIfInBounds_toArray, List.set_cons_zero, List.set_cons_succ])
  refine wpAnyH_take (i := 3) (v := ?_) rfl (by kernel_rfl) (by kernel_rfl) (by kernel_rfl) (fun _ _ _ h => h) (Or.inl ⟨by rfl, ?_⟩) (by assumption) ?_
  rotate_left 1
  · (intro w' hSw; (try dsimp only at hSw); go_simp; all_goals with_reducible rfl)
  (try simp only [Act.put, List.setIfInBounds_toArray, List.set_cons_zero, List.set_cons_succ])
  refine wpAnyH_take (i := 4) (v := ?_) rfl (by kernel_rfl) (by kernel_rfl) (by kernel_rfl) (fun _ _ _ h => h) (Or.inl ⟨by rfl, ?_⟩) (by assumption) ?_
  rotate_left 1
  · (intro w' hSw; (try dsimp only at hSw); go_simp; all_goals with_reducible rfl)
  (try simp only [Act.put, List.setIfInBounds_toArray, List.set_cons_zero, List.set_cons_succ])
  refine wpAnyH_take (i := 5) (v := ?_) rfl (by kernel_rfl) (by kernel_rfl) (by kernel_rfl) (fun _ _ _ h => h) (Or.inl ⟨by rfl, ?_⟩) (by assumption) ?_
  rotate_left 1
  · (intro w' hSw; (try dsimp only at hSw); go_simp; all_goals with_reducible rfl)
  (try simp only [Act.put, List.setIfInBounds_toArray, List.set_cons_zero, List.set_cons_succ])
  refine wpAnyH_take (i := 6) (v := ?_) rfl (by kernel_rfl) (by kernel_rfl) (by kernel_rfl) (fun _ _ _ h => h) (Or.inl ⟨by rfl, ?_⟩) (by assumption) ?_
  rotate_left 1
  · (intro w' hSw; (try dsimp only at hSw); go_simp; all_goals with_reducible rfl)
  (try simp only [Act.put, List.setIfInBounds_toArray, List.set_cons_zero, List.set_cons_succ])
  refine wpAnyH_take (i := 7) (v := ?_) rfl (by kernel_rfl) (by kernel_rfl) (by kernel_rfl) (fun _ _ _ h => h) (Or.inl ⟨by rfl, ?_⟩) (by assumption) ?_
  rotate_left 1
  · (intro w' hSw; (try dsimp only at hSw); go_simp; all_goals with_reducible rfl)
  (try simp only [Act.put, List.setIfInBounds_toArray, List.set_cons_zero, List.set_cons_succ])
  refine wpAnyH_take (i := 8) (v := ?_) rfl (by kernel_rfl) (by kernel_rfl) (by kernel_rfl) (fun _ _ _ h => h) (Or.inl ⟨by rfl, ?_⟩) (by assumption) ?_
  rotate_left 1
  · (intro w' hSw; (try dsimp only at hSw); go_simp; all_goals with_reducible rfl)
  (try simp only [Act.put, List.setIfInBounds_toArray, List.set_cons_zero, List.set_cons_succ])
  refine wpAnyH_take (i := 9) (v := ?_) rfl (by kernel_rfl) (by kernel_rfl) (by kernel_rfl) (fun _ _ _ h => h) (Or.inl ⟨by rfl, ?_⟩) (by assumption) ?_
  rotate_left 1
  · (intro w' hSw; (try dsimp only at hSw); go_simp; all_goals with_reducible rfl)
  (try simp only [Act.put, List.setIfInBounds_toArray, List.set_cons_zero, List.set_cons_succ])
  refine wpAnyH_take (i := 10) (v := ?_) rfl (by kernel_rfl) (by kernel_rfl) (by kernel_rfl) (fun _ _ _ h => h) (Or.inl ⟨by rfl, ?_⟩) (by assumption) ?_
  rotate_left 1
  · (intro w' hSw; (try dsimp only at hSw); go_simp; all_goals with_reducible rfl)
  (try simp only [Act.put, List.setIfInBounds_toArray, List.set_cons_zero, List.set_cons_succ])
  refine wpAnyH_take (i := 11) (v := ?_) rfl (by kernel_rfl) (by kernel_rfl) (by kernel_rfl) (fun _ _ _ h => h) (Or.inl ⟨by rfl, ?_⟩) (by assumption) ?_
  rotate_left 1
  · (intro w' hSw; (try dsimp only at hSw); go_simp; all_goals with_reducible rfl)
  (try simp only [Act.put, List.setIfInBounds_toArray, List.set_cons_zero, List.set_cons_succ])
  refine wpAnyH_take (i := 12) (v := ?_) rfl (by kernel_rfl) (by kernel_rfl) (by kernel_rfl) (fun _ _ _ h => h) (Or.inl ⟨by rfl, ?_⟩) (by assumption) ?_
  rotate_left 1
  · (intro w' hSw; (try dsimp only at hSw); go_simp; all_goals with_reducible rfl)
  (try simp only [Act.put, List.setIfInBounds_toArray, List.set_cons_zero, List.set_cons_succ])
  refine wpAnyH_take (i := 13) (v := ?_) rfl (by kernel_rfl) (by kernel_rfl) (by kernel_rfl) (fun _ _ _ h => h) (Or.inl ⟨by rfl, ?_⟩) (by assumption) ?_
  rotate_left 1
  · (intro w' hSw; (try dsimp only at hSw); go_simp; all_goals with_reducible rfl)
  (try simp only [Act.put, List.setIfInBounds_toArray, List.set_cons_zero, List.set_cons_succ])
  refine wpAnyH_take (i := 14) (v := ?_) rfl (by kernel_rfl) (by kernel_rfl) (by kernel_rfl) (fun _ _ _ h => h) (Or.inl ⟨by rfl, ?_⟩) (by assumption) ?_
  rotate_left 1
  · (intro w' hSw; (try dsimp only at hSw); go_simp; all_goals with_reducible rfl)
  (try simp only [Act.put, List.setIfInBounds_toArray, List.set_cons_zero, List.set_cons_succ])
  refine wpAnyH_take (i := 15) (v := ?_) rfl (by kernel_rfl) (by kernel_rfl) (by kernel_rfl) (fun _ _ _ h => h) (Or.inl ⟨by rfl, ?_⟩) (by assumption) ?_
  rotate_left 1
  · (intro w' hSw; (try dsimp only at hSw); go_simp; all_goals with_reducible rfl)
  (try simp only [Act.put, List.setIfInBounds_toArray, List.set_cons_zero, List.set_cons_succ])
  refine wpAnyH_take (i := 16) (v := ?_) rfl (by kernel_rfl) (by kernel_rfl) (by kernel_rfl) (fun _ _ _ h => h) (Or.inl ⟨by rfl, ?_⟩) (by assumption) ?_
  rotate_left 1
  · (intro w' hSw; (try dsimp only at hSw); go_simp; all_goals with_reducible rfl)
  (try simp only [Act.put, List.setIfInBounds_toArray, List.set_cons_zero, List.set_cons_succ])
  refine wpAnyH_take (i := 17) (v := ?_) rfl (by kernel_rfl) (by kernel_rfl) (by kernel_rfl) (fun _ _ _ h => h) (Or.inl ⟨by rfl, ?_⟩) (by assumption) ?_
  rotate_left 1
  · (intro w' hSw; (try dsimp only at hSw); go_simp; all_goals with_reducible rfl)
  (try simp only [Act.put, List.setIfInBounds_toArray, List.set_cons_zero, List.set_cons_succ])
  refine wpAnyH_take (i := 18) (v := ?_) rfl (by kernel_rfl) (by kernel_rfl) (by kernel_rfl) (fun _ _ _ h => h) (Or.inl ⟨by rfl, ?_⟩) (by assumption) ?_
  rotate_left 1
  · (intro w' hSw; (try dsimp only at hSw); go_simp; all_goals with_reducible rfl)
  (try simp only [Act.put, List.setIfInBounds_toArray, List.set_cons_zero, List.set_cons_succ])
  refine wpAnyH_take (i := 19) (v := ?_) rfl (by kernel_rfl) (by kernel_rfl) (by kernel_rfl) (fun _ _ _ h => h) (Or.inl ⟨by rfl, ?_⟩) (by assumption) ?_
  rotate_left 1
  · (intro w' hSw; (try dsimp only at hSw); go_simp; all_goals with_reducible rfl)
  (try simp only [Act.put, List.setIfInBounds_toArray, List.set_cons_zero, List.set_cons_succ])
  refine wpAnyH_take (i := 20) (v := ?_) rfl (by kernel_rfl) (by kernel_rfl) (by kernel_rfl) (fun _ _ _ h => h) (Or.inl ⟨by rfl, ?_⟩) (by assumption) ?_
  rotate_left 1
  · (intro w' hSw; (try dsimp only at hSw); go_simp; all_goals with_reducible rfl)
  (try simp only [Act.put, List.setIfInBounds_toArray, List.set_cons_zero, List.set_cons_succ])
  refine wpAnyH_take (i := 21) (v := ?_) rfl (by kernel_rfl) (by kernel_rfl) (by kernel_rfl) (fun _ _ _ h => h) (Or.inl ⟨by rfl, ?_⟩) (by assumption) ?_
  rotate_left 1
  · (intro w' hSw; (try dsimp only at hSw); go_simp; all_goals with_reducible rfl)
  (try simp only [Act.put, List.setIfInBounds_toArray, List.set_cons_zero, List.set_cons_succ])
  refine wpAnyH_ready (rs := [22]) (by kernel_rfl) (by simp) ?_
  refine AllReadyH.cons rfl (fun K hK => ?_) AllReadyH.nil
  refine step_callC rfl 55 _ (by kernel_rfl) cc ?_
  rintro e w1 ⟨rfl, hb1⟩
  refine ⟨_, rfl, ?_⟩
  have hbz : Below wA.heap.size wA w1 := (Below.refl _ wA).drew.trans hb1
  refine hK.out _ _ ?_ (fun hHeld => ?_)
  · exact KP.out _ hbz
  clear hK K
  (try simp only [Act.put, List.setIfInBounds_toArray, List.set_cons_zero, List.set_cons_succ])
  refine wpAnyH_take (i := 23) (v := ?_) rfl (by kernel_rfl) (by kernel_rfl) (by kernel_rfl) (fun _ _ _ h => h) (Or.inl ⟨by rfl, ?_⟩) (by assumption) ?_
  rotate_left 1
  · (intro w' hSw; (try dsimp only at hSw); go_simp; all_goals with_reducible rfl)
  (try simp only [Act.put, List.setIfInBounds_toArray, List.set_cons_zero, List.set_cons_succ])
  have HZ := HH1.out.go hbz
  have k4 := HZ.blk.cell 4
  have hxg : some g ≠ cv.ownBlock := Ne.symm (HZ.cmds.off HZ.blk (by decide))
  have hxp : some gp ≠ cv.ownBlock := by
    obtain ⟨cs, h1, _⟩ := HZ.parts
    exact Ne.symm (HZ.cmds.off h1 (by decide))
  have hxb : some b ≠ cv.ownBlock := fun e => by have := OwnCmds.block HZ.cmds b e.symm; omega
  refine wpAnyH_ready (rs := [24]) (by kernel_rfl) (by simp) ?_
  refine AllReadyH.cons rfl (fun K hK => ?_) AllReadyH.nil
  go_simp
  refine hK.out _ _ ?_ (fun hHeld => ?_)
  · exact KP.out _ (hbz.alloc hbz.size _)
  clear hK K
  (try simp only [Act.put, List.setIfInBounds_toArray, List.set_cons_zero, List.set_cons_succ])
  refine wpAnyH_ready (rs := [25]) (by kernel_rfl) (by simp) ?_
  refine AllReadyH.cons rfl (fun K hK => ?_) AllReadyH.nil
  refine step_appendCmds rfl (.tmp 21) (.tmp 41) rfl B cv s1.cmds (by simp [Act.eval]) (HZ.cmds.below ((Below.refl _ w1).alloc (Nat.le_refl _) _)) (.slice (some ⟨w1.heap.size, 0, none⟩) 1 1) [⟨kind, tt + 1, nm⟩] (by simp [Act.eval]) (CmdsAt.new w1 kind (tt + 1) nm) (by simp; exact Nat.le_trans HC1.out (by omega)) (by simp; have := HZ.size; omega) ?_
  intro va vn vc w4 hown4 hB4 hgr4 hnil4
  refine hK.out _ _ ?_ (fun hHeld => ?_)
  · exact ⟨hgr4.cell hHeld.1 hxg, hgr4.cell hHeld.2.1 hxg, hgr4.cell hHeld.2.2.1 hxg, hgr4.cell hHeld.2.2.2.1 hxp, hgr4.cell hHeld.2.2.2.2 hxb⟩
  clear hK K
  (try simp only [Act.put, List.setIfInBounds_toArray, List.set_cons_zero, List.set_cons_succ])
  refine wpAnyH_take (i := 26) (v := ?_) rfl (by kernel_rfl) (by kernel_rfl) (by kernel_rfl) (fun _ _ _ h => h) (Or.inl ⟨by rfl, ?_⟩) (by assumption) ?_
  rotate_left 1
  · (intro w' hSw; (try dsimp only at hSw); go_simp; all_goals with_reducible rfl)
  (try simp only [Act.put, List.setIfInBounds_toArray, List.set_cons_zero, List.set_cons_succ])
  refine wpAnyH_take (i := 27) (v := ?_) rfl (by kernel_rfl) (by kernel_rfl) (by kernel_rfl) (fun _ _ _ h => h) (Or.inl ⟨by rfl, ?_⟩) (by assumption) ?_
  rotate_left 1
  · (intro w' hSw; (try dsimp only at hSw); go_simp; all_goals with_reducible rfl)
  (try simp only [Act.put, List.setIfInBounds_toArray, List.set_cons_zero, List.set_cons_succ])
  obtain ⟨hb4, H4⟩ := (HZ.go ((Below.refl _ w1).alloc (Nat.le_refl _) _)).growC hown4 hB4 hgr4
  have g4 := hb4.cell 4
  have f4 := hb4.fro 4
  simp at g4
  refine wpAnyH_done (by kernel_rfl) ?_ _
  show Oper.wp _ _ _ _ _ _
  unfold Oper.wp
  go_simp
  go_end0
  exact ⟨rfl, _, H4⟩
end
end Go.Proofs.YtbpijollcjdkhaaDoor
