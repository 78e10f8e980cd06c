/-
  What the document's command does. No statement of the seat is proved here.
-/
import Derived.Test.YtbpijollcjdkhaaDoorK3
namespace Go.Proofs.YtbpijollcjdkhaaDoor
open Go.ChangeShapes Go.WideShapes Go.ChangeAt Go.RowKit
set_option linter.unusedVariables false
set_option linter.unusedSimpArgs false

section
variable {S : Nat → Prop} {B : Nat} {l : List Step} {a : Option Addr} {cap g gi gt : Nat} {dv rv cv : Value} {w0 w : World} {s : Sg} {reps : List Int}
set_option maxRecDepth 100000 in
set_option maxHeartbeats 4000000 in
theorem specCommand (h : RunS S B l a cap g gi gt dv rv cv w0 w s reps) (kind : Int) (i : Nat) (hi : i < l.length) (hc : s.cmds.length ≤ 900000) :
    Calls Tryd.prog 46 #[.pointer (some ⟨g, 0, none⟩), .int .i64 kind, .int .i64 (i : Int)] w fun e w' => e = .returned (.tuple #[]) ∧ ∃ cv', RunS S B l a cap g gi gt dv rv cv' w0 w' (cmdS l s kind i) reps := by
  obtain ⟨b, off, rfl, hbB, hst⟩ := h.stepCell
  have e0 := (hst i hi).1
  have e2 := (h.trCell i hi).1
  have c0 := h.blk.cell 0
  have c2 := h.blk.cell 2
  have c7 := h.blk.cell 7
  simp at c0 c2 c7
  have hl : l.length ≤ 20 := h.saga.len.2
  have hl' : (l.length : Int) ≤ 20 := by omega
  have hi' : (i : Int) < (l.length : Int) := by omega
  have hbs := h.size
  unfold cmdS
  obtain ⟨nm, hnm⟩ : ∃ nm, (stepOf l i).name = nm := ⟨_, rfl⟩
  obtain ⟨tt, htt⟩ : ∃ tt, trAt s i = tt := ⟨_, rfl⟩
  rw [hnm] at e0 ⊢
  rw [htt] at e2 ⊢
  have HR : Hid (RunS S B l (some ⟨b, off, none⟩) cap g gi gt dv rv cv w0 w s reps) := h
  have n1 : w.heap.size ≠ g := Nat.ne_of_gt h.blk.lt
  have ca7 : ∀ o, (w.alloc o).cell? ⟨g, 7, none⟩ = some cv := fun o => by have := (h.go ((Below.refl _ w).alloc (Nat.le_refl _) o)).blk.cell 7; simpa using this
  clear h hst hnm htt
  go_enter Tryd.func46, Tryd.ntmps46
  go_upto_region 0 with fail
  go_region_law (refine step_appendCmds rfl (.tmp 11) (.tmp 29) rfl B cv s.cmds (by simp [Act.eval]) (HR.out.cmds.below (((Below.refl _ w).alloc (Nat.le_refl _) _).drew)) (.slice (some ⟨w.heap.size, 0, none⟩) 1 1) [⟨kind, tt, nm⟩] (by simp [Act.eval]) (CmdsAt.new w kind tt nm) (by simp; omega) (by simp; omega) ?_; intro va vn vc w4 hown4 hB4 hgr4 hnil4; obtain ⟨hb4, H4⟩ := (HR.out.go (((Below.refl _ w).alloc (Nat.le_refl _) _).drew)).growC hown4 hB4 hgr4; have g7 := hb4.cell 7; have f7 := hb4.fro 7; simp at g7)
  all_goals
    go_wp2_with fail
    go_end0
    exact ⟨rfl, _, H4⟩
end
end Go.Proofs.YtbpijollcjdkhaaDoor
