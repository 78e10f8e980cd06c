/-
  What the program's names and RunSaga answer. No statement of the seat is proved here.
-/
import Derived.Test.YtbpijollcjdkhaaDoorL8
import Derived.Test.YtbpijollcjdkhaaDoorK11
namespace Go.Proofs.YtbpijollcjdkhaaDoor
open Go.ChangeShapes Go.WideShapes Go.ChangeAt Go.RowKit
set_option linter.unusedVariables false
set_option linter.unusedSimpArgs false

set_option maxRecDepth 100000 in
theorem implMax2 (a b : Int) (g : Nat) (w : World) (h0 : w.cell? ⟨g, 0, none⟩ = some (.int .i64 a)) (h1 : w.cell? ⟨g, 1, none⟩ = some (.int .i64 b)) : Calls Tryd.prog 48 #[.slice (some ⟨g, 0, none⟩) 2 2] w fun e w' => (∃ m : Int, e = .returned (.int .i64 m) ∧ decide (4096 < m) = (decide (4096 < a) || decide (4096 < b))) ∧ w' = w := by
  go_enter Tryd.func48, Tryd.ntmps48
  go_wp2
  refine wp_loop_rounds 2 ?_
  rw [rounds_succ]
  go_wp2
  rw [rounds_succ]
  go_wp2
  go_ret
  refine ⟨⟨_, rfl, ?_⟩, rfl⟩
  rw [Bool.eq_iff_iff]
  simp only [decide_eq_true_eq, Bool.or_eq_true]
  omega
set_option maxRecDepth 100000 in
theorem implLong2 (a b : Int) (g : Nat) (w : World) (h0 : w.cell? ⟨g, 0, none⟩ = some (.int .i64 a)) (h1 : w.cell? ⟨g, 1, none⟩ = some (.int .i64 b)) : Calls Tryd.prog 24 #[.slice (some ⟨g, 0, none⟩) 2 2] w fun e w' => e = .returned (.bool (decide (4096 < a) || decide (4096 < b))) ∧ w' = w := by
  have cm := implMax2 a b g w h0 h1
  go_enter Tryd.func24, Tryd.ntmps24
  go_wp2_with (go_at_call 48; go_must (refine cm.mono ?_; rintro e w1 ⟨⟨m, rfl, hm⟩, rfl⟩))
  go_ret
  exact ⟨rfl, rfl⟩
theorem two_newI (w : World) (a b : Int) (g : Nat) (hg : g = w.heap.size) : (w.alloc (.cells #[.int .i64 a, .int .i64 b] 3)).cell? ⟨g, 0, none⟩ = some (.int .i64 a) ∧ (w.alloc (.cells #[.int .i64 a, .int .i64 b] 3)).cell? ⟨g, 1, none⟩ = some (.int .i64 b) := by
  subst hg
  have h : Blk (w.alloc (.cells #[.int .i64 a, .int .i64 b] 3)) w.heap.size 3 #[.int .i64 a, .int .i64 b] := heap_alloc_last w _
  exact ⟨h.cell 0, h.cell 1⟩
theorem TxtsAt.newOf (w : World) (x : ByteArray) (g : Nat) (hg : w.heap.size = g) : TxtsAt (fun b => b = g) (w.alloc (.cells #[.string x] 9)) (.slice (some ⟨g, 0, none⟩) 1 1) [x] := by
  subst hg; exact TxtsAt.new w x
section
variable {S : Nat → Prop} {B : Nat} {l : List Step} {a : Option Addr} {cap g gp : Nat} {rv : Value} {reps : List Int} {dv cv : Value} {w0 w : World} {s : Sg}
set_option maxRecDepth 100000 in
set_option maxHeartbeats 4000000 in
theorem implNames (h : RunI S B l a cap g gp rv reps dv cv w0 w s) :
    Calls Tryd.prog 28 #[.pointer (some ⟨g, 0, none⟩), dv] w fun e w' => (∃ na nn nc, e = .returned (.slice na nn nc) ∧ OwnTxts w.heap.size w' (.slice na nn nc) (s.done.map (nameAt l))) ∧ Below w.heap.size w w' := by
  have hl : l.length ≤ 20 := h.saga.len.2
  have hl' : (l.length : Int) ≤ 20 := by omega
  have hdl := done_len h.ok
  have hdl' : (s.done.length : Int) ≤ 20 := by omega
  obtain ⟨da, dc, hdv, hdc⟩ := h.done.natCells
  subst hdv
  have HR : Hid (RunI S B l a cap g gp rv reps (.slice da s.done.length dc) cv w0 w s) := h
  have HDC : Hid (0 < s.done.length → ∃ dg, da = some ⟨dg, 0, none⟩ ∧ B ≤ dg ∧ dg < w.heap.size ∧ ∀ j (hj : j < s.done.length), w.cell? ⟨dg, j, none⟩ = some (.int .i64 ((s.done[j] : Nat) : Int))) := hdc
  clear h hdc
  go_enter Tryd.func28, Tryd.ntmps28
  go_wp2_with fail
  go_loopw [5, 10] (fun i5 i10 wr => ∃ (k : Nat) (na : Option Addr) (nn nc : Nat), i10 = .int .i64 (k : Int) ∧ i5 = .slice na nn nc ∧ k ≤ s.done.length ∧ OwnTxts w.heap.size wr (.slice na nn nc) ((s.done.take k).map (nameAt l)) ∧ Below w.heap.size w wr) (fun _ i10 _ => s.done.length - (intOf i10).toNat)
  case atStart => exact ⟨0, none, 0, 0, rfl, rfl, by omega, OwnTxts.nil _ _, Below.refl _ _⟩
  case round =>
    obtain ⟨k, na, nn, nc, rfl, rfl, hk, hown, hb⟩ := hrel
    have HOW : Hid (OwnTxts w.heap.size wr (.slice na nn nc) ((s.done.take k).map (nameAt l))) := hown
    clear hown
    by_cases hkn : k < s.done.length
    · have hkn' : (k : Int) < (s.done.length : Int) := by omega
      obtain ⟨dg, rfl, hdB, hdg, hcell⟩ := HDC.out (by omega)
      have d1 := (hb.cell (p := ⟨dg, k, none⟩) hdg).trans (hcell k hkn)
      have hR := HR.out.go hb
      have hjl := (hR.ok.dk _ (List.getElem_mem hkn)).1
      obtain ⟨b, off, rfl, hbB, hst⟩ := hR.stepCell
      have e1 := (hst _ hjl).1
      have htk : (s.done.take (k + 1)).map (nameAt l) = (s.done.take k).map (nameAt l) ++ [nameAt l s.done[k]] := by rw [List.take_succ_eq_append_getElem hkn, List.map_append]; rfl
      have hzn : (stepOf l s.done[k]).name.size ≤ 1048576 := by
        have := (hR.saga.ok _ (List.getElem_mem hjl)).1
        rw [← stepOf_eq hjl] at this
        omega
      have hnn : nameAt l s.done[k] = (stepOf l s.done[k]).name := rfl
      rw [hnn] at htk
      have c0 := hR.blk.cell 0
      simp at c0
      obtain ⟨j, hj⟩ : ∃ j, s.done[k] = j := ⟨_, rfl⟩
      rw [hj] at d1 e1 htk hzn
      simp only [hj] at hjl
      obtain ⟨nm, hnm⟩ : ∃ nm, (stepOf l j).name = nm := ⟨_, rfl⟩
      rw [hnm] at e1 htk hzn
      have HTK : Hid ((s.done.take (k + 1)).map (nameAt l) = (s.done.take k).map (nameAt l) ++ [nm]) := htk
      have hjl' : (j : Int) < (l.length : Int) := by omega
      have hnl : ((s.done.take k).map (nameAt l)).length ≤ 20 := by simp; omega
      have cc := implCloneT nm hzn wr
      have HBW : Hid (Below w.heap.size w wr) := hb
      clear hcell hst htk hnm hj hR hnn hb
      go_wp2_with (first
        | (go_at_call 55; go_must (refine cc.mono ?_; rintro e w1 ⟨rfl, hb1⟩; have hb2 := good_below HBW.out hb1; have hs2 := hb2.size))
        | (at_builtin; go_must (refine wpList_appendTxts rfl (.tmp 14) (.tmp 24) rfl w.heap.size (.slice na nn nc) ((s.done.take k).map (nameAt l)) rfl (OwnTxts.below (OwnTxts.below HOW.out hb1) ((Below.refl _ w1).alloc (Nat.le_refl _) _)) _ [nm] rfl (TxtsAt.newOf _ nm _ (by simp)) (by simp at hnl ⊢; omega) (by simp only [World.size_alloc]; omega) ?_; intro v9 w9 hown9 hB9 hgr9 hnil9; obtain ⟨a9, c9, e9, -⟩ := hown9.value; obtain ⟨n9, hn9⟩ : ∃ n9, ((s.done.take k).map (nameAt l) ++ [nm]).length = n9 := ⟨_, rfl⟩; rw [hn9] at e9; clear hn9; subst e9)))
      refine ⟨⟨k + 1, a9, n9, c9, rfl, rfl, by omega, ?_, (hb2.alloc hs2 _).trans hB9⟩, by simp [intOf]; omega⟩
      rw [HTK.out]; exact hown9
    · obtain rfl : k = s.done.length := by omega
      have hkn' : ¬ ((s.done.length : Int) < (s.done.length : Int)) := by omega
      have ho := HOW.out
      rw [List.take_length] at ho
      have HO2 : Hid (OwnTxts w.heap.size wr (.slice na nn nc) (s.done.map (nameAt l))) := ho
      clear ho HOW
      go_wp2_with fail
      go_ret
      exact ⟨⟨na, nn, nc, rfl, HO2.out⟩, hb⟩
end
end Go.Proofs.YtbpijollcjdkhaaDoor
