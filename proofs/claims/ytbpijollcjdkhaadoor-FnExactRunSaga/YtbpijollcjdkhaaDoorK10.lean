/-
  What the document's l11Begin does. No statement of the seat is proved here.
-/
import Derived.Test.YtbpijollcjdkhaaDoorK8
import Derived.Deep.OwnRows
import Derived.Laws.OwnMore
namespace Go.Proofs.YtbpijollcjdkhaaDoor
open Go.ChangeShapes Go.WideShapes Go.ChangeAt Go.RowKit
set_option linter.unusedVariables false
set_option linter.unusedSimpArgs false

/-- A row of zeros is made. -/
theorem made_zeros (n : Nat) (hn : n ≤ 20) : ∃ zc : Array Value, IntsAt zc (List.replicate n 0) ∧ ∀ w, (Instr.makeSlice 26 (.int .i64 (n : Int)) (.int .i64 (n : Int))).run Tryd.prog w = .ok (.slice (some ⟨w.heap.size, 0, none⟩) n n) (w.alloc (.cells zc 3)) := by
  refine ⟨madeCells #[.int .i64 0] n, ⟨by simp [size_madeCells], fun i hi => ?_⟩, fun w => run_make_row' 26 3 (.int .i64 0) 8 Tryd.underlying26 (by kernel_rfl) rfl .i64 .i64 n (by omega) (by omega) w⟩
  have hi' : i < n := by simpa using hi
  rw [← Array.getElem?_toList, toList_madeCells_one, List.getElem?_replicate, if_pos hi', List.getElem_replicate]
/-- Three blocks are made. -/
theorem three (w : World) (zc cs : Array Value) : Blk ((((w.alloc (.cells zc 3)).alloc (.cells zc 3)).alloc (.cells cs 55)).drew) w.heap.size 3 zc ∧ Blk ((((w.alloc (.cells zc 3)).alloc (.cells zc 3)).alloc (.cells cs 55)).drew) (w.heap.size + 1) 3 zc ∧ Blk ((((w.alloc (.cells zc 3)).alloc (.cells zc 3)).alloc (.cells cs 55)).drew) (w.heap.size + 1 + 1) 55 cs ∧ Below w.heap.size w ((((w.alloc (.cells zc 3)).alloc (.cells zc 3)).alloc (.cells cs 55)).drew) := by
  have h0 : Blk (w.alloc (.cells zc 3)) w.heap.size 3 zc := heap_alloc_new w _
  have h1 := h0.below ((Below.refl _ _).alloc (Nat.le_refl _) (.cells zc 3))
  have h2 := h1.below ((Below.refl _ _).alloc (Nat.le_refl _) (.cells cs 55))
  exact ⟨h2, last3 w _ _ _, last3' w _ _ _, (bel3 w _ _ _).drew⟩
section
variable {S : Nat → Prop} {B : Nat} {l : List Step} {a : Option Addr} {cap : Nat} {w : World}
/-- A run that begins. -/
theorem RunS.start {wz : World} {g gi gt : Nat} {ci ct : Array Value} (h : SagaIn S w.heap.size w a cap l) (hb : Below w.heap.size w wz) (hg : Blk wz g 55 #[.slice a l.length cap, .slice (some ⟨gi, 0, none⟩) l.length l.length, .slice (some ⟨gt, 0, none⟩) l.length l.length, .slice none 0 0, .int .i64 0, .int .i64 1, .slice none 0 0, .slice none 0 0, .slice none 0 0])
    (hi : Blk wz gi 3 ci) (ht : Blk wz gt 3 ct) (hzi : IntsAt ci (List.replicate l.length 0)) (hzt : IntsAt ct (List.replicate l.length 0)) (hlow : w.heap.size ≤ g ∧ w.heap.size ≤ gi ∧ w.heap.size ≤ gt) (hne : gi ≠ gt) :
    RunS S w.heap.size l a cap g gi gt (.slice none 0 0) (.slice none 0 0) (.slice none 0 0) w wz (zeroS l) [] :=
  ⟨h.below hb (Nat.le_refl _), hg, ⟨ci, hi, hzi⟩, ⟨ct, ht, hzt⟩, OwnNums.nil _ _, OwnNums.nil _ _, OwnCmds.nil _ _, hlow, hne, ⟨by simp [Off, Value.ownBlock], by simp [Off, Value.ownBlock]⟩, ⟨by simp [Off, Value.ownBlock], by simp [Off, Value.ownBlock]⟩, .inl rfl, Ok.zero l, Nat.le_refl _, hb⟩
set_option maxRecDepth 100000 in
set_option maxHeartbeats 4000000 in
theorem specBegin (hcm : CommandC 46) (h : SagaIn S w.heap.size w a cap l) :
    Calls Tryd.prog 20 #[.slice a l.length cap] w fun e w' => ∃ g gi gt dv cv, e = .returned (.pointer (some ⟨g, 0, none⟩)) ∧ RunS S w.heap.size l a cap g gi gt dv (.slice none 0 0) cv w w' (beginS l) [] := by
  have hl : l.length ≤ 20 := h.len.2
  have hl' : (l.length : Int) ≤ 20 := by omega
  have HS : Hid (SagaIn S w.heap.size w a cap l) := h
  have HCM : Hid (CommandC 46) := hcm
  obtain ⟨zc, hzc, hmk⟩ := made_zeros l.length hl
  have HZC : Hid (IntsAt zc (List.replicate l.length 0)) := hzc
  clear h hcm hzc
  go_enter Tryd.func20, Tryd.ntmps20
  go_upto_region 1 with fail
  go_cut [3] from 4 to 12 (fun s3 wx => ∃ g gi gt, s3 = .pointer (some ⟨g, 0, none⟩) ∧ Blk wx g 55 #[.slice a l.length cap, .slice (some ⟨gi, 0, none⟩) l.length l.length, .slice (some ⟨gt, 0, none⟩) l.length l.length, .slice none 0 0, .int .i64 0, .int .i64 0, .slice none 0 0, .slice none 0 0, .slice none 0 0] ∧ Blk wx gi 3 zc ∧ Blk wx gt 3 zc ∧ (w.heap.size ≤ g ∧ w.heap.size ≤ gi ∧ w.heap.size ≤ gt) ∧ gi ≠ gt ∧ Below w.heap.size w wx)
  case first =>
    go_region
    · refine meet_then (by assumption) ?_
      go_meet
      exact ⟨_, _, _, rfl, (three w zc _).2.2.1, (three w zc _).1, (three w zc _).2.1, by omega, by omega, (three w zc _).2.2.2⟩
    · refine meet_then (by assumption) ?_
      go_meet
      exact ⟨_, _, _, rfl, (three w zc _).2.2.1, (three w zc _).2.1, (three w zc _).1, by omega, by omega, (three w zc _).2.2.2⟩
  case rest =>
    obtain ⟨g, gi, gt, rfl, hg, hgi, hgt, hlow, hne, hb⟩ := hcut
    obtain ⟨wA, hwA⟩ : ∃ wA, wA = wc := ⟨_, rfl⟩
    subst hwA
    have c5 := hg.cell 5
    have f5 := hg.fro 5
    simp at c5
    have n1 := Blk.apart hgi hg (by decide)
    have n2 := Blk.apart hgt hg (by decide)
    have H1 := RunS.start HS.out (hb.setCell (p := ⟨g, 5, none⟩) hlow.1 (.int .i64 1)) (hg.set 5 (.int .i64 1)) (hgi.other n1 5 _) (hgt.other n2 5 _) HZC.out HZC.out hlow hne
    have HH1 : Hid (RunS S w.heap.size l a cap g gi gt (.slice none 0 0) (.slice none 0 0) (.slice none 0 0) w (wA.setCell ⟨g, 5, none⟩ (.int .i64 1)) (zeroS l) []) := H1
    clear H1 hg hgi hgt hlow hne hb n1 n2 hmk
    go_upto_region 3 with fail
    obtain ⟨wB, hwB⟩ : ∃ wB, wA.setCell ⟨g, 5, none⟩ (.int .i64 1) = wB := ⟨_, rfl⟩
    rw [hwB] at HH1 ⊢
    clear hwB c5 f5
    have co := specFwd HCM.out HH1.out (by simp [zeroS]) rfl
    go_wp2_with (go_at_call 45; go_must (refine co.mono ?_; rintro e w5 ⟨rfl, cv5, H5⟩))
    go_ret
    exact ⟨g, gi, gt, _, cv5, rfl, H5⟩
end
end Go.Proofs.YtbpijollcjdkhaaDoor
