/-
  The contract of impl's scanner's pass. No statement of the seat is proved here.
-/
import Derived.Test.YtbfoijeboaebdaaDoorIter
namespace Go.Proofs.YtbfoijeboaebdaaDoor
open Go.ChangeShapes Go.WideShapes Go.ChangeAt Go.RowKit
set_option linter.unusedVariables false

theorem iter_fresh (w : World) (t : ByteArray) (q : Nat) : (w.iter t q).heap[w.heap.size]? = some (.stringIter t q) := heap_alloc_last w _
theorem iterPos_of {w : World} {k : Nat} {s : ByteArray} {p : Nat} (hk : w.heap[k]? = some (.stringIter s p)) : w.iterPos k = p := by
  simp [World.iterPos, hk]

set_option maxRecDepth 100000 in
set_option maxHeartbeats 2000000 in
theorem implPass {B g : Nat} {s : ByteArray} {p ln cl e : Nat} {l : List Tok} {v : Value} {w0 w : World} (hs : s.size ≤ 65536) (hp : p ≤ s.size) (hln : ln ≤ p + 1) (hcl : cl ≤ p + 1) (hal : Al s p e) (h : Im B g s p ln cl l v w0 w) :
    Calls Tryd.prog 41 #[.pointer (some ⟨g, 0, none⟩), .int .i64 e] w fun x w' => x = .returned (.tuple #[]) ∧ Im B g s e (lineTo s p e ln cl).1 (lineTo s p e ln cl).2 l v w0 w' := by
  have hes := hal.size hp
  have hpe := hal.le
  have c0 := h.blk.cell 0
  have c1 := h.blk.cell 1
  simp at c0 c1
  have hsz : (s.extract p e).size = e - p := by simp; omega
  have hpe' : (p : Int) ≤ (e : Int) := by omega
  have hes' : (e : Int) ≤ (s.size : Int) := by omega
  obtain ⟨X, hX⟩ : ∃ X, s.extract p e = X := ⟨_, rfl⟩
  have HX : Hid (s.extract p e = X) := hX
  have HA : Hid (Al s p e) := hal
  have HZ : Hid (X.size = e - p) := by rw [← hX]; exact hsz
  have HI : Hid (Im B g s p ln cl l v w0 w) := h
  have hBw : B ≤ w.heap.size := by have := h.blk.lt; have := h.ge; omega
  clear hal h hsz
  go_enter Tryd.func41, Tryd.ntmps41
  go_wp2_with fail
  refine wp_region_tail 10 (by kernel_rfl) (by kernel_rfl) ?_
  simp only [List.take_succ_cons, List.take_zero, List.drop_succ_cons, List.drop_zero]
  repeat (go_big_quiet_step (fail))
  refine wpQuiet_nil ?_
  go_wp2_with fail
  go_loopw [5] (fun _ wr => ∃ j ln1 cl1, wr.heap[w.heap.size]? = some (.stringIter X j) ∧ Im B g s p ln1 cl1 l v w0 wr ∧ p + j ≤ e ∧ Al s (p + j) e ∧ ln1 ≤ p + j + 1 ∧ cl1 ≤ p + j + 1 ∧ lineTo s (p + j) e ln1 cl1 = lineTo s p e ln cl) (fun _ wr => X.size - wr.iterPos w.heap.size)
  case atStart => exact ⟨0, ln, cl, iter_fresh w.drew X 0, (HI.out.drew).bel ((Below.refl _ _).alloc (Nat.le_refl _) _), by omega, HA, by omega, by omega, rfl⟩
  case round =>
    obtain ⟨j, ln1, cl1, hi, hr, hje, hal1, hln1, hcl1, hto⟩ := hrel
    have hip := iterPos_of hi
    have HTO : Hid (lineTo s (p + j) e ln1 cl1 = lineTo s p e ln cl) := hto
    have HAJ : Hid (Al s (p + j) e) := hal1
    clear hto hal1 HI
    by_cases hj : j < X.size
    · have hjz := HZ.out
      have hlt : p + j < e := by omega
      have hnx0 := HAJ.out.next hlt
      have hfit := HAJ.out.fit hlt
      have hdec := decode_sub s p e j hes hlt hfit
      rw [HX.out] at hdec
      have hto := HTO.out
      rw [lineTo_on hlt] at hto
      have hnx : ∀ ty, (Instr.next (.pointer (some ⟨w.heap.size, 0, none⟩)) true ty).run Tryd.prog wr = _ := fun ty => Lib.run_next_any_at wr w.heap.size X j ty hi hj
      rw [hdec] at hnx
      have hle := (decode_le s (p + j)).1
      have hdp := decode_pos s (p + j)
      have hal2 := hnx0.2
      obtain ⟨R, hR⟩ : ∃ R, (Utf8.decode s (p + j)).1 = R := ⟨_, rfl⟩
      obtain ⟨K, hK⟩ : ∃ K, (Utf8.decode s (p + j)).2 = K := ⟨_, rfl⟩
      rw [hR, hK] at hnx hto
      rw [hR] at hle
      rw [hK] at hfit hdp hal2
      rw [Nat.add_assoc] at hto hal2 hfit
      have HT2 : Hid (lineTo s (p + (j + K)) e (lineOn R ln1) (colOn R cl1) = lineTo s p e ln cl) := hto
      have HA2 : Hid (Al s (p + (j + K)) e) := hal2
      clear hR hK hdec hnx0 HTO HAJ hto hal2 hjz
      obtain ⟨wt, hwt⟩ : ∃ wt, wr.iterAt w.heap.size X (j + K) = wt := ⟨_, rfl⟩
      have ht : Im B g s p ln1 cl1 l v w0 wt := by rw [← hwt]; exact hr.iterAt hi hBw _
      have hiT : wt.heap[w.heap.size]? = some (.stringIter X (j + K)) := by rw [← hwt]; exact Lib.iterAt_heap wr _ _ _ _ hi
      have hne := ht.blk.ne hiT
      rw [hwt] at hnx
      have d2 := ht.blk.cell 2
      have d3 := ht.blk.cell 3
      have f2 := ht.blk.fro 2
      have f3 := ht.blk.fro 3
      simp at d2 d3
      have hle' : (R : Int) ≤ 1114111 := by omega
      clear hwt hr hi
      by_cases h10 : R = 10
      · subst h10
        have H := (((ht.set3 (cl1 + 1)).set2 (ln1 + 1)).set3 1)
        have hiF := iter_set (iter_set (iter_set hiT g 3 hne (.int .i64 ((cl1 + 1 : Nat) : Int))) g 2 hne (.int .i64 ((ln1 + 1 : Nat) : Int))) g 3 hne (.int .i64 ((1 : Nat) : Int))
        clear ht hiT hne
        go_wp2
        go_roundw
        case rel => exact ⟨j + K, ln1 + 1, 1, hiF, H, by omega, HA2, by omega, by omega, HT2⟩
        case measure => rw [hip]; exact Nat.lt_of_le_of_lt (Nat.le_of_eq (congrArg (X.size - ·) (iterPos_of hiF))) (by show X.size - (j + K) < X.size - j; omega)
      · have q10 : ((R : Int) == 10) = false := by rw [beq_eq_false_iff_ne]; omega
        have hlo : lineOn R ln1 = ln1 := by unfold lineOn; rw [if_neg h10]
        have hco : colOn R cl1 = cl1 + 1 := by unfold colOn; rw [if_neg h10]
        have ht2 := HT2.out
        rw [hlo, hco] at ht2
        have HT3 : Hid (lineTo s (p + (j + K)) e ln1 (cl1 + 1) = lineTo s p e ln cl) := ht2
        have H := ht.set3 (cl1 + 1)
        have hiF := iter_set hiT g 3 hne (.int .i64 ((cl1 + 1 : Nat) : Int))
        clear ht hiT hne ht2 hlo hco HT2
        go_wp2
        go_roundw
        case rel => exact ⟨j + K, ln1, cl1 + 1, hiF, H, by omega, HA2, by omega, by omega, HT3⟩
        case measure => rw [hip]; exact Nat.lt_of_le_of_lt (Nat.le_of_eq (congrArg (X.size - ·) (iterPos_of hiF))) (by show X.size - (j + K) < X.size - j; omega)
    · have hnx : ∀ ty, (Instr.next (.pointer (some ⟨w.heap.size, 0, none⟩)) true ty).run Tryd.prog wr = _ := fun ty => Lib.run_next_end_at wr w.heap.size X j ty hi hj
      have hjz := HZ.out
      have hlt : ¬ p + j < e := by omega
      have hto := HTO.out
      rw [lineTo_out hlt] at hto
      have f1 := hr.blk.fro 1
      have d1 := hr.blk.cell 1
      simp at d1
      have H := hr.set1 e
      have HTO2 : Hid ((ln1, cl1) = lineTo s p e ln cl) := hto
      clear hr hi HTO HAJ hto hjz
      go_wp2
      go_end0
      refine ⟨rfl, ?_⟩
      rw [← HTO2.out]
      exact H
end Go.Proofs.YtbfoijeboaebdaaDoor
