/-
  spec.l00Words: the words of a line. No statement of the seat is proved here.
-/
import Derived.Test.YtbkhkpdpaaphoaaDoorH1
namespace Go.Proofs.YtbkhkpdpaaphoaaDoor
open Go.ChangeShapes Go.WideShapes Go.ChangeAt Go.RowKit
set_option linter.unusedVariables false

/-- The words that end ahead of a place, and where the next one may begin. -/
def wordsUp (t : ByteArray) : Nat → List ByteArray × Nat
  | 0 => ([], 0)
  | k + 1 => if byteAt t k = 32 then ((if (wordsUp t k).2 < k then (wordsUp t k).1 ++ [t.extract (wordsUp t k).2 k] else (wordsUp t k).1), k + 1) else wordsUp t k
def wordsF (t : ByteArray) : List ByteArray := if (wordsUp t t.size).2 < t.size then (wordsUp t t.size).1 ++ [t.extract (wordsUp t t.size).2 t.size] else (wordsUp t t.size).1
theorem wordsUp_le (t : ByteArray) : ∀ k, (wordsUp t k).2 ≤ k ∧ (wordsUp t k).1.length ≤ k
  | 0 => ⟨Nat.le_refl _, Nat.le_refl _⟩
  | k + 1 => by
    have := wordsUp_le t k
    unfold wordsUp
    split
    · refine ⟨Nat.le_refl _, ?_⟩
      dsimp only
      split
      · simp; omega
      · omega
    · exact ⟨by omega, by omega⟩
theorem wordsF_len (t : ByteArray) : (wordsF t).length ≤ t.size + 1 := by
  have := (wordsUp_le t t.size).2
  unfold wordsF
  split
  · simp; omega
  · omega

set_option maxRecDepth 100000 in
set_option maxHeartbeats 2000000 in
theorem specWords (t : ByteArray) (ht : t.size ≤ 100000) (w : World) :
    Calls Tryd.prog 10 #[.string t] w fun e w' => (∃ v, e = .returned v ∧ OwnTxts w.heap.size w' v (wordsF t)) ∧ Below w.heap.size w w' := by
  have ht' : (t.size : Int) ≤ 100000 := by omega
  have HE : Hid (OwnTxts w.heap.size (w.alloc (.cells #[] 9)) (.slice (some ⟨w.heap.size, 0, none⟩) 0 0) []) := OwnTxts.empty w.heap.size w (Nat.le_refl _)
  go_enter Tryd.func10, Tryd.ntmps10
  go_wp2_with fail
  go_loopw [3, 4, 5] (fun i3 i4 i5 wr => ∃ (k f : Nat) (ls : List ByteArray), i5 = .int .i64 (k : Int) ∧ k ≤ t.size + 1 ∧ i4 = .int .i64 (f : Int) ∧ f ≤ k ∧ ls.length ≤ k ∧ OwnTxts w.heap.size wr i3 ls ∧ (k ≤ t.size → wordsUp t k = (ls, f)) ∧ (k = t.size + 1 → ls = wordsF t) ∧ Below w.heap.size w wr) (fun _ _ i5 _ => t.size + 1 - (intOf i5).toNat)
  case atStart => exact ⟨0, 0, [], rfl, by omega, rfl, by omega, by simp, HE.out, fun _ => rfl, fun h => by omega, (Below.refl _ w).alloc (Nat.le_refl _) _⟩
  case round =>
    obtain ⟨k, f, ls, rfl, hk, rfl, hfk, hlk, hob, hw1, hw2, hb⟩ := hrel
    obtain ⟨a3, c3, h3, -⟩ := hob.value
    subst h3
    have HW1 : Hid (k ≤ t.size → wordsUp t k = (ls, f)) := hw1
    have HW2 : Hid (k = t.size + 1 → ls = wordsF t) := hw2
    have HOB : Hid (OwnTxts w.heap.size wr (.slice a3 ls.length c3) ls) := hob
    have hfk' : (f : Int) ≤ (k : Int) := by omega
    have hbs := hb.size
    clear hob hw1 hw2
    by_cases hkn : k < t.size
    · have hkn' : (k : Int) < (t.size : Int) := by omega
      have hkle : (k : Int) ≤ (t.size : Int) := by omega
      have hne : ((k : Int) == (t.size : Int)) = false := by rw [beq_eq_false_iff_ne]; omega
      have hba : byteAt t k = t[k].toNat := by unfold byteAt; rw [dif_pos hkn]
      have hup := HW1.out (by omega)
      have HUP : Hid (wordsUp t k = (ls, f)) := hup
      obtain ⟨x, hx⟩ : ∃ x, t[k].toNat = x := ⟨_, rfl⟩
      rw [hx] at hba
      have HBA : Hid (byteAt t k = x) := hba
      clear hba hup
      by_cases hx32 : x = 32
      · subst hx32
        by_cases hff : f < k
        · have hff' : (f : Int) < (k : Int) := by omega
          go_wp2_with (at_builtin; go_must (refine wpList_appendTxts rfl (.tmp 26) (.tmp 31) rfl w.heap.size (.slice a3 ls.length c3) ls rfl (OwnTxts.below HOB.out ((Below.refl _ _).alloc (Nat.le_refl _) _)) _ [t.extract f k] rfl (TxtsAt.new wr (t.extract f k)) (by simp; omega) (by simp only [World.size_alloc]; omega) ?_; intro v9 w9 hown9 hB9 hgr9 hnil9))
          refine ⟨⟨k + 1, k + 1, ls ++ [t.extract f k], rfl, by omega, rfl, by omega, by (simp <;> omega), hown9, fun _ => ?_, fun h => by omega, (hb.alloc hbs _).trans hB9⟩, by (simp [intOf] <;> omega)⟩
          unfold wordsUp
          rw [HBA.out, if_pos rfl, HUP.out]
          dsimp only
          rw [if_pos hff]
        · have hff' : ¬ ((f : Int) < (k : Int)) := by omega
          go_wp2_with fail
          refine ⟨⟨k + 1, k + 1, ls, rfl, by omega, rfl, by omega, by omega, HOB.out, fun _ => ?_, fun h => by omega, hb⟩, by (simp [intOf] <;> omega)⟩
          unfold wordsUp
          rw [HBA.out, if_pos rfl, HUP.out]
          dsimp only
          rw [if_neg hff]
      · have hxb : ((x : Int) == 32) = false := by rw [beq_eq_false_iff_ne]; omega
        go_wp2_with fail
        refine ⟨⟨k + 1, f, ls, rfl, by omega, rfl, by omega, by omega, HOB.out, fun _ => ?_, fun h => by omega, hb⟩, by (simp [intOf] <;> omega)⟩
        unfold wordsUp
        rw [HBA.out, if_neg hx32, HUP.out]
    · by_cases hke : k = t.size
      · subst hke
        have hup := HW1.out (Nat.le_refl _)
        have HUP : Hid (wordsUp t t.size = (ls, f)) := hup
        clear hup
        by_cases hff : f < t.size
        · have hff' : (f : Int) < (t.size : Int) := by omega
          go_wp2_with (at_builtin; go_must (refine wpList_appendTxts rfl (.tmp 26) (.tmp 31) rfl w.heap.size (.slice a3 ls.length c3) ls rfl (OwnTxts.below HOB.out ((Below.refl _ _).alloc (Nat.le_refl _) _)) _ [t.extract f t.size] rfl (TxtsAt.new wr (t.extract f t.size)) (by simp; omega) (by simp only [World.size_alloc]; omega) ?_; intro v9 w9 hown9 hB9 hgr9 hnil9))
          refine ⟨⟨t.size + 1, t.size + 1, ls ++ [t.extract f t.size], rfl, by omega, rfl, by omega, by (simp <;> omega), hown9, fun h => by omega, fun _ => ?_, (hb.alloc hbs _).trans hB9⟩, by (simp [intOf] <;> omega)⟩
          unfold wordsF
          rw [HUP.out]
          dsimp only
          rw [if_pos hff]
        · have hff' : ¬ ((f : Int) < (t.size : Int)) := by omega
          go_wp2_with fail
          refine ⟨⟨t.size + 1, t.size + 1, ls, rfl, by omega, rfl, by omega, by omega, HOB.out, fun h => by omega, fun _ => ?_, hb⟩, by (simp [intOf] <;> omega)⟩
          unfold wordsF
          rw [HUP.out]
          dsimp only
          rw [if_neg hff]
      · obtain rfl : k = t.size + 1 := by omega
        have hkn' : ¬ (((t.size + 1 : Nat) : Int) ≤ (t.size : Int)) := by omega
        have hls := HW2.out rfl
        go_wp2_with fail
        go_ret
        exact ⟨⟨_, rfl, by rw [← hls]; exact HOB.out⟩, hb⟩
end Go.Proofs.YtbkhkpdpaaphoaaDoor
