/-
  spec.l00Cut, l08Path: their walks. No statement of the seat is proved here.
-/
import Derived.Test.YtbkhkpdpaaphoaaDoorZ0
import Derived.Deep.Cut
namespace Go.Proofs.YtbkhkpdpaaphoaaDoor
open Go.ChangeShapes Go.WideShapes Go.ChangeAt Go.RowKit
set_option linter.unusedVariables false

def byteAt (t : ByteArray) (k : Nat) : Nat := if h : k < t.size then t[k].toNat else 0
/-- A text's parts at each byte g, up to a place: those that are whole, and where the next one begins. -/
def cutUp (t : ByteArray) (g : Nat) : Nat → List ByteArray × Nat
  | 0 => ([], 0)
  | k + 1 => if byteAt t k = g then ((cutUp t g k).1 ++ [t.extract (cutUp t g k).2 k], k + 1) else cutUp t g k
def cutF (t : ByteArray) (g : Nat) : List ByteArray := (cutUp t g t.size).1 ++ [t.extract (cutUp t g t.size).2 t.size]
theorem cutUp_le (t : ByteArray) (g : Nat) : ∀ k, (cutUp t g k).2 ≤ k ∧ (cutUp t g k).1.length ≤ k
  | 0 => ⟨Nat.le_refl _, Nat.le_refl _⟩
  | k + 1 => by
    have := cutUp_le t g k
    unfold cutUp
    split
    · exact ⟨Nat.le_refl _, by simp; omega⟩
    · exact ⟨by omega, by omega⟩
theorem cutF_len (t : ByteArray) (g : Nat) : (cutF t g).length ≤ t.size + 1 := by
  have := (cutUp_le t g t.size).2
  unfold cutF
  simp
  omega

set_option maxRecDepth 100000 in
set_option maxHeartbeats 2000000 in
theorem specCut (t : ByteArray) (c : Nat) (ht : t.size ≤ 100000) (w : World) :
    Calls Tryd.prog 9 #[.string t, .int .u8 (c : Int)] w fun e w' => (∃ v, e = .returned v ∧ OwnTxts w.heap.size w' v (cutF t c)) ∧ Below w.heap.size w w' := by
  have ht' : (t.size : Int) ≤ 100000 := by omega
  have HE : Hid (OwnTxts w.heap.size (w.alloc (.cells #[] 9)) (.slice (some ⟨w.heap.size, 0, none⟩) 0 0) []) := OwnTxts.empty w.heap.size w (Nat.le_refl _)
  go_enter Tryd.func9, Tryd.ntmps9
  go_wp2_with fail
  go_loopw [5, 6, 7] (fun i5 i6 i7 wr => ∃ (k f : Nat) (ls : List ByteArray), i7 = .int .i64 (k : Int) ∧ k ≤ t.size ∧ i6 = .int .i64 (f : Int) ∧ OwnTxts w.heap.size wr i5 ls ∧ cutUp t c k = (ls, f) ∧ Below w.heap.size w wr) (fun _ _ i7 _ => t.size - (intOf i7).toNat)
  case atStart => exact ⟨0, 0, [], rfl, by omega, rfl, HE.out, rfl, (Below.refl _ w).alloc (Nat.le_refl _) _⟩
  case round =>
    obtain ⟨k, f, ls, rfl, hk, rfl, hob, hcu, hb⟩ := hrel
    obtain ⟨a5, c5, h5, -⟩ := hob.value
    subst h5
    have hle := cutUp_le t c k
    rw [hcu] at hle
    dsimp only at hle
    have HCU : Hid (cutUp t c k = (ls, f)) := hcu
    have HOB : Hid (OwnTxts w.heap.size wr (.slice a5 ls.length c5) ls) := hob
    have hfk : (f : Int) ≤ (k : Int) := by omega
    have hkt : (k : Int) ≤ (t.size : Int) := by omega
    have hbs := hb.size
    clear hob hcu
    by_cases hkn : k < t.size
    · have hkn' : (k : Int) < (t.size : Int) := by omega
      have hba : byteAt t k = t[k].toNat := by unfold byteAt; rw [dif_pos hkn]
      obtain ⟨x, hx⟩ : ∃ x, t[k].toNat = x := ⟨_, rfl⟩
      rw [hx] at hba
      have HBA : Hid (byteAt t k = x) := hba
      clear hba
      by_cases hx46 : x = c
      · subst hx46
        go_wp2_with (at_builtin; go_must (refine wpList_appendTxts rfl (.tmp 20) (.tmp 25) rfl w.heap.size (.slice a5 ls.length c5) ls rfl (OwnTxts.below HOB.out ((Below.refl _ _).alloc (Nat.le_refl _) _)) _ [t.extract f k] rfl (TxtsAt.new wr (t.extract f k)) (by simp; omega) (by simp only [World.size_alloc]; omega) ?_; intro v9 w9 hown9 hB9 hgr9 hnil9))
        refine ⟨⟨k + 1, k + 1, ls ++ [t.extract f k], rfl, by omega, rfl, hown9, ?_, (hb.alloc hbs _).trans hB9⟩, by simp [intOf]; omega⟩
        unfold cutUp
        rw [HBA.out, if_pos rfl, HCU.out]
      · have hxb : ((x : Int) == (c : Int)) = false := by rw [beq_eq_false_iff_ne]; omega
        go_wp2_with fail
        refine ⟨⟨k + 1, f, ls, rfl, by omega, rfl, HOB.out, ?_, hb⟩, by simp [intOf]; omega⟩
        unfold cutUp
        rw [HBA.out, if_neg hx46, HCU.out]
    · obtain rfl : k = t.size := by omega
      have hkn' : ¬ ((t.size : Int) < (t.size : Int)) := by omega
      go_wp2_with (at_builtin; go_must (refine wpList_appendTxts rfl (.tmp 29) (.tmp 33) rfl w.heap.size (.slice a5 ls.length c5) ls rfl (OwnTxts.below HOB.out ((Below.refl _ _).alloc (Nat.le_refl _) _)) _ [t.extract f t.size] rfl (TxtsAt.new wr (t.extract f t.size)) (by simp; omega) (by simp only [World.size_alloc]; omega) ?_; intro v9 w9 hown9 hB9 hgr9 hnil9))
      go_ret
      refine ⟨⟨v9, rfl, ?_⟩, (hb.alloc hbs _).trans hB9⟩
      unfold cutF
      rw [HCU.out]
      exact hown9

end Go.Proofs.YtbkhkpdpaaphoaaDoor
