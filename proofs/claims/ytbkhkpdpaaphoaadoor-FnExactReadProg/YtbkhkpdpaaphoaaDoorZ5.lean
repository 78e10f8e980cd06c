/-
  Numbers: the contracts of impl.valueOf and numberOf. No statement of the seat is proved here.
-/
import Derived.Test.YtbkhkpdpaaphoaaDoorW0
namespace Go.Proofs.YtbkhkpdpaaphoaaDoor
open Go.ChangeShapes Go.WideShapes Go.ChangeAt Go.RowKit
set_option linter.unusedVariables false
set_option linter.unusedSimpArgs false

theorem iter_fresh (w : World) (t : ByteArray) (q : Nat) : (w.iter t q).heap[w.heap.size]? = some (.stringIter t q) := heap_alloc_last w _
theorem iterPos_of {w : World} {k : Nat} {s : ByteArray} {p : Nat} (hk : w.heap[k]? = some (.stringIter s p)) : w.iterPos k = p := by
  simp [World.iterPos, hk]
theorem decodeN_ascii (n b0 b1 b2 b3 : Nat) (h0 : b0 < 256) (h1 : b1 < 256) (h2 : b2 < 256) (h3 : b3 < 256) : (b0 < 128 ∧ Lib.decodeN n b0 b1 b2 b3 = (b0, 1)) ∨ (128 ≤ b0 ∧ 128 ≤ (Lib.decodeN n b0 b1 b2 b3).1) := by
  by_cases h : b0 < 128
  · exact .inl ⟨h, by unfold Lib.decodeN; rw [if_pos h]⟩
  · refine .inr ⟨by omega, ?_⟩
    unfold Lib.decodeN
    repeat' split
    all_goals dsimp only
    all_goals omega
theorem decode_ascii' (s : ByteArray) (i : Nat) : (byt s i < 128 ∧ Utf8.decode s i = (byt s i, 1)) ∨ (128 ≤ byt s i ∧ 128 ≤ (Utf8.decode s i).1) := by
  rw [decode_byt]; exact decodeN_ascii _ _ _ _ _ (byt_lt _ _) (byt_lt _ _) (byt_lt _ _) (byt_lt _ _)
theorem decode_low {s : ByteArray} {p : Nat} (h : byt s p < 128) : Utf8.decode s p = (byt s p, 1) := by
  rcases decode_ascii' s p with ⟨_, h2⟩ | ⟨h1, _⟩
  · exact h2
  · omega
set_option maxRecDepth 100000 in
set_option maxHeartbeats 1000000 in
theorem implValue (d : ByteArray) (h18 : d.size ≤ 18) (hd : ∀ i, i < d.size → 48 ≤ byt d i ∧ byt d i ≤ 57) (w : World) :
    Calls Tryd.prog 54 #[.string d] w fun e w' => e = .returned (.int .i64 (numOf d.data.toList : Int)) ∧ Below w.heap.size w w' := by
  have HA : Hid (numOf (d.data.toList.take d.size) = numOf d.data.toList) := by show _ = _; rw [List.take_of_length_le (by simp)]
  have HD : Hid (∀ i, i < d.size → 48 ≤ byt d i ∧ byt d i ≤ 57) := hd
  obtain ⟨N, hN⟩ : ∃ N, numOf d.data.toList = N := ⟨_, rfl⟩
  have HN : Hid (numOf d.data.toList = N) := hN
  rw [hN]
  clear hN hd
  go_enter Tryd.func54, Tryd.ntmps54
  go_wp2_with fail
  go_loopw [3] (fun x wr => ∃ k : Nat, k ≤ d.size ∧ x = .int .i64 ((numOf (d.data.toList.take k) : Nat) : Int) ∧ wr.heap[w.heap.size]? = some (.stringIter d k) ∧ Below w.heap.size w wr) (fun _ wr => d.size - wr.iterPos w.heap.size)
  case atStart => exact ⟨0, by omega, rfl, iter_fresh w d 0, (Below.refl _ w).alloc (Nat.le_refl _) _⟩
  case round =>
    obtain ⟨k, hk, rfl, hi, hB⟩ := hrel
    have hip := iterPos_of hi
    by_cases hkn : k < d.size
    · have hnx : ∀ ty, (Instr.next (.pointer (some ⟨w.heap.size, 0, none⟩)) true ty).run Tryd.prog wr = _ := fun ty => Lib.run_next_any_at wr w.heap.size d k ty hi hkn
      have hdk := HD.out k hkn
      rw [decode_low (by omega)] at hnx
      have hlt := numOf_lt d k (fun i hi => HD.out i (by omega)) hk
      have hsu := numOf_succ d k hkn
      have hpw : 10 ^ k ≤ 10 ^ 17 := Nat.pow_le_pow_right (by omega) (by omega)
      obtain ⟨c, hc⟩ : ∃ c, byt d k = c := ⟨_, rfl⟩
      obtain ⟨n, hn⟩ : ∃ n, numOf (d.data.toList.take k) = n := ⟨_, rfl⟩
      obtain ⟨m, hm⟩ : ∃ m, numOf (d.data.toList.take (k + 1)) = m := ⟨_, rfl⟩
      have HM : Hid (numOf (d.data.toList.take (k + 1)) = m) := hm
      rw [hc] at hnx hdk hsu
      rw [hn] at hlt hsu ⊢
      rw [hm] at hsu
      have hn17 : n < 100000000000000000 := by omega
      obtain ⟨wt, hwt⟩ : ∃ wt, wr.iterAt w.heap.size d (k + 1) = wt := ⟨_, rfl⟩
      have hiT : wt.heap[w.heap.size]? = some (.stringIter d (k + 1)) := by rw [← hwt]; exact Lib.iterAt_heap wr _ _ _ _ hi
      have hBT : Below w.heap.size w wt := by rw [← hwt]; exact Lib.below_iterAt hB (Nat.le_refl _) _ _
      simp only at hnx
      rw [hwt] at hnx
      clear hm hn hc hlt hpw hwt hi hB
      go_wp2
      go_roundw
      case rel => exact ⟨k + 1, by omega, by rw [HM.out, hsu]; congr 1; omega, hiT, hBT⟩
      case measure => rw [hip, iterPos_of hiT]; omega
    · have hnx : ∀ ty, (Instr.next (.pointer (some ⟨w.heap.size, 0, none⟩)) true ty).run Tryd.prog wr = _ := fun ty => Lib.run_next_end_at wr w.heap.size d k ty hi hkn
      have hNk : numOf (d.data.toList.take k) = N := by rw [show k = d.size by omega, HA.out, HN.out]
      rw [hNk]
      clear hi hNk
      go_wp2
      go_ret
      exact ⟨rfl, hB⟩
theorem digEnd_yes {d : ByteArray} (h : ∀ i, i < d.size → 48 ≤ byt d i ∧ byt d i ≤ 57) : ∀ n pos, pos + n = d.size → endOf isDig d pos = d.size
  | 0, pos, he => endOf_out (by omega)
  | n + 1, pos, he => by
    have hp : pos < d.size := by omega
    have hd := h pos hp
    have hl := decode_low (s := d) (p := pos) (by omega)
    rw [endOf_on hp (by rw [hl]; unfold isDig; simp; omega), hl]
    exact digEnd_yes h n (pos + 1) (by omega)
theorem digEnd_no {d : ByteArray} {k : Nat} (hk : k < d.size) (hn : ¬ (48 ≤ byt d k ∧ byt d k ≤ 57)) (h : ∀ i, i < k → 48 ≤ byt d i ∧ byt d i ≤ 57) : ∀ n pos, pos + n = k → endOf isDig d pos = k
  | 0, pos, he => by
    obtain rfl : pos = k := by omega
    refine endOf_stop hk ?_
    rcases decode_ascii' d pos with ⟨_, h2⟩ | ⟨h1, h2⟩
    · rw [h2]; unfold isDig; simp; omega
    · unfold isDig; simp; omega
  | n + 1, pos, he => by
    have hd := h pos (by omega)
    have hl := decode_low (s := d) (p := pos) (by omega)
    rw [endOf_on (by omega) (by rw [hl]; unfold isDig; simp; omega), hl]
    exact digEnd_no hk hn h n (pos + 1) (by omega)
/-- The first place that is no digit. -/
theorem first_no {d : ByteArray} : ∀ m, m ≤ d.size → (∀ i, i < m → 48 ≤ byt d i ∧ byt d i ≤ 57) ∨ ∃ k, k < m ∧ ¬ (48 ≤ byt d k ∧ byt d k ≤ 57) ∧ ∀ i, i < k → 48 ≤ byt d i ∧ byt d i ≤ 57
  | 0, _ => .inl (fun i hi => by omega)
  | m + 1, hm => by
    rcases first_no (d := d) m (by omega) with h | ⟨k, h1, h2, h3⟩
    · by_cases e : 48 ≤ byt d m ∧ byt d m ≤ 57
      · refine .inl (fun i hi => ?_)
        by_cases ei : i = m
        · subst ei; exact e
        · exact h i (by omega)
      · exact .inr ⟨m, by omega, e, h⟩
    · exact .inr ⟨k, by omega, h2, h3⟩
theorem digs_end (d : ByteArray) : (digsB d = true ∧ endOf isDig d 0 = d.size ∧ ∀ i, i < d.size → 48 ≤ byt d i ∧ byt d i ≤ 57) ∨ (digsB d = false ∧ endOf isDig d 0 < d.size) := by
  rcases first_no (d := d) d.size (Nat.le_refl _) with h | ⟨k, h1, h2, h3⟩
  · exact .inl ⟨digs_yes h, digEnd_yes h d.size 0 (by omega), h⟩
  · exact .inr ⟨digs_no h1 h2, by rw [digEnd_no h1 h2 h3 k 0 (by omega)]; exact h1⟩
end Go.Proofs.YtbkhkpdpaaphoaaDoor
