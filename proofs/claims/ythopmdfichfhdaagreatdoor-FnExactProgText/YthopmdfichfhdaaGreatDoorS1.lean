/-
  An instruction's words, as the document reads them, against the program's reading. No statement of the seat is proved here.
-/
import Derived.Test.YthopmdfichfhdaaGreatDoorI6
namespace Go.Proofs.YthopmdfichfhdaaGreatDoor
open Go.ChangeShapes Go.WideShapes Go.ChangeAt Go.RowKit
set_option linter.unusedVariables false
set_option linter.unusedSimpArgs false

theorem digs_all {d : ByteArray} (h : digsB d = true) : ∀ i, i < d.size → 48 ≤ byt d i ∧ byt d i ≤ 57 := by
  intro i hi
  unfold digsB at h
  rw [List.all_eq_true] at h
  simpa using h i (List.mem_range.2 hi)
theorem numOf_ge (d : ByteArray) (hd : ∀ i, i < d.size → 48 ≤ byt d i ∧ byt d i ≤ 57) (h0 : 49 ≤ byt d 0) : ∀ k, k < d.size → 10 ^ k ≤ numOf (d.data.toList.take (k + 1))
  | 0, hk => by
    rw [numOf_succ d 0 hk]
    omega
  | k + 1, hk => by
    rw [numOf_succ d (k + 1) hk, Nat.pow_succ]
    have := numOf_ge d hd h0 k (by omega)
    omega
theorem take_all (d : ByteArray) : d.data.toList.take d.size = d.data.toList := List.take_of_length_le (by rw [Array.length_toList]; exact Nat.le_refl _)
/-- A number's text: its size and its greatness. -/
theorem num_abs {t : ByteArray} (h : numB t = true) : 1 ≤ (absT t).size ∧ (absT t).size ≤ 18 ∧ numOf (absT t).data.toList < 10 ^ 18 ∧ ((absT t).size = 1 ∨ 10 ^ ((absT t).size - 1) ≤ numOf (absT t).data.toList) ∧ (negB t = true → 1 ≤ numOf (absT t).data.toList) := by
  unfold numB at h
  rw [Bool.and_eq_true] at h
  obtain ⟨h1, h2⟩ := h
  have hd := digs_all h2
  unfold headB at h1
  simp only [Bool.not_eq_true', Bool.or_eq_false_iff, Bool.and_eq_false_iff, decide_eq_false_iff_not] at h1
  obtain ⟨⟨h3, h4⟩, h5⟩ := h1
  have hl := numOf_lt (absT t) (absT t).size hd (Nat.le_refl _)
  rw [take_all] at hl
  have hp : 10 ^ (absT t).size ≤ 10 ^ 18 := Nat.pow_le_pow_right (by decide) (by omega)
  have hge : byt (absT t) 0 ≠ 48 → 10 ^ ((absT t).size - 1) ≤ numOf (absT t).data.toList := fun h6 => by
    have := numOf_ge (absT t) hd (by have := hd 0 (by omega); omega) ((absT t).size - 1) (by omega)
    rwa [show (absT t).size - 1 + 1 = (absT t).size by omega, take_all] at this
  refine ⟨by omega, by omega, by omega, ?_, fun hn => ?_⟩
  · by_cases h6 : byt (absT t) 0 = 48
    · rcases h5 with h5 | h5
      · exact absurd h6 h5
      · exact .inl (by omega)
    · exact .inr (hge h6)
  · rcases h5 with h5 | h5
    · have := hge h5
      have : 1 ≤ 10 ^ ((absT t).size - 1) := Nat.one_le_pow _ _ (by decide)
      omega
    · rw [hn] at h5
      simp at h5
theorem num_range (t : ByteArray) : rangeB (numV t) = true := by
  unfold rangeB numV
  by_cases h : numB t = true
  · rw [if_pos h]
    obtain ⟨_, _, h3, _⟩ := num_abs h
    obtain ⟨n, hn⟩ : ∃ n, numOf (absT t).data.toList = n := ⟨_, rfl⟩
    rw [hn] at h3 ⊢
    simp only [Nat.reducePow] at h3
    rw [Bool.and_eq_true, decide_eq_true_iff, decide_eq_true_iff]
    split <;> omega
  · rw [if_neg h]
    decide
theorem num_small {t : ByteArray} (h : numB t = true) (h0 : 0 ≤ numV t) : negB t = false ∧ (t.size = 1 ∨ 10 ^ (t.size - 1) ≤ (numV t).toNat) ∧ 1 ≤ t.size := by
  obtain ⟨h1, h2, h3, h4, h5⟩ := num_abs h
  unfold numV at h0 ⊢
  rw [if_pos h] at h0 ⊢
  cases hn : negB t
  · have ha : absT t = t := by unfold absT; rw [hn]; rfl
    rw [hn] at h0
    rw [ha] at h1 h4 ⊢
    refine ⟨rfl, ?_, h1⟩
    rcases h4 with h4 | h4
    · exact .inl h4
    · right
      simpa using h4
  · have := h5 hn
    rw [hn] at h0
    simp only [if_true] at h0
    omega
/-- What lies between two small bounds is told alike. -/
theorem small_rest {t : ByteArray} {c : Nat} {lo hi : Int} (h0 : 0 ≤ lo) (h9 : hi ≤ 9) : nbB t c lo hi = (decide (lo ≤ smallV t c) && decide (smallV t c ≤ hi)) ∧ (nbB t c lo hi = true → numV (restT t c) = smallV t c) := by
  unfold nbB smallV
  by_cases hb : begB t c = true
  · have hr : restT t c = t.extract 1 t.size := by unfold restT; rw [if_pos hb]
    rw [hr, hb]
    unfold begB at hb
    rw [Bool.and_eq_true, decide_eq_true_iff, decide_eq_true_iff] at hb
    obtain ⟨hb1, hb2⟩ := hb
    have hsz : (t.extract 1 t.size).size = t.size - 1 := by rw [ByteArray.size_extract]; omega
    by_cases hn : numB (t.extract 1 t.size) = true
    · by_cases hv : 0 ≤ numV (t.extract 1 t.size)
      · obtain ⟨_, h2, h1⟩ := num_small hn hv
        rw [hsz] at h2 h1
        by_cases h3 : t.size ≤ 3
        · have hs : smallB t c = true := by
            unfold smallB
            rw [decide_eq_true (show 2 ≤ t.size by omega), decide_eq_true h3, decide_eq_true hb2, hn, decide_eq_true hv]
            rfl
          rw [hs, hn]
          simp
        · have hs : smallB t c = false := by
            unfold smallB
            rw [decide_eq_false h3]
            simp
          have hbig : 9 < numV (t.extract 1 t.size) := by
            rcases h2 with h2 | h2
            · omega
            · have : 10 ^ 1 ≤ 10 ^ (t.size - 1 - 1) := Nat.pow_le_pow_right (by decide) (by omega)
              omega
          rw [hs, hn]
          have q1 : decide (numV (t.extract 1 t.size) ≤ hi) = false := decide_eq_false (by omega)
          have q2 : decide (lo ≤ -1) = false := decide_eq_false (by omega)
          rw [q1]
          simp [q2] <;> omega
      · have hs : smallB t c = false := by
          unfold smallB
          rw [decide_eq_false hv]
          simp
        have q1 : decide (lo ≤ numV (t.extract 1 t.size)) = false := decide_eq_false (by omega)
        have q2 : decide (lo ≤ -1) = false := decide_eq_false (by omega)
        rw [hs, q1]
        simp <;> omega
    · have hn' : numB (t.extract 1 t.size) = false := by simpa using hn
      have hs : smallB t c = false := by
        unfold smallB
        rw [hn']
        simp
      rw [hs, hn']
      simp <;> omega
  · have hb' : begB t c = false := by simpa using hb
    have hs : smallB t c = false := by
      unfold begB at hb'
      unfold smallB
      rw [Bool.and_eq_false_iff, decide_eq_false_iff_not, decide_eq_false_iff_not] at hb'
      rcases hb' with hb' | hb'
      · rw [decide_eq_false (show ¬ 2 ≤ t.size by omega)]; simp
      · rw [decide_eq_false hb']; simp
    rw [hs, hb']
    simp <;> omega
theorem reg_of (t : ByteArray) : isRegB t = nbB t 114 1 6 := by
  unfold isRegB
  exact (small_rest (t := t) (c := 114) (lo := 1) (hi := 6) (by decide) (by decide)).1.symm
theorem rv_vo (t : ByteArray) : rvR t = voR t ∧ rvN t = voN t ∧ rvB t = voB t := by
  unfold rvR voR rvN voN rvB voB
  rw [reg_of]
  refine ⟨?_, rfl, rfl⟩
  split
  · rename_i h
    exact ((small_rest (t := t) (c := 114) (lo := 1) (hi := 6) (by decide) (by decide)).2 h).symm
  · rfl
theorem vo_val (t : ByteArray) : valB (voR t) (voN t) = true ∧ rangeB (voN t) = true := by
  unfold voR voN
  cases h : nbB t 114 1 6
  · simp only [Bool.false_eq_true, if_false]
    exact ⟨by unfold valB; simp, num_range t⟩
  · simp only [if_true]
    obtain ⟨h1, h2⟩ := small_rest (t := t) (c := 114) (lo := 1) (hi := 6) (by decide) (by decide)
    have h3 := h2 h
    rw [h, eq_comm, Bool.and_eq_true, decide_eq_true_iff, decide_eq_true_iff] at h1
    rw [h3]
    refine ⟨?_, by decide⟩
    unfold valB
    rw [decide_eq_true h1.1, decide_eq_true h1.2]
    simp
theorem num_max (t : ByteArray) : numV t ≤ 9223372036854775807 := by
  have := num_range t
  unfold rangeB at this
  rw [Bool.and_eq_true, decide_eq_true_iff, decide_eq_true_iff] at this
  omega
/-! ### The document's reading -/
/-- What a field becomes, and whether it can be read. -/
def fsX (c : Nat) (t : ByteArray) (x : Ins) : Ins :=
  if c = 82 then { x with reg := smallV t 114 } else if c = 67 then { x with cell := smallV t 99 } else if c = 86 then { x with ar := rvR t, an := rvN t } else if c = 87 then { x with br := rvR t, bn := rvN t } else if c = 79 then { x with ord := idxV ordL t } else if c = 81 then { x with cnd := idxV cndL t } else { x with tgt := numV t }
def fsB (c : Nat) (t : ByteArray) : Bool := if c = 82 ∨ c = 67 ∨ c = 79 ∨ c = 81 then true else if c = 86 ∨ c = 87 then rvB t else numB t
def readS (f : ByteArray) (ws : List ByteArray) (op : Int) : Nat → Ins × Bool
  | 0 => ({ ins0 with op := op }, true)
  | j + 1 => (fsX (byt f j) (ws.getD (j + 1) ⟨#[]⟩) (readS f ws op j).1, (readS f ws op j).2 && fsB (byt f j) (ws.getD (j + 1) ⟨#[]⟩))
/-- An instruction as the document reads it, of the operation that its word names. -/
def insS (op : Int) (ws : List ByteArray) (n : Nat) : Ins × Bool := ((readS (formF op) ws op (formF op).size).1, (readS (formF op) ws op (formF op).size).2 && insB (readS (formF op) ws op (formF op).size).1 n)
theorem cO_eq (op o : Int) : cO true op o = ordB op o := rfl
theorem q_eq (t : ByteArray) : decide (0 < idxV cndL t) = cQ true (idxV cndL t) := by
  unfold cQ
  rcases idx_range (l := cndL) (t := t) with h | ⟨k, hk, h⟩
  · rw [h]; rfl
  · rw [h]
    have : cndL.length = 5 := rfl
    simp only [if_true]
    by_cases h0 : 0 < k
    · rw [decide_eq_true (show (0 : Int) < (k : Int) by omega), decide_eq_true (show (1 : Int) ≤ (k : Int) by omega), decide_eq_true (show (k : Int) ≤ 4 by omega)]; rfl
    · rw [decide_eq_false (show ¬ (0 : Int) < (k : Int) by omega), decide_eq_false (show ¬ (1 : Int) ≤ (k : Int) by omega)]; rfl
end Go.Proofs.YthopmdfichfhdaaGreatDoor
