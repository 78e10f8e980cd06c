/-
  spec.l00Words: the words of a line. Lines and words: the library's cut and fields are the document's. No statement of the seat is proved here.
-/
import Derived.Test.YthopmdfichfhdaaGreatDoorH1
import Derived.Test.YthopmdfichfhdaaGreatDoorW0
import Derived.Lib.FieldsP
import Derived.Lib.IndexLaws
namespace Go.Proofs.YthopmdfichfhdaaGreatDoor
open Go.ChangeShapes Go.WideShapes Go.ChangeAt Go.RowKit
set_option linter.unusedVariables false

/-- The words that end ahead of a place, and where the next one may begin. -/
def wordsUp (t : ByteArray) : Nat → List ByteArray × Nat
  | 0 => ([], 0)
  | k + 1 => if byteAt t k = 32 then ((if (wordsUp t k).2 < k then (wordsUp t k).1 ++ [t.extract (wordsUp t k).2 k] else (wordsUp t k).1), k + 1) else wordsUp t k
def wordsF (t : ByteArray) : List ByteArray := if (wordsUp t t.size).2 < t.size then (wordsUp t t.size).1 ++ [t.extract (wordsUp t t.size).2 t.size] else (wordsUp t t.size).1
theorem wordsUp_le (t : ByteArray) : ∀ k, (wordsUp t k).2 ≤ k ∧ (wordsUp t k).1.length ≤ k
  | 0 => ⟨Nat.le_refl _, Nat.le_refl _⟩
  | k + 1 => by
    have := wordsUp_le t k
    unfold wordsUp
    split
    · refine ⟨Nat.le_refl _, ?_⟩
      dsimp only
      split
      · simp; omega
      · omega
    · exact ⟨by omega, by omega⟩
theorem wordsF_len (t : ByteArray) : (wordsF t).length ≤ t.size + 1 := by
  have := (wordsUp_le t t.size).2
  unfold wordsF
  split
  · simp; omega
  · omega

end Go.Proofs.YthopmdfichfhdaaGreatDoor

namespace Go.Proofs.YthopmdfichfhdaaGreatDoor
open Go.ChangeShapes Go.WideShapes Go.ChangeAt Go.RowKit
set_option linter.unusedVariables false
set_option linter.unusedSimpArgs false

theorem len_data (t : ByteArray) : t.data.toList.length = t.size := by rw [Array.length_toList]; rfl
theorem extract_all (t : ByteArray) : t.extract 0 t.size = t := by
  apply ByteArray.ext
  rw [ByteArray.data_extract]
  exact Array.extract_size
theorem wordsUp_succ (t : ByteArray) (k : Nat) : wordsUp t (k + 1) = if byteAt t k = 32 then ((if (wordsUp t k).2 < k then (wordsUp t k).1 ++ [t.extract (wordsUp t k).2 k] else (wordsUp t k).1), k + 1) else wordsUp t k := rfl
theorem cutUp_succ (t : ByteArray) (g k : Nat) : cutUp t g (k + 1) = if byteAt t k = g then ((cutUp t g k).1 ++ [t.extract (cutUp t g k).2 k], k + 1) else cutUp t g k := rfl
theorem byteAt_byt {t : ByteArray} {k : Nat} (h : k < t.size) : byteAt t k = byt t k := by
  unfold byteAt
  rw [dif_pos h, byt_eq]
theorem decN_low {n b0 b1 b2 b3 : Nat} (h : b0 < 128) : Lib.decodeN n b0 b1 b2 b3 = (b0, 1) := by
  unfold Lib.decodeN
  rw [if_pos h]
set_option maxHeartbeats 1000000 in
theorem decN_high {n b0 b1 b2 b3 : Nat} (h : ¬ b0 < 128) : 128 ≤ (Lib.decodeN n b0 b1 b2 b3).1 ∧ 1 ≤ (Lib.decodeN n b0 b1 b2 b3).2 ∧ (Lib.decodeN n b0 b1 b2 b3).2 ≤ 4 ∧ (1 < (Lib.decodeN n b0 b1 b2 b3).2 → 128 ≤ b1 ∧ 1 < n) ∧ (2 < (Lib.decodeN n b0 b1 b2 b3).2 → 128 ≤ b2 ∧ 2 < n) ∧ (3 < (Lib.decodeN n b0 b1 b2 b3).2 → 128 ≤ b3 ∧ 3 < n) := by
  unfold Lib.decodeN
  rw [if_neg h]
  repeat' split
  all_goals (dsimp only at *; refine ⟨by omega, by omega, by omega, ?_, ?_, ?_⟩ <;> intro _ <;> omega)
/-- No byte 32 within a rune that is not it. -/
theorem dec_skip {t : ByteArray} {p : Nat} (hp : p < t.size) (h : (Utf8.decode t p).1 ≠ 32) : ∀ j, j < (Utf8.decode t p).2 → byteAt t (p + j) ≠ 32 ∧ p + j < t.size := by
  rw [decode_byt] at h ⊢
  intro j hj
  by_cases hb : byt t p < 128
  · rw [decN_low hb] at h hj
    dsimp only at h hj
    obtain rfl : j = 0 := by omega
    exact ⟨by rw [byteAt_byt (by omega)]; exact h, by omega⟩
  · obtain ⟨h1, h2, h3, h4, h5, h6⟩ := decN_high (n := t.size - p) (b1 := byt t (p + 1)) (b2 := byt t (p + 2)) (b3 := byt t (p + 3)) hb
    rcases (by omega : j = 0 ∨ j = 1 ∨ j = 2 ∨ j = 3) with rfl | rfl | rfl | rfl
    · exact ⟨by rw [byteAt_byt (by omega)]; simp only [Nat.add_zero]; omega, by omega⟩
    · have := h4 (by omega)
      exact ⟨by rw [byteAt_byt (by omega)]; omega, by omega⟩
    · have := h5 (by omega)
      exact ⟨by rw [byteAt_byt (by omega)]; omega, by omega⟩
    · have := h6 (by omega)
      exact ⟨by rw [byteAt_byt (by omega)]; omega, by omega⟩
theorem dec_space {t : ByteArray} {p : Nat} (hp : p < t.size) (h : (Utf8.decode t p).1 = 32) : byteAt t p = 32 ∧ (Utf8.decode t p).2 = 1 := by
  rw [decode_byt] at h ⊢
  by_cases hb : byt t p < 128
  · rw [decN_low hb] at h ⊢
    exact ⟨by rw [byteAt_byt hp]; exact h, rfl⟩
  · have := (decN_high (n := t.size - p) (b1 := byt t (p + 1)) (b2 := byt t (p + 2)) (b3 := byt t (p + 3)) hb).1
    omega
theorem wordsUp_skip {t : ByteArray} {p : Nat} : ∀ n, (∀ j, j < n → byteAt t (p + j) ≠ 32) → wordsUp t (p + n) = wordsUp t p
  | 0, _ => rfl
  | n + 1, h => by
    rw [show p + (n + 1) = (p + n) + 1 from rfl, wordsUp_succ, if_neg (h n (by omega))]
    exact wordsUp_skip n (fun j hj => h j (by omega))
def isSp (x : Nat) : Bool := x == 32
theorem spans_words (t : ByteArray) : ∀ (f p : Nat) (st : Option Nat) (acc : List (Nat × Nat)), p ≤ t.size → t.size ≤ p + f → wordsUp t p = (acc.map (fun x => t.extract x.1 x.2), st.getD p) → (∀ a, st = some a → a < p) →
    ((Lib.closeSpans t (Lib.spansFromP isSp t f p st acc)).map fun x => t.extract x.1 x.2) = wordsF t
  | 0, p, st, acc, hp, hf, hw, ha => by
    obtain rfl : p = t.size := by omega
    unfold Lib.spansFromP wordsF
    rw [hw]
    cases st with
    | none => simp [Lib.closeSpans]
    | some a =>
      have := ha a rfl
      simp [Lib.closeSpans, this]
  | f + 1, p, st, acc, hp, hf, hw, ha => by
    unfold Lib.spansFromP
    by_cases hlt : p < t.size
    · rw [if_pos hlt]
      by_cases hs : (Utf8.decode t p).1 = 32
      · obtain ⟨hb, hw1⟩ := dec_space hlt hs
        rw [if_pos (by simp [isSp, hs]), hw1]
        have hup : wordsUp t (p + 1) = ((if st.getD p < p then acc.map (fun x => t.extract x.1 x.2) ++ [t.extract (st.getD p) p] else acc.map (fun x => t.extract x.1 x.2)), p + 1) := by
          rw [wordsUp_succ, if_pos hb, hw]
        cases st with
        | none =>
          refine spans_words t f (p + 1) none acc (by omega) (by omega) ?_ (fun a h => by cases h)
          rw [hup]; simp
        | some a =>
          have := ha a rfl
          refine spans_words t f (p + 1) none (acc ++ [(a, p)]) (by omega) (by omega) ?_ (fun a h => by cases h)
          rw [hup]; simp [this]
      · have hsk := dec_skip hlt hs
        have hw0 : 1 ≤ (Utf8.decode t p).2 := Lib.width_pos t p
        have hle : p + (Utf8.decode t p).2 ≤ t.size := by
          have := (hsk ((Utf8.decode t p).2 - 1) (by omega)).2
          omega
        have hup : wordsUp t (p + (Utf8.decode t p).2) = wordsUp t p := wordsUp_skip _ (fun j hj => (hsk j hj).1)
        rw [if_neg (by simp [isSp, hs])]
        cases st with
        | none =>
          refine spans_words t f _ (some p) acc hle (by omega) ?_ (fun a h => by cases h; omega)
          rw [hup, hw]; simp
        | some a =>
          have := ha a rfl
          refine spans_words t f _ (some a) acc hle (by omega) ?_ (fun b h => by cases h; omega)
          rw [hup, hw]; simp
    · rw [if_neg hlt]
      obtain rfl : p = t.size := by omega
      unfold wordsF
      rw [hw]
      cases st with
      | none => simp [Lib.closeSpans]
      | some a =>
        have := ha a rfl
        simp [Lib.closeSpans, this]
theorem fields_words (t : ByteArray) : Lib.goFieldsP isSp t = wordsF t := by
  unfold Lib.goFieldsP Lib.spansOfP
  exact spans_words t t.size 0 none [] (Nat.zero_le _) (by omega) rfl (fun a h => by cases h)
/-! ### Cuts -/
theorem cutUp_skip {t : ByteArray} {g p : Nat} : ∀ n, (∀ j, j < n → byteAt t (p + j) ≠ g) → cutUp t g (p + n) = cutUp t g p
  | 0, _ => rfl
  | n + 1, h => by
    rw [show p + (n + 1) = (p + n) + 1 from rfl, cutUp_succ, if_neg (h n (by omega))]
    exact cutUp_skip n (fun j hj => h j (by omega))
theorem byteAt_list (t : ByteArray) (k : Nat) (c : UInt8) (h : t.data.toList[k]? = some c) : byteAt t k = c.toNat ∧ k < t.size := by
  have hk : k < t.size := by
    have := (List.getElem?_eq_some_iff.1 h).1
    rwa [len_data] at this
  refine ⟨?_, hk⟩
  unfold byteAt
  rw [dif_pos hk]
  obtain ⟨h1, h2⟩ := List.getElem?_eq_some_iff.1 h
  rw [← h2]
  rfl
theorem byteAt_not (t : ByteArray) (k : Nat) (c : UInt8) (h : t.data.toList[k]? ≠ some c) (hk : k < t.size) : byteAt t k ≠ c.toNat := by
  intro e
  apply h
  unfold byteAt at e
  rw [dif_pos hk] at e
  have hl : k < t.data.toList.length := by rw [len_data]; exact hk
  rw [List.getElem?_eq_getElem hl]
  congr 1
  exact UInt8.toNat_inj.1 (by rw [← e]; rfl)
theorem extract_list (t : ByteArray) (p k : Nat) (hp : p ≤ t.size) : (t.extract p t.size).data.toList[k]? = t.data.toList[p + k]? := by
  have e : (t.extract p t.size).data.toList = (t.data.toList.drop p).take (t.size - p) := by
    rw [ByteArray.data_extract, Array.toList_extract, List.extract_eq_take_drop]
  rw [e, List.getElem?_take]
  split
  · rw [List.getElem?_drop]
  · rename_i h
    rw [List.getElem?_eq_none]
    rw [len_data]
    omega
/-- Where the rest of a text has no byte c. -/
theorem cut_none {t : ByteArray} {c : UInt8} {p : Nat} {ls : List ByteArray} (hp : p ≤ t.size) (hc : cutUp t c.toNat p = (ls, p)) (h : Lib.indexByte (t.extract p t.size).data.toList c = -1) : cutF t c.toNat = ls ++ [t.extract p t.size] := by
  have hn := Lib.indexByte_none h
  have hs : cutUp t c.toNat (p + (t.size - p)) = cutUp t c.toNat p := cutUp_skip _ (fun j hj => byteAt_not t _ c (by rw [← extract_list t p j hp]; exact hn j) (by omega))
  rw [show p + (t.size - p) = t.size by omega, hc] at hs
  unfold cutF
  rw [hs]
/-- Where the rest of a text has its next byte c at a place. -/
theorem cut_some {t : ByteArray} {c : UInt8} {p i : Nat} {ls : List ByteArray} (hp : p ≤ t.size) (hc : cutUp t c.toNat p = (ls, p)) (h : Lib.indexByte (t.extract p t.size).data.toList c = (i : Int)) : p + i < t.size ∧ cutUp t c.toNat (p + i + 1) = (ls ++ [t.extract p (p + i)], p + i + 1) := by
  obtain ⟨h1, h2⟩ := Lib.indexByte_some h
  rw [extract_list t p i hp] at h1
  obtain ⟨hb, hlt⟩ := byteAt_list t _ c h1
  have hs : cutUp t c.toNat (p + i) = cutUp t c.toNat p := cutUp_skip _ (fun j hj => byteAt_not t _ c (by rw [← extract_list t p j hp]; exact h2 j hj) (by omega))
  exact ⟨hlt, by rw [cutUp_succ, if_pos hb, hs, hc]⟩
theorem cutUp_pre (t : ByteArray) (g : Nat) : ∀ n p, ∃ ms, (cutUp t g (p + n)).1 = (cutUp t g p).1 ++ ms
  | 0, p => ⟨[], by simp⟩
  | n + 1, p => by
    obtain ⟨ms, h⟩ := cutUp_pre t g n p
    rw [show p + (n + 1) = (p + n) + 1 from rfl, cutUp_succ]
    split
    · exact ⟨ms ++ [t.extract (cutUp t g (p + n)).2 (p + n)], by simp only [h, List.append_assoc]⟩
    · exact ⟨ms, h⟩
/-- What has come is a beginning of all parts. -/
theorem cut_prefix {t : ByteArray} {g p : Nat} {ls : List ByteArray} (hp : p ≤ t.size) (hc : cutUp t g p = (ls, p)) : ls <+: cutF t g := by
  obtain ⟨ms, h⟩ := cutUp_pre t g (t.size - p) p
  rw [show p + (t.size - p) = t.size by omega, hc] at h
  exact ⟨ms ++ [t.extract (cutUp t g t.size).2 t.size], by unfold cutF; rw [h, List.append_assoc]⟩
/-- A line ahead of its remark. -/
def lineF (t : ByteArray) : ByteArray := (cutF t 35).getD 0 ⟨#[]⟩
theorem line_none {t : ByteArray} (h : Lib.indexByte t.data.toList 35 = -1) : lineF t = t := by
  have he := extract_all t
  have := cut_none (t := t) (c := 35) (p := 0) (ls := []) (Nat.zero_le _) rfl (by rw [he]; exact h)
  unfold lineF
  rw [show (35 : Nat) = (35 : UInt8).toNat from rfl, this, he]
  rfl
theorem line_some {t : ByteArray} {i : Nat} (h : Lib.indexByte t.data.toList 35 = (i : Int)) : lineF t = t.extract 0 i ∧ i < t.size := by
  have he := extract_all t
  obtain ⟨h1, h2⟩ := cut_some (t := t) (c := 35) (p := 0) (ls := []) (i := i) (Nat.zero_le _) rfl (by rw [he]; exact h)
  simp only [Nat.zero_add, List.nil_append] at h1 h2
  obtain ⟨ms, h3⟩ := cutUp_pre t 35 (t.size - (i + 1)) (i + 1)
  rw [show i + 1 + (t.size - (i + 1)) = t.size by omega] at h3
  have h2' : cutUp t 35 (i + 1) = ([t.extract 0 i], i + 1) := h2
  rw [h2'] at h3
  refine ⟨?_, h1⟩
  unfold lineF cutF
  rw [h3]
  rfl
end Go.Proofs.YthopmdfichfhdaaGreatDoor
