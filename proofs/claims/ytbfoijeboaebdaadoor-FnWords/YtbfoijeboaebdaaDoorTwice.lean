/-
  Plain data: what is folded stays when it is folded again. No statement of the seat is proved here.
-/
import Derived.Test.YtbfoijeboaebdaaDoorBack
import Derived.Test.YtbfoijeboaebdaaDoorFoldSpec
namespace Go.Proofs.YtbfoijeboaebdaaDoor
open Go.ChangeShapes Go.WideShapes Go.ChangeAt Go.RowKit
set_option linter.unusedVariables false

theorem dec_cls (n b0 b1 b2 b3 c1 c2 c3 : Nat) (h1 : c1 = b1 ∨ (¬ c1 / 64 = 2 ∧ ¬ b1 / 64 = 2)) (h2 : b1 / 64 = 2 → 1 < n → c2 = b2 ∨ (¬ c2 / 64 = 2 ∧ ¬ b2 / 64 = 2)) (h3 : b1 / 64 = 2 → 1 < n → b2 / 64 = 2 → 2 < n → c3 = b3 ∨ (¬ c3 / 64 = 2 ∧ ¬ b3 / 64 = 2)) :
    Lib.decodeN n b0 c1 c2 c3 = Lib.decodeN n b0 b1 b2 b3 := by
  unfold Lib.decodeN
  by_cases a0 : b0 < 128
  · rw [if_pos a0, if_pos a0]
  rw [if_neg a0, if_neg a0]
  rcases h1 with rfl | ⟨h1, h1'⟩
  · by_cases k1 : 1 < n ∧ c1 / 64 = 2
    · rcases h2 k1.2 k1.1 with rfl | ⟨h2, h2'⟩
      · by_cases k2 : 2 < n ∧ c2 / 64 = 2
        · rcases h3 k1.2 k1.1 k2.2 k2.1 with rfl | ⟨h3, h3'⟩
          · rfl
          · by_cases a1 : b0 / 32 = 6 ∧ (1 < n ∧ c1 / 64 = 2)
            · simp only [if_pos a1]
            · by_cases a2 : b0 / 16 = 14 ∧ (1 < n ∧ c1 / 64 = 2) ∧ (2 < n ∧ c2 / 64 = 2)
              · simp only [if_neg a1, if_pos a2]
              · simp only [if_neg a1, if_neg a2]
                repeat rw [if_neg (by omega)]
        · by_cases a1 : b0 / 32 = 6 ∧ (1 < n ∧ c1 / 64 = 2)
          · simp only [if_pos a1]
          · simp only [if_neg a1]
            repeat rw [if_neg (by omega)]
      · by_cases a1 : b0 / 32 = 6 ∧ (1 < n ∧ c1 / 64 = 2)
        · simp only [if_pos a1]
        · simp only [if_neg a1]
          repeat rw [if_neg (by omega)]
    · repeat rw [if_neg (by omega)]
  · repeat rw [if_neg (by omega)]

theorem cont_wrong {s : ByteArray} {i : Nat} (h : byt s i / 64 = 2) : Utf8.decode s i = (65533, 1) := by
  rw [decode_byt]
  exact dec_none (.inl (by omega)) (byt_lt _ _) (byt_lt _ _) (byt_lt _ _) (byt_lt _ _)
theorem first_byte {s F : ByteArray} {i : Nat} (hi : i < s.size) (hat : At F i (foldFrom s i)) : byt F i = byt s i ∨ (¬ byt F i / 64 = 2 ∧ ¬ byt s i / 64 = 2) := by
  rw [foldFrom_on hi] at hat
  have hp := hat.left
  have hlen := foldPiece_length s i hi
  have hpos := (decode_le s i).2.1
  unfold foldPiece at hp hlen
  by_cases hc : isCap ((Utf8.decode s i).1 : Int) = true
  · rw [if_pos hc] at hp
    have h1 := cap_small hc
    right
    have h2 := decode_len s i (by omega)
    have hs : ¬ byt s i / 64 = 2 := fun h => by
      have := cont_wrong h
      rw [this] at h1
      simp at h1
    refine ⟨?_, hs⟩
    unfold enc2 at hp
    by_cases h3 : (Utf8.decode s i).1 + 32 < 128
    · rw [if_pos h3] at hp
      have := at_byte hp (j := 0) (n := (Utf8.decode s i).1 + 32) (by omega) rfl
      simp only [Nat.add_zero] at this
      omega
    · rw [if_neg h3] at hp
      have := at_byte hp (j := 0) (n := 192 + ((Utf8.decode s i).1 + 32) / 64) (by omega) rfl
      simp only [Nat.add_zero] at this
      omega
  · rw [if_neg hc, ext_take] at hp
    left
    rw [drop_on s i hi] at hp
    have := at_byte hp (j := 0) (n := byt s i) (byt_lt _ _) (by
      obtain ⟨k, hk⟩ : ∃ k, (Utf8.decode s i).2 = k + 1 := ⟨(Utf8.decode s i).2 - 1, by omega⟩
      rw [hk]; rfl)
    simpa using this.2

theorem byt_out (s : ByteArray) (i : Nat) (h : ¬ i < s.size) : byt s i = 0 := by
  unfold byt
  have : s.get! i = 0 := by
    have h' : ¬ i < s.data.size := h
    show s.data[i]! = 0
    rw [getElem!_neg s.data i h']
    rfl
  rw [this]; rfl

theorem fold_step {s F : ByteArray} {i : Nat} (hi : i < s.size) (hat : At F i (foldFrom s i)) : At F (i + (Utf8.decode s i).2) (foldFrom s (i + (Utf8.decode s i).2)) := by
  rw [foldFrom_on hi] at hat
  have := hat.right
  rwa [foldPiece_length s i hi] at this

theorem fold_decode {s F : ByteArray} (hsz : F.size = s.size) {i : Nat} (hi : i < s.size) (hat : At F i (foldFrom s i)) :
    isCap ((Utf8.decode F i).1 : Int) = false ∧ (Utf8.decode F i).2 = (Utf8.decode s i).2 := by
  have hat0 := hat
  rw [foldFrom_on hi] at hat
  have hp := hat.left
  unfold foldPiece at hp
  by_cases hc : isCap ((Utf8.decode s i).1 : Int) = true
  · rw [if_pos hc] at hp
    have h1 := cap_small hc
    have h2 := decode_len s i (by omega)
    have hR : Utf8.decode F i = ((Utf8.decode s i).1 + 32, (Utf8.decode s i).2) := by
      rw [h2]
      unfold enc2 at hp
      by_cases h3 : (Utf8.decode s i).1 + 32 < 128
      · rw [if_pos h3] at hp
        have := (at_ascii hp (n := (Utf8.decode s i).1 + 32) h3 rfl).2
        rw [this, if_pos (h1.2.1 h3)]
      · rw [if_neg h3] at hp
        have e0 := at_byte hp (j := 0) (n := 192 + ((Utf8.decode s i).1 + 32) / 64) (by omega) rfl
        have e1 := at_byte hp (j := 1) (n := 128 + ((Utf8.decode s i).1 + 32) % 64) (by omega) rfl
        simp only [Nat.add_zero] at e0
        rw [if_neg (fun h => h3 (h1.2.2 h)), decode_byt, e0.2, e1.2]
        unfold Lib.decodeN
        rw [if_neg (by omega), if_pos (by omega), if_pos (by omega)]
        congr 1
        omega
    rw [hR]
    refine ⟨?_, rfl⟩
    rcases cap_ways ((Utf8.decode s i).1 : Int) with ⟨_, h⟩ | ⟨h, _⟩
    · simp [isCap]; omega
    · rw [h] at hc; simp at hc
  · have hcf : isCap ((Utf8.decode s i).1 : Int) = false := by simpa using hc
    rw [if_neg hc, ext_take] at hp
    have hd : Utf8.decode F i = Utf8.decode s i := by
      cases hw : wrongB s i
      · exact decode_same hi hw hp
      · have hw1 : (Utf8.decode s i).2 = 1 := by unfold wrongB at hw; simp at hw; exact hw.2
        have s1 := fold_step hi hat0
        rw [hw1] at s1
        have hb0 : byt F i = byt s i := by
          rw [hw1, drop_on s i hi] at hp
          have := at_byte hp (j := 0) (n := byt s i) (byt_lt _ _) rfl
          simpa using this.2
        have rel : ∀ j, At F (i + j) (foldFrom s (i + j)) → byt F (i + j) = byt s (i + j) ∨ (¬ byt F (i + j) / 64 = 2 ∧ ¬ byt s (i + j) / 64 = 2) := fun j h => by
          by_cases hj : i + j < s.size
          · exact first_byte hj h
          · left; rw [byt_out s _ hj, byt_out F _ (by omega)]
        have nxt : ∀ j, At F (i + j) (foldFrom s (i + j)) → byt s (i + j) / 64 = 2 → i + j < s.size → At F (i + (j + 1)) (foldFrom s (i + (j + 1))) := fun j h hb hj => by
          have := fold_step hj h
          rw [cont_wrong hb] at this
          exact this
        rw [decode_byt F, decode_byt s, hb0, hsz]
        exact dec_cls _ _ _ _ _ _ _ _ (rel 1 s1) (fun hb hn => rel 2 (nxt 1 s1 hb (by omega))) (fun hb hn hb2 hn2 => rel 3 (nxt 2 (nxt 1 s1 hb (by omega)) hb2 (by omega)))
    rw [hd]
    exact ⟨hcf, rfl⟩

theorem fold_again {s F : ByteArray} (hsz : F.size = s.size) : ∀ (k i : Nat), s.size - i = k → At F i (foldFrom s i) → foldFrom F i = foldFrom s i := by
  intro k
  induction k using Nat.strongRecOn with
  | _ k ih =>
    intro i hk hat
    by_cases hi : i < s.size
    · have hpos := (decode_le s i).2.1
      have hd := fold_decode hsz hi hat
      have hs := fold_step hi hat
      have hrec := ih (s.size - (i + (Utf8.decode s i).2)) (by omega) _ rfl hs
      have hlen := foldPiece_length s i hi
      rw [foldFrom_on hi] at hat
      have hp := hat.left
      have h1 : foldPiece F i = (F.data.toList.drop i).take (Utf8.decode s i).2 := by
        unfold foldPiece
        rw [if_neg (by rw [hd.1]; simp), ext_take, hd.2]
      have hpp : foldPiece F i = foldPiece s i := by
        rw [h1]
        apply List.ext_getElem?
        intro j
        by_cases hj : j < (Utf8.decode s i).2
        · have hx := hp j (by omega)
          rw [List.getElem?_take, if_pos hj, List.getElem?_drop, byt_of F _ hx.1, hx.2]
          rw [List.getElem?_eq_getElem (by omega)]
          congr 1
          unfold b8
          simp
        · rw [List.getElem?_eq_none (by simp only [List.length_take]; omega), List.getElem?_eq_none (by omega)]
      rw [foldFrom_on (s := F) (by omega), foldFrom_on hi, hd.2, hrec, hpp]
    · rw [foldFrom_out hi, foldFrom_out (by omega)]

/-- What is folded stays when it is folded again. -/
theorem fold_fold (s : ByteArray) (h : s.size ≤ 65536) : foldOf (foldOf s) = foldOf s := by
  have hF : foldOf s = ⟨(foldFrom s 0).toArray⟩ := by unfold foldOf; rw [if_neg (by omega)]
  have hsz : (foldOf s).size = s.size := by
    rw [hF]
    show (foldFrom s 0).toArray.size = _
    rw [List.size_toArray, foldFrom_length s 0 (by omega)]
    omega
  have hat : At (foldOf s) 0 (foldFrom s 0) := by
    have := At.mk_list [] (foldFrom s 0) []
    simp only [List.nil_append, List.append_nil, List.length_nil] at this
    rw [hF]; exact this
  have hag := fold_again hsz _ 0 rfl hat
  have h2 : foldOf (foldOf s) = ⟨(foldFrom (foldOf s) 0).toArray⟩ := by
    conv => lhs; rw [foldOf]
    rw [if_neg (by omega)]
  rw [h2, hag, ← hF]
end Go.Proofs.YtbfoijeboaebdaaDoor
