/-
  Plain data: a text's lexeme is read back as the text. No statement of the seat is proved here.
-/
import Derived.Test.YtbfoijeboaebdaaDoorQuote0
namespace Go.Proofs.YtbfoijeboaebdaaDoor
open Go.ChangeShapes Go.WideShapes Go.ChangeAt Go.RowKit
set_option linter.unusedVariables false

/-- The bytes L stand in q from the place p on. -/
def At (q : ByteArray) (p : Nat) (L : List UInt8) : Prop := ∀ j (hj : j < L.length), p + j < q.size ∧ byt q (p + j) = L[j].toNat
theorem At.left {q : ByteArray} {p : Nat} {L M : List UInt8} (h : At q p (L ++ M)) : At q p L := fun j hj => by
  have := h j (by simp; omega)
  rwa [List.getElem_append_left hj] at this
theorem At.right {q : ByteArray} {p : Nat} {L M : List UInt8} (h : At q p (L ++ M)) : At q (p + L.length) M := fun j hj => by
  have := h (L.length + j) (by simp; omega)
  rw [List.getElem_append_right (by omega)] at this
  simp only [Nat.add_sub_cancel_left] at this
  rwa [Nat.add_assoc]
theorem At.mk_list (L M N : List UInt8) : At ⟨(L ++ (M ++ N)).toArray⟩ L.length M := fun j hj => by
  have hs : L.length + j < (⟨(L ++ (M ++ N)).toArray⟩ : ByteArray).size := by
    show _ < (L ++ (M ++ N)).toArray.size
    simp; omega
  refine ⟨hs, ?_⟩
  rw [← byt_eq _ _ hs]
  show ((L ++ (M ++ N)).toArray[L.length + j]'hs).toNat = _
  simp only [List.getElem_toArray]
  rw [List.getElem_append_right (by omega)]
  simp only [Nat.add_sub_cancel_left]
  rw [List.getElem_append_left hj]
theorem b8_toNat {n : Nat} (h : n < 256) : (b8 n).toNat = n := by
  unfold b8
  simp
  omega
theorem ext_take (s : ByteArray) (i n : Nat) : (s.extract i (i + n)).data.toList = (s.data.toList.drop i).take n := by
  simp [ByteArray.extract, ByteArray.copySlice]
theorem byt_of (s : ByteArray) (i : Nat) (h : i < s.size) : s.data.toList[i]? = some (b8 (byt s i)) := by
  have h' : i < s.data.size := h
  rw [← byt_eq s i h]
  unfold b8
  simp only [Array.getElem?_toList, UInt8.ofNat_toNat]
  rw [Array.getElem?_eq_getElem h']
  rfl
theorem drop_on (s : ByteArray) (i : Nat) (h : i < s.size) : s.data.toList.drop i = b8 (byt s i) :: s.data.toList.drop (i + 1) := by
  have hl : i < s.data.toList.length := by simpa using h
  rw [List.drop_eq_getElem_cons hl]
  have := byt_of s i h
  rw [List.getElem?_eq_getElem hl] at this
  injection this with this
  rw [this]

theorem dec_pre (m m' b0 b1 b2 b3 c1 c2 c3 : Nat) (hw : ¬ ((Lib.decodeN m b0 b1 b2 b3).1 = 65533 ∧ (Lib.decodeN m b0 b1 b2 b3).2 = 1)) (h1 : 1 < (Lib.decodeN m b0 b1 b2 b3).2 → c1 = b1) (h2 : 2 < (Lib.decodeN m b0 b1 b2 b3).2 → c2 = b2) (h3 : 3 < (Lib.decodeN m b0 b1 b2 b3).2 → c3 = b3) (hm : (Lib.decodeN m b0 b1 b2 b3).2 ≤ m') :
    Lib.decodeN m' b0 c1 c2 c3 = Lib.decodeN m b0 b1 b2 b3 := by
  unfold Lib.decodeN at hw h1 h2 h3 hm ⊢
  by_cases a1 : b0 < 128
  · simp only [if_pos a1]
  · simp only [if_neg a1] at hw h1 h2 h3 hm ⊢
    by_cases a2 : b0 / 32 = 6 ∧ (1 < m ∧ b1 / 64 = 2)
    · simp only [if_pos a2] at hw h1 h2 h3 hm ⊢
      by_cases a3 : b0 % 32 * 64 + b1 % 64 ≥ 128
      · simp only [if_pos a3] at hw h1 h2 h3 hm ⊢
        obtain rfl := h1 (by omega)
        rw [if_pos ⟨a2.1, by omega, a2.2.2⟩]
        simp only [if_pos a3]
      · simp only [if_neg a3] at hw; simp at hw
    · simp only [if_neg a2] at hw h1 h2 h3 hm ⊢
      by_cases a4 : b0 / 16 = 14 ∧ (1 < m ∧ b1 / 64 = 2) ∧ (2 < m ∧ b2 / 64 = 2)
      · simp only [if_pos a4] at hw h1 h2 h3 hm ⊢
        by_cases a5 : b0 % 16 * 4096 + b1 % 64 * 64 + b2 % 64 ≥ 2048 ∧ (b0 % 16 * 4096 + b1 % 64 * 64 + b2 % 64 < 55296 ∨ (57344 ≤ b0 % 16 * 4096 + b1 % 64 * 64 + b2 % 64 ∧ b0 % 16 * 4096 + b1 % 64 * 64 + b2 % 64 ≤ 1114111))
        · simp only [if_pos a5] at hw h1 h2 h3 hm ⊢
          obtain rfl := h1 (by omega)
          obtain rfl := h2 (by omega)
          rw [if_neg (by omega), if_pos ⟨a4.1, ⟨by omega, a4.2.1.2⟩, by omega, a4.2.2.2⟩]
          simp only [if_pos a5]
        · simp only [if_neg a5] at hw; simp at hw
      · simp only [if_neg a4] at hw h1 h2 h3 hm ⊢
        by_cases a6 : b0 / 8 = 30 ∧ (1 < m ∧ b1 / 64 = 2) ∧ (2 < m ∧ b2 / 64 = 2) ∧ (3 < m ∧ b3 / 64 = 2)
        · simp only [if_pos a6] at hw h1 h2 h3 hm ⊢
          by_cases a7 : b0 % 8 * 262144 + b1 % 64 * 4096 + b2 % 64 * 64 + b3 % 64 ≥ 65536 ∧ (b0 % 8 * 262144 + b1 % 64 * 4096 + b2 % 64 * 64 + b3 % 64 < 55296 ∨ (57344 ≤ b0 % 8 * 262144 + b1 % 64 * 4096 + b2 % 64 * 64 + b3 % 64 ∧ b0 % 8 * 262144 + b1 % 64 * 4096 + b2 % 64 * 64 + b3 % 64 ≤ 1114111))
          · simp only [if_pos a7] at hw h1 h2 h3 hm ⊢
            obtain rfl := h1 (by omega)
            obtain rfl := h2 (by omega)
            obtain rfl := h3 (by omega)
            rw [if_neg (by omega), if_neg (by omega), if_pos ⟨a6.1, ⟨by omega, a6.2.1.2⟩, ⟨by omega, a6.2.2.1.2⟩, by omega, a6.2.2.2.2⟩]
            simp only [if_pos a7]
          · simp only [if_neg a7] at hw; simp at hw
        · simp only [if_neg a6] at hw; simp at hw

/-- A right rune stands for itself wherever its bytes stand. -/
theorem decode_same {s q : ByteArray} {i p : Nat} (hi : i < s.size) (hw : wrongB s i = false) (h : At q p ((s.data.toList.drop i).take (Utf8.decode s i).2)) : Utf8.decode q p = Utf8.decode s i := by
  have hfit := decode_fits s i hi
  have hlen : ((s.data.toList.drop i).take (Utf8.decode s i).2).length = (Utf8.decode s i).2 := by
    simp only [List.length_take, List.length_drop, Array.length_toList]
    show min _ (s.size - i) = _
    omega
  have key : ∀ j, j < (Utf8.decode s i).2 → p + j < q.size ∧ byt q (p + j) = byt s (i + j) := fun j hj => by
    have hx := h j (by omega)
    refine ⟨hx.1, hx.2.trans ?_⟩
    have hb := byt_of s (i + j) (by omega)
    simp only [List.getElem_take, List.getElem_drop]
    rw [List.getElem?_eq_getElem (by show _ < s.data.toList.length; simp only [Array.length_toList]; show _ < s.size; omega)] at hb
    injection hb with hb
    rw [hb, b8_toNat (byt_lt _ _)]
  have hpos := (decode_le s i).2.1
  rw [decode_byt s i] at key hpos ⊢
  unfold wrongB at hw
  rw [decode_byt s i] at hw
  rw [decode_byt q p]
  have e0 := key 0 (by omega)
  simp only [Nat.add_zero] at e0
  rw [e0.2]
  refine dec_pre _ _ _ _ _ _ _ _ _ (fun ⟨x, y⟩ => by simp [x, y] at hw) (fun h1 => (key 1 h1).2) (fun h2 => (key 2 h2).2) (fun h3 => (key 3 h3).2) ?_
  have := key ((Lib.decodeN (s.size - i) (byt s i) (byt s (i + 1)) (byt s (i + 2)) (byt s (i + 3))).2 - 1) (by omega)
  omega
theorem at_byte {q : ByteArray} {p : Nat} {L : List UInt8} (h : At q p L) {j n : Nat} (hn : n < 256) (hj : L[j]? = some (b8 n)) : p + j < q.size ∧ byt q (p + j) = n := by
  obtain ⟨hl, hx⟩ := List.getElem?_eq_some_iff.1 hj
  have := h j hl
  rw [hx, b8_toNat hn] at this
  exact this
theorem at_ascii {q : ByteArray} {p : Nat} {L : List UInt8} (h : At q p L) {n : Nat} (hn : n < 128) (hj : L[0]? = some (b8 n)) : p < q.size ∧ Utf8.decode q p = (n, 1) := by
  have h0 := at_byte h (by omega) hj
  simp only [Nat.add_zero] at h0
  refine ⟨h0.1, ?_⟩
  rcases decode_ascii' q p with ⟨h1, h2⟩ | ⟨h1, h2⟩
  · rw [h2, h0.2]
  · omega
theorem hexV_hexD (n : Nat) (h : n < 16) : hexV (hexD n) = (n : Int) := by
  unfold hexV hexD
  by_cases h10 : n < 10
  · rw [if_pos h10, if_pos (by omega)]; omega
  · rw [if_neg h10, if_neg (by omega), if_pos (by omega)]; omega
theorem low_byte {s : ByteArray} {i : Nat} (h : (Utf8.decode s i).1 < 128) : byt s i = (Utf8.decode s i).1 ∧ (Utf8.decode s i).2 = 1 := by
  rcases decode_ascii' s i with ⟨h1, h2⟩ | ⟨h1, h2⟩
  · rw [h2]; exact ⟨rfl, rfl⟩
  · omega

/-- A text's lexeme is read back as the text. -/
theorem read_back (t q : ByteArray) (a : Nat) : ∀ (k i p : Nat) (acc : List UInt8), t.size - i = k → i ≤ t.size → At q p (qFrom t i ++ [b8 34]) →
    readFrom q a p acc = ⟨acc ++ t.data.toList.drop i, p + (qFrom t i).length + 1, 0, 0⟩ := by
  intro k
  induction k using Nat.strongRecOn with
  | _ k ih =>
    intro i p acc hk hi hat
    by_cases hlt : i < t.size
    · have hpos := (decode_le t i).2.1
      have hfit := decode_fits t i hlt
      have hrec := fun p' acc' => ih (t.size - (i + (Utf8.decode t i).2)) (by omega) (i + (Utf8.decode t i).2) p' acc' rfl hfit
      have hb := byt_lt t i
      rw [qFrom_on hlt] at hat ⊢
      rw [List.append_assoc] at hat
      have hat2 := hat.right
      replace hat := hat.left
      obtain ⟨Q, hQ⟩ : ∃ Q, qFrom t (i + (Utf8.decode t i).2) = Q := ⟨_, rfl⟩
      rw [hQ] at hat2 hrec ⊢
      have one : ∀ n, byt t i = n → (Utf8.decode t i).2 = 1 → t.data.toList.drop i = b8 n :: t.data.toList.drop (i + (Utf8.decode t i).2) := fun n hn h1 => by
        rw [drop_on t i hlt, hn, h1]
      by_cases r10 : (Utf8.decode t i).1 = 10
      · have hp : qPiece t i = [b8 92, b8 110] := by unfold qPiece; rw [if_pos r10]
        rw [hp] at hat hat2 ⊢
        have hlo := low_byte (s := t) (i := i) (by omega)
        have d := at_ascii hat (n := 92) (by omega) rfl
        have e1 := at_byte hat (j := 1) (n := 110) (by omega) rfl
        have he : esc q p = (10, 2) := by unfold esc; rw [if_neg (by omega), if_pos e1.2]
        rw [read_esc d.1 (wrongB_false (by rw [d.2]; decide)) (by rw [d.2]) (by rw [he]; simp), he]
        refine (hrec _ _ hat2).trans ?_
        rw [one 10 (by omega) hlo.2]
        simp
        omega
      · by_cases r34 : (Utf8.decode t i).1 = 34 ∨ (Utf8.decode t i).1 = 92
        · have hp : qPiece t i = [b8 92, b8 (Utf8.decode t i).1] := by unfold qPiece; rw [if_neg r10, if_pos r34]
          rw [hp] at hat hat2 ⊢
          have hlo := low_byte (s := t) (i := i) (by omega)
          have d := at_ascii hat (n := 92) (by omega) rfl
          have e1 := at_byte hat (j := 1) (n := (Utf8.decode t i).1) (by omega) rfl
          have he : esc q p = ((Utf8.decode t i).1, 2) := by unfold esc; rw [if_neg (by omega), if_neg (by omega), if_pos (by omega), e1.2]
          rw [read_esc d.1 (wrongB_false (by rw [d.2]; decide)) (by rw [d.2]) (by rw [he]; simp), he]
          refine (hrec _ _ hat2).trans ?_
          rw [one (Utf8.decode t i).1 hlo.1 hlo.2]
          simp
          omega
        · by_cases rx : (Utf8.decode t i).1 < 32 ∨ (Utf8.decode t i).1 = 127 ∨ wrongB t i = true
          · have hp : qPiece t i = [b8 92, b8 120, b8 (hexD (byt t i / 16)), b8 (hexD (byt t i % 16))] := by unfold qPiece; rw [if_neg r10, if_neg r34, if_pos rx]
            have hlo : (Utf8.decode t i).2 = 1 := by
              rcases rx with h | h | h
              · exact (low_byte (by omega)).2
              · exact (low_byte (by omega)).2
              · unfold wrongB at h; simp at h; exact h.2
            rw [hp] at hat hat2 ⊢
            have d := at_ascii hat (n := 92) (by omega) rfl
            have e1 := at_byte hat (j := 1) (n := 120) (by omega) rfl
            have e2 := at_byte hat (j := 2) (n := hexD (byt t i / 16)) (hexD_lt _ (by omega)) rfl
            have e3 := at_byte hat (j := 3) (n := hexD (byt t i % 16)) (hexD_lt _ (by omega)) rfl
            have v2 := hexV_hexD (byt t i / 16) (by omega)
            have v3 := hexV_hexD (byt t i % 16) (by omega)
            have he : esc q p = (byt t i, 4) := by
              unfold esc
              rw [if_neg (by omega), if_neg (by omega), if_neg (by omega), if_pos e1.2, e2.2, e3.2, v2, v3, if_pos (by omega)]
              congr 1
              omega
            rw [read_esc d.1 (wrongB_false (by rw [d.2]; decide)) (by rw [d.2]) (by rw [he]; simp), he]
            refine (hrec _ _ hat2).trans ?_
            rw [one (byt t i) rfl hlo]
            simp
            omega
          · have hp : qPiece t i = (t.data.toList.drop i).take (Utf8.decode t i).2 := by unfold qPiece; rw [if_neg r10, if_neg r34, if_neg rx, ext_take]
            have hwr : wrongB t i = false := by
              cases hc : wrongB t i
              · rfl
              · exact absurd (.inr (.inr hc)) rx
            rw [hp] at hat hat2 ⊢
            have hlen : ((t.data.toList.drop i).take (Utf8.decode t i).2).length = (Utf8.decode t i).2 := by
              simp only [List.length_take, List.length_drop, Array.length_toList]
              show min _ (t.size - i) = _
              omega
            have hd := decode_same hlt hwr hat
            have hpq : p < q.size := by
              have := hat 0 (by omega)
              omega
            have hwq : wrongB q p = false := by unfold wrongB at hwr ⊢; rw [hd]; exact hwr
            have hex : (q.data.toList.drop p).take (Utf8.decode t i).2 = (t.data.toList.drop i).take (Utf8.decode t i).2 := by
              apply List.ext_getElem?
              intro j
              by_cases hj : j < (Utf8.decode t i).2
              · have hx := hat j (by omega)
                rw [List.getElem?_take, if_pos hj, List.getElem?_drop, byt_of q _ hx.1, hx.2]
                rw [List.getElem?_eq_getElem (by omega)]
                congr 1
                unfold b8
                simp
              · rw [List.getElem?_eq_none (by simp only [List.length_take]; omega), List.getElem?_eq_none (by omega)]
            rw [read_on hpq (by rw [hd]; omega) hwq (by rw [hd]; omega) (by rw [hd]; omega), hd, ext_take, hex]
            rw [hlen] at hat2
            rw [hrec _ _ hat2]
            congr 1
            · rw [List.append_assoc, ← List.drop_drop, List.take_append_drop]
            · simp only [List.length_append, hlen]; omega
    · rw [qFrom_out hlt] at hat ⊢
      have d := at_ascii hat (n := 34) (by omega) rfl
      rw [read_quote d.1 (by rw [d.2]), List.drop_eq_nil_of_le (by simp only [Array.length_toList]; show t.size ≤ i; omega)]
      simp

/-- A lexeme has at most four signs a byte. -/
theorem qFrom_len (t : ByteArray) : ∀ (k i : Nat), t.size - i = k → (qFrom t i).length ≤ 4 * (t.size - i) := by
  intro k
  induction k using Nat.strongRecOn with
  | _ k ih =>
    intro i hk
    by_cases hlt : i < t.size
    · have hpos := (decode_le t i).2.1
      have hfit := decode_fits t i hlt
      have := ih (t.size - (i + (Utf8.decode t i).2)) (by omega) _ rfl
      rw [qFrom_on hlt, List.length_append]
      have hp : (qPiece t i).length ≤ 4 * (Utf8.decode t i).2 := by
        unfold qPiece
        repeat' split
        · simp; omega
        · simp; omega
        · simp; omega
        · rw [ext_take, List.length_take]; omega
      omega
    · rw [qFrom_out hlt]; simp
end Go.Proofs.YtbfoijeboaebdaaDoor
