/-
  Plain data: lexemes are of themselves what they are. No statement of the seat is proved here.
-/
import Derived.Test.YtbfoijeboaebdaaDoorBack
import Derived.Test.YtbfoijeboaebdaaDoorPlain3
import Derived.Test.YtbfoijeboaebdaaDoorScan3
import Derived.Test.YtbfoijeboaebdaaDoorImpl3
namespace Go.Proofs.YtbfoijeboaebdaaDoor
open Go.ChangeShapes Go.WideShapes Go.ChangeAt Go.RowKit
set_option linter.unusedVariables false

theorem low_at {T : ByteArray} {p n : Nat} (h : p < T.size ∧ byt T p = n) (hn : n < 128) : Utf8.decode T p = (n, 1) ∧ wrongB T p = false := by
  have hd : Utf8.decode T p = (n, 1) := by
    rcases decode_ascii' T p with ⟨h1, h2⟩ | ⟨h1, h2⟩
    · rw [h2, h.2]
    · omega
  refine ⟨hd, ?_⟩
  apply wrongB_false
  rw [hd]; exact hn

theorem At.sub {q : ByteArray} {p n m : Nat} {L : List UInt8} (h : At q p (L.take n)) (hm : m ≤ n) : At q p (L.take m) := fun j hj => by
  have hl : j < (L.take n).length := by simp only [List.length_take] at hj ⊢; omega
  have := h j hl
  simp only [List.getElem_take] at this ⊢
  exact this
theorem At.drop {q : ByteArray} {p n m i : Nat} {L : List UInt8} (h : At q p ((L.drop i).take n)) (hm : m ≤ n) (hl : i + n ≤ L.length) : At q (p + m) ((L.drop (i + m)).take (n - m)) := fun j hj => by
  simp only [List.length_take, List.length_drop] at hj
  have hlen : m + j < ((L.drop i).take n).length := by simp only [List.length_take, List.length_drop]; omega
  have := h (m + j) hlen
  simp only [List.getElem_take, List.getElem_drop] at this ⊢
  rw [Nat.add_assoc]
  simp only [Nat.add_assoc]
  exact this
theorem at_self (s : ByteArray) (p n : Nat) (h : p + n ≤ s.size) : At (s.extract p (p + n)) 0 ((s.data.toList.drop p).take n) := by
  have := At.mk_list [] ((s.data.toList.drop p).take n) []
  simp only [List.nil_append, List.append_nil, List.length_nil] at this
  have he : s.extract p (p + n) = ⟨((s.data.toList.drop p).take n).toArray⟩ := by
    apply ByteArray.ext
    rw [← ext_take]
  rw [he]; exact this
theorem at_of_extract {T : ByteArray} {p : Nat} {x : ByteArray} (h : At T p x.data.toList) : T.extract p (p + x.size) = x := by
  have hsz : x.data.toList.length = x.size := by simp
  apply ByteArray.ext
  apply Array.toList_inj.1
  rw [ext_take]
  apply List.ext_getElem?
  intro j
  by_cases hj : j < x.size
  · have hx := h j (by omega)
    rw [List.getElem?_take, if_pos hj, List.getElem?_drop, byt_of T _ hx.1, hx.2, List.getElem?_eq_getElem (by omega)]
    congr 1
    unfold b8
    simp
  · rw [List.getElem?_eq_none (by simp only [List.length_take]; omega), List.getElem?_eq_none (by omega)]

/-- A run of runes goes on as far wherever its bytes stand. -/
theorem endOf_move (f : Int → Bool) (hf : f 65533 = false) {A B : ByteArray} : ∀ (n i j : Nat), i + n ≤ A.size → endOf f A i = i + n → At B j ((A.data.toList.drop i).take n) → endOf f B j = endOf f B (j + n) := by
  intro n
  induction n using Nat.strongRecOn with
  | _ n ih =>
    intro i j hn hE hat
    by_cases h0 : n = 0
    · subst h0; rfl
    · have hi : i < A.size := by omega
      cases hfi : f ((Utf8.decode A i).1 : Int)
      · rw [endOf_stop hi hfi] at hE; omega
      · rw [endOf_on hi hfi] at hE
        have hpos := (decode_le A i).2.1
        have hfit := decode_fits A i hi
        have hge := endOf_ge f A (i + (Utf8.decode A i).2) hfit
        have hw : wrongB A i = false := by
          cases hw : wrongB A i
          · rfl
          · unfold wrongB at hw
            simp at hw
            rw [hw.1] at hfi
            simp [hf] at hfi
        have hd : Utf8.decode B j = Utf8.decode A i := decode_same hi hw (hat.sub (by omega))
        have hj : j < B.size := by
          have := hat 0 (by simp only [List.length_take, List.length_drop, Array.length_toList]; show 0 < min n (A.size - i); omega)
          omega
        have hlen : i + n ≤ A.data.toList.length := by simp only [Array.length_toList]; exact hn
        rw [endOf_on hj (by rw [hd]; exact hfi), hd, ih (n - (Utf8.decode A i).2) (by omega) (i + (Utf8.decode A i).2) (j + (Utf8.decode A i).2) (by omega) (by omega) (hat.drop (by omega) hlen)]
        congr 1
        omega

def signBytes : List Nat := [61, 33, 60, 40, 41, 123, 125, 44, 59, 46, 43, 45, 42, 47, 37]
/-- What a lexeme is of itself. -/
def Good (k : Nat) (x : ByteArray) (n : Nat) : Prop :=
  (k = 1 ∧ n = 0 ∧ 0 < x.size ∧ x.size ≤ 40 ∧ isLet ((Utf8.decode x 0).1 : Int) = true ∧ wrongB x 0 = false ∧ endOf isNam x 0 = x.size) ∨
  (k = 2 ∧ n = numOf x.data.toList ∧ 0 < x.size ∧ x.size ≤ 18 ∧ ¬ (1 < x.size ∧ byt x 0 = 48) ∧ isDig ((Utf8.decode x 0).1 : Int) = true ∧ endOf isDig x 0 = x.size) ∨
  (k = 3 ∧ n = 0) ∨
  (k = 4 ∧ n = 0 ∧ byt x 0 ∈ signBytes ∧ (x.size = 1 ∨ (x.size = 2 ∧ byt x 0 ∈ [61, 33, 60] ∧ byt x 1 = 61)))

theorem isLet_not : isLet 65533 = false := by decide
theorem isNam_not : isNam 65533 = false := by decide
theorem isDig_not : isDig 65533 = false := by decide
theorem let_right {s : ByteArray} {p : Nat} (h : isLet ((Utf8.decode s p).1 : Int) = true) : wrongB s p = false := by
  cases hw : wrongB s p
  · rfl
  · unfold wrongB at hw
    simp at hw
    rw [hw.1] at h
    simp [isLet_not] at h

theorem lexAt_good {s : ByteArray} {p : Nat} (hp : p < s.size) (hw : wrongB s p = false) {k : Nat} {x : ByteArray} {n e : Nat} (h : lexAt s p = .ok k x n e) : Good k x n := by
  have hle := lexAt_ok hp h
  have hpos := (decode_le s p).2.1
  have hfit := decode_fits s p hp
  unfold lexAt at h
  by_cases h1 : isLet ((Utf8.decode s p).1 : Int) = true
  · rw [if_pos h1] at h
    by_cases h2 : 40 < wordEnd s p - p
    · rw [if_pos h2] at h; cases h
    · rw [if_neg h2] at h
      injection h with hk hx hn he
      subst hk; subst hn; subst he
      have hlt := wordEnd_lt hp h1
      obtain ⟨m, hm⟩ : ∃ m, wordEnd s p = p + m := ⟨wordEnd s p - p, by omega⟩
      have hE : endOf isNam s p = p + m := by rw [wordEnd_eq hp h1, hm]
      rw [hm] at hx h2 hlt
      have hsz : x.size = m := by rw [← hx]; simp; omega
      have hat := at_self s p m (by omega)
      rw [hx] at hat
      have hdm : (Utf8.decode s p).2 ≤ m := by
        have hge := endOf_ge isNam s (p + (Utf8.decode s p).2) hfit
        rw [endOf_on hp (by simp [isNam, h1])] at hE
        omega
      have hd := decode_same hp hw (hat.sub hdm)
      refine .inl ⟨rfl, rfl, by omega, by omega, by rw [hd]; exact h1, by unfold wrongB at hw ⊢; rw [hd]; exact hw, ?_⟩
      rw [endOf_move isNam isNam_not m p 0 (by omega) hE hat, endOf_out (by omega)]
  · rw [if_neg h1] at h
    by_cases h2 : isDig ((Utf8.decode s p).1 : Int) = true
    · rw [if_pos h2] at h
      have hlt := digEnd_lt hp h2
      obtain ⟨m, hm⟩ : ∃ m, endOf isDig s p = p + m := ⟨endOf isDig s p - p, by omega⟩
      rw [hm] at h hlt
      by_cases h3 : 18 < p + m - p
      · rw [if_pos h3] at h; cases h
      rw [if_neg h3] at h
      by_cases h4 : 1 < p + m - p ∧ byt s p = 48
      · rw [if_pos h4] at h; cases h
      rw [if_neg h4] at h
      by_cases h5 : p + m < s.size ∧ isLet ((Utf8.decode s (p + m)).1 : Int) = true
      · rw [if_pos h5] at h; cases h
      rw [if_neg h5] at h
      injection h with hk hx hn he
      subst hk; subst he
      have hsz : x.size = m := by rw [← hx]; simp; omega
      have hat := at_self s p m (by omega)
      rw [hx] at hat hn
      have hdm : (Utf8.decode s p).2 ≤ m := by
        have hge := endOf_ge isDig s (p + (Utf8.decode s p).2) hfit
        have hm' := hm
        rw [endOf_on hp h2] at hm'
        omega
      have hd := decode_same hp hw (hat.sub hdm)
      have hb0 : byt x 0 = byt s p := by
        rw [drop_on s p hp] at hat
        obtain ⟨m', rfl⟩ : ∃ m', m = m' + 1 := ⟨m - 1, by omega⟩
        have := at_byte hat (j := 0) (n := byt s p) (byt_lt _ _) rfl
        simpa using this.2
      refine .inr (.inl ⟨rfl, hn.symm, by omega, by omega, by rw [hb0, hsz]; omega, by rw [hd]; exact h2, ?_⟩)
      rw [endOf_move isDig isDig_not m p 0 (by omega) hm hat, endOf_out (by omega)]
    · rw [if_neg h2] at h
      by_cases h3 : (Utf8.decode s p).1 = 34
      · rw [if_pos h3] at h
        by_cases h4 : (readFrom s p (p + 1) []).code = 0
        · rw [if_pos h4] at h
          injection h with hk hx hn he
          exact .inr (.inr (.inl ⟨hk.symm, hn.symm⟩))
        · rw [if_neg h4] at h; cases h
      · rw [if_neg h3] at h
        by_cases h4 : signLen s p = 0
        · rw [if_pos h4] at h; cases h
        · rw [if_neg h4] at h
          injection h with hk hx hn he
          refine .inr (.inr (.inr ⟨hk.symm, hn.symm, ?_⟩))
          have hat := at_self s p (signLen s p) (by omega)
          rw [hx] at hat
          have hsz : x.size = signLen s p := by rw [← hx]; simp; omega
          have hb0 : byt x 0 = byt s p := by
            rw [drop_on s p hp] at hat
            obtain ⟨m', hm'⟩ : ∃ m', signLen s p = m' + 1 := ⟨signLen s p - 1, by omega⟩
            rw [hm'] at hat
            have := at_byte hat (j := 0) (n := byt s p) (byt_lt _ _) rfl
            simpa using this.2
          rw [hb0, hsz]
          have h4' := h4
          unfold signLen at h4 ⊢
          by_cases h5 : byt s p = 61 ∨ byt s p = 33 ∨ byt s p = 60
          · rw [if_pos h5]
            have hm : byt s p ∈ signBytes ∧ byt s p ∈ [61, 33, 60] := by rcases h5 with h | h | h <;> rw [h] <;> decide
            refine ⟨hm.1, ?_⟩
            by_cases h6 : p + 1 < s.size ∧ byt s (p + 1) = 61
            · rw [if_pos h6]
              refine .inr ⟨rfl, hm.2, ?_⟩
              have h2s : signLen s p = 2 := by unfold signLen; rw [if_pos h5, if_pos h6]
              rw [h2s, drop_on s p hp, drop_on s (p + 1) h6.1] at hat
              have := at_byte hat (j := 1) (n := byt s (p + 1)) (byt_lt _ _) rfl
              simp at this
              rw [this.2, h6.2]
            · rw [if_neg h6]; exact .inl rfl
          · rw [if_neg h5] at h4 ⊢
            by_cases h6 : byt s p ∈ [40, 41, 123, 125, 44, 59, 46, 43, 45, 42, 47, 37]
            · rw [if_pos h6]
              refine ⟨?_, .inl rfl⟩
              unfold signBytes
              simp only [List.mem_cons] at h6 ⊢
              exact .inr (.inr (.inr h6))
            · rw [if_neg h6] at h4; exact absurd rfl h4

/-- How a lexeme is written. -/
def lexB (k : Nat) (x : ByteArray) : List UInt8 := if k = 3 then [b8 34] ++ qFrom x 0 ++ [b8 34] else x.data.toList

theorem at_bytes {T x : ByteArray} {p : Nat} (h : At T p x.data.toList) {j : Nat} (hj : j < x.size) : p + j < T.size ∧ byt T (p + j) = byt x j := by
  have hsz : x.data.toList.length = x.size := by simp
  have := h j (by omega)
  refine ⟨this.1, this.2.trans ?_⟩
  have hb := byt_of x j hj
  rw [List.getElem?_eq_getElem (by omega)] at hb
  injection hb with hb
  rw [hb, b8_toNat (byt_lt _ _)]

theorem sign_facts : ∀ b ∈ signBytes, b < 128 ∧ isLet (b : Int) = false ∧ isDig (b : Int) = false ∧ b ≠ 34 ∧ blankB b = false ∧ (b = 61 ∨ b = 33 ∨ b = 60 ∨ b ∈ [40, 41, 123, 125, 44, 59, 46, 43, 45, 42, 47, 37]) := by decide

theorem let_blank {b : Nat} (h : isLet (b : Int) = true) : blankB b = false ∧ b ≠ 47 := by
  cases hb : blankB b
  · refine ⟨rfl, fun e => ?_⟩
    subst e
    revert h; decide
  · exfalso
    have : b = 32 ∨ b = 9 ∨ b = 10 ∨ b = 13 := by simp [blankB] at hb; omega
    rcases this with rfl | rfl | rfl | rfl <;> revert h <;> decide
theorem dig_blank {b : Nat} (h : isDig (b : Int) = true) : blankB b = false ∧ b ≠ 47 ∧ b < 128 ∧ isLet (b : Int) = false := by
  have hb : 48 ≤ b ∧ b ≤ 57 := by simp [isDig] at h; omega
  refine ⟨by simp [blankB]; omega, by omega, by omega, ?_⟩
  simp [isLet]
  omega

/-- A lexeme that is written, with a line's end behind it, is read again. -/
theorem lex_again {T x : ByteArray} {p k n : Nat} (hg : Good k x n) (hat : At T p (lexB k x ++ [b8 10])) (acc : List Tok) (hacc : acc.length ≠ 20000) :
    p < T.size ∧ slashes T p = false ∧ blankB (byt T p) = false ∧ lexOf T p acc = .ok k x n (p + (lexB k x).length) := by
  have hl := hat.left
  have hr := at_byte hat.right (j := 0) (n := 10) (by omega) rfl
  rw [Nat.add_zero] at hr
  have d10 : Utf8.decode T (p + (lexB k x).length) = (10, 1) := (low_at hr (by omega)).1
  have hxs : x.data.toList.length = x.size := by simp
  rcases hg with ⟨rfl, rfl, h0, h40, hlet, hw, hE⟩ | ⟨rfl, hnum, h0, h18, hz, hdig, hE⟩ | ⟨rfl, rfl⟩ | ⟨rfl, rfl, hs, hsz⟩
  · have hlb : lexB 1 x = x.data.toList := by unfold lexB; rw [if_neg (by omega)]
    rw [hlb] at hl hr d10 ⊢
    rw [hxs] at hr d10 ⊢
    have hfit := decode_fits x 0 h0
    have hat1 : At T p ((x.data.toList.drop 0).take (Utf8.decode x 0).2) := by
      have : At T p (x.data.toList.take x.data.toList.length) := by rw [List.take_length]; exact hl
      rw [List.drop_zero]
      exact this.sub (by omega)
    have hd := decode_same h0 hw hat1
    have hb := at_bytes hl (j := 0) (by omega)
    rw [Nat.add_zero] at hb
    have hbl : blankB (byt T p) = false ∧ byt T p ≠ 47 := by
      rcases decode_ascii' T p with ⟨h1, h2⟩ | ⟨h1, h2⟩
      · have : isLet (byt T p : Int) = true := by rw [← hd, h2] at hlet; exact hlet
        exact let_blank this
      · exact ⟨by simp [blankB]; omega, by omega⟩
    have hET : endOf isNam T p = p + x.size := by
      have hat2 : At T p ((x.data.toList.drop 0).take x.size) := by rw [List.drop_zero, ← hxs, List.take_length]; exact hl
      rw [endOf_move isNam isNam_not x.size 0 p (by omega) (by omega) hat2]
      exact endOf_stop hr.1 (by rw [d10]; decide)
    have hwT : wrongB T p = false := by unfold wrongB at hw ⊢; rw [hd]; exact hw
    refine ⟨hb.1, by unfold slashes; simp [hbl.2], hbl.1, ?_⟩
    unfold lexOf lexAt
    rw [if_neg (by rw [hwT]; simp), if_neg hacc, if_pos (by rw [hd]; exact hlet), ← wordEnd_eq hb.1 (by rw [hd]; exact hlet), hET, if_neg (by omega), at_of_extract hl]
  · have hlb : lexB 2 x = x.data.toList := by unfold lexB; rw [if_neg (by omega)]
    rw [hlb] at hl hr d10 ⊢
    rw [hxs] at hr d10 ⊢
    have hb := at_bytes hl (j := 0) (by omega)
    rw [Nat.add_zero] at hb
    have hlow : (Utf8.decode x 0).1 < 128 := by simp [isDig] at hdig; omega
    have hx0 := low_byte hlow
    rw [← hx0.1] at hdig
    have hdb := dig_blank hdig
    have hdT := low_at hb hdb.2.2.1
    have hET : endOf isDig T p = p + x.size := by
      have hat2 : At T p ((x.data.toList.drop 0).take x.size) := by rw [List.drop_zero, ← hxs, List.take_length]; exact hl
      rw [endOf_move isDig isDig_not x.size 0 p (by omega) (by omega) hat2]
      exact endOf_stop hr.1 (by rw [d10]; decide)
    refine ⟨hb.1, by unfold slashes; rw [hb.2]; simp [hdb.2.1], by rw [hb.2]; exact hdb.1, ?_⟩
    unfold lexOf lexAt
    rw [if_neg (by rw [hdT.2]; simp), if_neg hacc, if_neg (by rw [hdT.1]; rw [hdb.2.2.2]; simp), if_pos (by rw [hdT.1]; exact hdig), hET, if_neg (by omega), if_neg (by rw [hb.2]; omega), if_neg (by rw [d10]; rintro ⟨_, h⟩; revert h; decide), at_of_extract hl, hnum]
  · have hlb : lexB 3 x = [b8 34] ++ (qFrom x 0 ++ [b8 34]) := by unfold lexB; rw [if_pos rfl, List.append_assoc]
    rw [hlb] at hl hr ⊢
    have e0 := at_byte hl.left (j := 0) (n := 34) (by omega) rfl
    rw [Nat.add_zero] at e0
    have d0 := low_at e0 (by omega)
    have hq := read_back x T p _ 0 (p + 1) [] rfl (by omega) hl.right
    refine ⟨e0.1, by unfold slashes; rw [e0.2]; simp, by rw [e0.2]; decide, ?_⟩
    unfold lexOf lexAt
    rw [if_neg (by rw [d0.2]; simp), if_neg hacc, if_neg (by rw [d0.1]; decide), if_neg (by rw [d0.1]; decide), if_pos (by rw [d0.1]), hq]
    dsimp only
    rw [if_pos rfl]
    simp
    omega
  · have hlb : lexB 4 x = x.data.toList := by unfold lexB; rw [if_neg (by omega)]
    rw [hlb] at hl hr d10 ⊢
    rw [hxs] at hr d10 ⊢
    have h0 : 0 < x.size := by omega
    have hb := at_bytes hl (j := 0) (by omega)
    rw [Nat.add_zero] at hb
    obtain ⟨f1, f2, f3, f4, f5, f6⟩ := sign_facts _ hs
    have d0 := low_at hb f1
    have hsl : signLen T p = x.size := by
      unfold signLen
      rw [hb.2]
      rcases hsz with h1 | ⟨h2, h3, h4⟩
      · by_cases h5 : byt x 0 = 61 ∨ byt x 0 = 33 ∨ byt x 0 = 60
        · rw [if_pos h5, if_neg (by rw [h1] at hr; omega), h1]
        · rw [if_neg h5, if_pos (by rcases f6 with h | h | h | h <;> first | exact h | (exfalso; omega)), h1]
      · have hb1 := at_bytes hl (j := 1) (by omega)
        rw [if_pos (by simp at h3; omega), if_pos ⟨hb1.1, by rw [hb1.2, h4]⟩, h2]
    have hslash : slashes T p = false := by
      unfold slashes
      rcases hsz with h1 | ⟨h2, h3, h4⟩
      · rw [h1] at hr; simp [hr.2]
      · have hb1 := at_bytes hl (j := 1) (by omega)
        simp [hb1.2, h4]
    refine ⟨hb.1, hslash, by rw [hb.2]; exact f5, ?_⟩
    unfold lexOf lexAt
    rw [if_neg (by rw [d0.2]; simp), if_neg hacc, if_neg (by rw [d0.1]; rw [f2]; simp), if_neg (by rw [d0.1]; rw [f3]; simp), if_neg (by rw [d0.1]; exact f4), hsl, if_neg (by omega), at_of_extract hl]
theorem lineTo_run (f : Int → Bool) (hf : f 10 = false) (T : ByteArray) : ∀ (k p ln cl : Nat), T.size - p = k → p ≤ T.size → (lineTo T p (endOf f T p) ln cl).1 = ln := by
  intro k
  induction k using Nat.strongRecOn with
  | _ k ih =>
    intro p ln cl hk hp
    by_cases h : p < T.size
    · cases hfi : f ((Utf8.decode T p).1 : Int)
      · rw [endOf_stop h hfi, lineTo_out (by omega)]
      · have hpos := (decode_le T p).2.1
        have hfit := decode_fits T p h
        have hge := endOf_ge f T (p + (Utf8.decode T p).2) hfit
        rw [endOf_on h hfi, lineTo_on (by omega), ih _ (by omega) _ _ _ rfl hfit]
        unfold lineOn
        rw [if_neg (fun e => by rw [e] at hfi; simp [hf] at hfi)]
    · rw [endOf_out h, lineTo_out (by omega)]
theorem lineTo_flat (T : ByteArray) : ∀ (k p e ln cl : Nat), e - p = k → (∀ i, p ≤ i → i < e → byt T i ≠ 10) → (lineTo T p e ln cl).1 = ln := by
  intro k
  induction k using Nat.strongRecOn with
  | _ k ih =>
    intro p e ln cl hk hb
    by_cases h : p < e
    · have hpos := (decode_le T p).2.1
      rw [lineTo_on h, ih _ (by omega) _ _ _ _ rfl (fun i h1 h2 => hb i (by omega) h2)]
      unfold lineOn
      rw [if_neg (fun e => hb p (Nat.le_refl _) h (by rw [(low_byte (by omega)).1]; exact e))]
    · rw [lineTo_out h]

theorem decodeN_high (n b0 b1 b2 b3 : Nat) (h : 128 ≤ (Lib.decodeN n b0 b1 b2 b3).1) (hw : ¬ ((Lib.decodeN n b0 b1 b2 b3).1 = 65533 ∧ (Lib.decodeN n b0 b1 b2 b3).2 = 1)) :
    128 ≤ b0 ∧ (1 < (Lib.decodeN n b0 b1 b2 b3).2 → 128 ≤ b1) ∧ (2 < (Lib.decodeN n b0 b1 b2 b3).2 → 128 ≤ b2) ∧ (3 < (Lib.decodeN n b0 b1 b2 b3).2 → 128 ≤ b3) := by
  revert h hw
  unfold Lib.decodeN
  repeat' split
  all_goals
    intro h hw
    dsimp only at h hw ⊢
    omega
theorem high_byte {s : ByteArray} {i j : Nat} (h : 128 ≤ (Utf8.decode s i).1) (hw : wrongB s i = false) (hj : j < (Utf8.decode s i).2) : 128 ≤ byt s (i + j) := by
  have h4 := (decode_le s i).2.2
  unfold wrongB at hw
  rw [decode_byt] at h hw hj h4
  have hw' : ¬ ((Lib.decodeN (s.size - i) (byt s i) (byt s (i + 1)) (byt s (i + 2)) (byt s (i + 3))).1 = 65533 ∧ (Lib.decodeN (s.size - i) (byt s i) (byt s (i + 1)) (byt s (i + 2)) (byt s (i + 3))).2 = 1) := fun ⟨x, y⟩ => by simp [x, y] at hw
  obtain ⟨a0, a1, a2, a3⟩ := decodeN_high _ _ _ _ _ h hw'
  obtain rfl | rfl | rfl | rfl : j = 0 ∨ j = 1 ∨ j = 2 ∨ j = 3 := by omega
  · exact a0
  · exact a1 hj
  · exact a2 hj
  · exact a3 hj

theorem piece_no10 (s : ByteArray) (i : Nat) (hi : i < s.size) : ∀ b ∈ qPiece s i, b ≠ 10 := by
  have hb := byt_lt s i
  have hx : ∀ n, n < 16 → b8 (hexD n) ≠ 10 := by decide
  intro b hm
  unfold qPiece at hm
  by_cases h1 : (Utf8.decode s i).1 = 10
  · rw [if_pos h1] at hm
    simp at hm
    rcases hm with rfl | rfl <;> decide
  · rw [if_neg h1] at hm
    by_cases h2 : (Utf8.decode s i).1 = 34 ∨ (Utf8.decode s i).1 = 92
    · rw [if_pos h2] at hm
      simp at hm
      rcases hm with rfl | rfl
      · decide
      · rcases h2 with h | h <;> rw [h] <;> decide
    · rw [if_neg h2] at hm
      by_cases h3 : (Utf8.decode s i).1 < 32 ∨ (Utf8.decode s i).1 = 127 ∨ wrongB s i = true
      · rw [if_pos h3] at hm
        simp at hm
        rcases hm with rfl | rfl | rfl | rfl
        · decide
        · decide
        · exact hx _ (by omega)
        · exact hx _ (by omega)
      · rw [if_neg h3, ext_take] at hm
        have hw : wrongB s i = false := by
          cases hc : wrongB s i
          · rfl
          · exact absurd (.inr (.inr hc)) h3
        have hfit := decode_fits s i hi
        obtain ⟨j, hj, rfl⟩ := List.getElem_of_mem hm
        simp only [List.length_take, List.length_drop, Array.length_toList] at hj
        have hj2 : j < (Utf8.decode s i).2 := by omega
        have hbj := byt_of s (i + j) (by omega)
        simp only [List.getElem_take, List.getElem_drop]
        rw [List.getElem?_eq_getElem (by simp only [Array.length_toList]; show i + j < s.size; omega)] at hbj
        injection hbj with hbj
        rw [hbj]
        intro e
        have e2 : byt s (i + j) = 10 := by
          have := congrArg UInt8.toNat e
          rw [b8_toNat (byt_lt _ _)] at this
          exact this
        by_cases h128 : 128 ≤ (Utf8.decode s i).1
        · have := high_byte h128 hw hj2
          omega
        · have hlo := low_byte (s := s) (i := i) (by omega)
          have : j = 0 := by omega
          subst this
          rw [Nat.add_zero] at e2
          omega
theorem qFrom_no10 (s : ByteArray) : ∀ (k i : Nat), s.size - i = k → ∀ b ∈ qFrom s i, b ≠ 10 := by
  intro k
  induction k using Nat.strongRecOn with
  | _ k ih =>
    intro i hk b hb
    by_cases h : i < s.size
    · have hpos := (decode_le s i).2.1
      rw [qFrom_on h, List.mem_append] at hb
      rcases hb with hb | hb
      · exact piece_no10 s i h b hb
      · exact ih _ (by omega) _ rfl b hb
    · rw [qFrom_out h] at hb; simp at hb

/-- A lexeme that is written bears no line's end. -/
theorem lex_line {T x : ByteArray} {p k n : Nat} (hg : Good k x n) (hat : At T p (lexB k x ++ [b8 10])) (ln cl : Nat) : (lineTo T p (p + (lexB k x).length) ln cl).1 = ln := by
  have hl := hat.left
  have hr := at_byte hat.right (j := 0) (n := 10) (by omega) rfl
  rw [Nat.add_zero] at hr
  have d10 : Utf8.decode T (p + (lexB k x).length) = (10, 1) := (low_at hr (by omega)).1
  have hxs : x.data.toList.length = x.size := by simp
  rcases hg with ⟨rfl, rfl, h0, h40, hlet, hw, hE⟩ | ⟨rfl, hnum, h0, h18, hz, hdig, hE⟩ | ⟨rfl, rfl⟩ | ⟨rfl, rfl, hs, hsz⟩
  · have hlb : lexB 1 x = x.data.toList := by unfold lexB; rw [if_neg (by omega)]
    rw [hlb] at hl hr d10 ⊢
    rw [hxs] at hr d10 ⊢
    have hET : endOf isNam T p = p + x.size := by
      have hat2 : At T p ((x.data.toList.drop 0).take x.size) := by rw [List.drop_zero, ← hxs, List.take_length]; exact hl
      rw [endOf_move isNam isNam_not x.size 0 p (by omega) (by omega) hat2]
      exact endOf_stop hr.1 (by rw [d10]; decide)
    rw [← hET]
    exact lineTo_run isNam (by decide) T _ p ln cl rfl (by omega)
  · have hlb : lexB 2 x = x.data.toList := by unfold lexB; rw [if_neg (by omega)]
    rw [hlb] at hl hr d10 ⊢
    rw [hxs] at hr d10 ⊢
    have hET : endOf isDig T p = p + x.size := by
      have hat2 : At T p ((x.data.toList.drop 0).take x.size) := by rw [List.drop_zero, ← hxs, List.take_length]; exact hl
      rw [endOf_move isDig isDig_not x.size 0 p (by omega) (by omega) hat2]
      exact endOf_stop hr.1 (by rw [d10]; decide)
    rw [← hET]
    exact lineTo_run isDig (by decide) T _ p ln cl rfl (by omega)
  · refine lineTo_flat T _ p _ ln cl rfl fun i h1 h2 => ?_
    obtain ⟨j, rfl⟩ : ∃ j, i = p + j := ⟨i - p, by omega⟩
    have hx := hl j (by omega)
    rw [hx.2]
    have hm : ∀ b ∈ lexB 3 x, b ≠ 10 := by
      intro b hb
      unfold lexB at hb
      rw [if_pos rfl, List.mem_append, List.mem_append] at hb
      rcases hb with (hb | hb) | hb
      · simp at hb; subst hb; decide
      · exact qFrom_no10 x _ 0 rfl b hb
      · simp at hb; subst hb; decide
    intro e
    exact hm _ (List.getElem_mem (by omega)) (UInt8.toNat_inj.1 e)
  · have hlb : lexB 4 x = x.data.toList := by unfold lexB; rw [if_neg (by omega)]
    rw [hlb] at hl hr d10 ⊢
    rw [hxs]
    refine lineTo_flat T _ p _ ln cl rfl fun i h1 h2 => ?_
    obtain ⟨j, rfl⟩ : ∃ j, i = p + j := ⟨i - p, by omega⟩
    have hx := at_bytes hl (j := j) (by omega)
    rw [hx.2]
    obtain ⟨f1, f2, f3, f4, f5, f6⟩ := sign_facts _ hs
    rcases hsz with h | ⟨h, h3, h4⟩
    · have : j = 0 := by omega
      subst this
      intro e; rw [e] at f5; revert f5; decide
    · obtain rfl | rfl : j = 0 ∨ j = 1 := by omega
      · intro e; rw [e] at f5; revert f5; decide
      · omega

/-- Lexemes, one behind the other, a line's end behind each. -/
def flat : List Tok → List UInt8
  | [] => []
  | t :: l => (lexB t.kind t.text ++ [b8 10]) ++ flat l
theorem flat_append (l m : List Tok) : flat (l ++ m) = flat l ++ flat m := by
  induction l with
  | nil => rfl
  | cons a l ih => simp only [List.cons_append, flat, ih, List.append_assoc]

/-- One lexeme read again. -/
def Same (k : Nat) (a b : Tok) : Prop := b.kind = a.kind ∧ b.text = a.text ∧ b.num = a.num ∧ b.line = k ∧ b.col = 1

theorem rescan (T : ByteArray) : ∀ (l : List Tok) (p k : Nat) (acc : List Tok), (∀ t ∈ l, Good t.kind t.text t.num) → At T p (flat l) → T.size = p + (flat l).length → acc.length + l.length ≤ 20000 →
    ∃ M, scan T p false (k + 1) 1 acc = .ok (acc ++ M) ∧ M.length = l.length ∧ ∀ i (h : i < l.length) (h' : i < M.length), Same (k + 1 + i) l[i] M[i] := by
  intro l
  induction l with
  | nil =>
    intro p k acc _ _ hsz _
    refine ⟨[], ?_, rfl, fun i h => by simp at h⟩
    simp only [flat, List.length_nil, Nat.add_zero] at hsz
    rw [scan_out (by omega)]
    simp
  | cons a l ih =>
    intro p k acc hg hat hsz hacc
    have hga := hg a (by simp)
    simp only [flat] at hat hsz
    have hal := hat.left
    have har := hat.right
    obtain ⟨h1, h2, h3, h4⟩ := lex_again hga hal acc (by simp at hacc; omega)
    have hline := lex_line hga hal (k + 1) 1
    have hr := at_byte hal.right (j := 0) (n := 10) (by omega) rfl
    rw [Nat.add_zero] at hr
    have d10 := low_at hr (by omega)
    simp only [List.length_append, List.length_cons, List.length_nil] at har hsz hacc
    rw [show p + ((lexB a.kind a.text).length + (0 + 1)) = p + (lexB a.kind a.text).length + 1 by omega] at har
    obtain ⟨M, hM, hlen, hall⟩ := ih (p + (lexB a.kind a.text).length + 1) (k + 1) (acc ++ [⟨a.kind, a.text, a.num, p, k + 1, 1⟩]) (fun t ht => hg t (by simp [ht])) har (by omega) (by simp; omega)
    refine ⟨⟨a.kind, a.text, a.num, p, k + 1, 1⟩ :: M, ?_, by simp [hlen], ?_⟩
    · rw [scan_lexOk h1 h2 h3 h4, scan_blank hr.1 (by unfold slashes; rw [hr.2]; simp) (by rw [hr.2]; decide), d10.1, hline]
      have e1 : lineOn 10 (k + 1) = k + 1 + 1 := rfl
      have e2 : ∀ c, colOn 10 c = 1 := fun c => rfl
      rw [e1, e2, hM]
      simp
    · intro i hi hi'
      cases i with
      | zero => exact ⟨rfl, rfl, rfl, rfl, rfl⟩
      | succ i =>
        have := hall i (by simpa using hi) (by simpa using hi')
        simp only [List.getElem_cons_succ]
        rw [show k + 1 + (i + 1) = k + 1 + 1 + i by omega]
        exact this

/-- Each lexeme of a text is of itself what it is, and not longer than the text. -/
def GoodT (s : ByteArray) (t : Tok) : Prop := Good t.kind t.text t.num ∧ t.text.size ≤ s.size
theorem lexOf_good {s : ByteArray} {p : Nat} {l : List Tok} (hp : p < s.size) {k : Nat} {x : ByteArray} {n e : Nat} (h : lexOf s p l = .ok k x n e) : Good k x n ∧ x.size ≤ s.size := by
  unfold lexOf at h
  cases hw : wrongB s p
  · rw [if_neg (by rw [hw]; simp)] at h
    by_cases hl : l.length = 20000
    · rw [if_pos hl] at h; cases h
    · rw [if_neg hl] at h
      refine ⟨lexAt_good hp hw h, ?_⟩
      unfold lexAt at h
      repeat' split at h
      all_goals first | (cases h; done) | skip
      all_goals
        injection h with hk hx hn he
        rw [← hx]
      · simp; omega
      · simp; omega
      · have := read_len s p (p + 1) []
        show (_ : List UInt8).toArray.size ≤ _
        simp at this ⊢
        omega
      · simp; omega
  · rw [if_pos hw] at h; cases h
theorem scan_good (s : ByteArray) : ∀ (k p : Nat) (rm : Bool) (ln cl : Nat) (l L : List Tok), s.size - p = k → scan s p rm ln cl l = .ok L → (∀ t ∈ l, GoodT s t) → ∀ t ∈ L, GoodT s t := by
  intro k
  induction k using Nat.strongRecOn with
  | _ k ih =>
    intro p rm ln cl l L hk hsc hl
    by_cases hp : p < s.size
    · have hpos := (decode_le s p).2.1
      have hrem : ∀ ln cl L, scan s p true ln cl l = .ok L → ∀ t ∈ L, GoodT s t := fun ln cl L hsc => by
        by_cases h10 : byt s p = 10
        · rw [scan_nl hp h10] at hsc
          exact ih _ (by omega) _ _ _ _ _ _ rfl hsc hl
        · cases hw : wrongB s p
          · rw [scan_rem hp h10 hw] at hsc
            exact ih _ (by omega) _ _ _ _ _ _ rfl hsc hl
          · rw [scan_rbad hp h10 hw] at hsc; cases hsc
      cases rm
      · cases hs : slashes s p
        · cases hb : blankB (byt s p)
          · cases hx : lexOf s p l with
            | bad c q => rw [scan_lexBad hp hs hb hx] at hsc; cases hsc
            | ok kd x n e =>
              have hok := lexOf_ok hp hx
              rw [scan_lexOk hp hs hb hx] at hsc
              refine ih _ (by omega) _ _ _ _ _ _ rfl hsc ?_
              intro t ht
              rw [List.mem_append] at ht
              rcases ht with ht | ht
              · exact hl t ht
              · simp at ht; subst ht; exact lexOf_good hp hx
          · rw [scan_blank hp hs hb] at hsc
            exact ih _ (by omega) _ _ _ _ _ _ rfl hsc hl
        · rw [scan_slash' hp hs] at hsc
          exact hrem _ _ _ hsc
      · exact hrem _ _ _ hsc
    · rw [scan_out hp] at hsc
      injection hsc with hsc
      subst hsc
      exact hl
end Go.Proofs.YtbfoijeboaebdaaDoor
