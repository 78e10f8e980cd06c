/-
  Paths: parts at points, two ways told; a name has no point. Plain facts. No statement of the seat is proved here.
-/
import Derived.Test.YtbfgabldioknfaaDoorH1
import Derived.Test.YtbfgabldioknfaaDoorNameWalks
import Derived.Lib.Split
namespace Go.Proofs.YtbfgabldioknfaaDoor
open Go.ChangeShapes Go.WideShapes Go.ChangeAt Go.RowKit
set_option linter.unusedVariables false

/-! A name has no point. -/
theorem decN_in {n b0 b1 b2 b3 : Nat} (hn : 1 ≤ n) (h0 : b0 < 256) (h1 : b1 < 256) (h2 : b2 < 256) (h3 : b3 < 256) :
    (b0 = 46 → (Lib.decodeN n b0 b1 b2 b3).1 = 46) ∧ (1 < (Lib.decodeN n b0 b1 b2 b3).2 → 128 ≤ b1) ∧ (2 < (Lib.decodeN n b0 b1 b2 b3).2 → 128 ≤ b2) ∧ (3 < (Lib.decodeN n b0 b1 b2 b3).2 → 128 ≤ b3) ∧ (Lib.decodeN n b0 b1 b2 b3).2 ≤ 4 := by
  unfold Lib.decodeN
  repeat' split
  all_goals (simp only; omega)
theorem dec_in (s : ByteArray) (i : Nat) (h : i < s.size) : (byt s i = 46 → (Utf8.decode s i).1 = 46) ∧ ∀ j, 0 < j → j < (Utf8.decode s i).2 → 128 ≤ byt s (i + j) := by
  have := decN_in (n := s.size - i) (b0 := byt s i) (b1 := byt s (i + 1)) (b2 := byt s (i + 2)) (b3 := byt s (i + 3)) (by omega) (byt_lt _ _) (byt_lt _ _) (byt_lt _ _) (byt_lt _ _)
  rw [← decode_byt] at this
  obtain ⟨h1, h2, h3, h4, h5⟩ := this
  refine ⟨h1, fun j hj hjk => ?_⟩
  rcases (show j = 1 ∨ j = 2 ∨ j = 3 by omega) with rfl | rfl | rfl
  · exact h2 hjk
  · exact h3 hjk
  · exact h4 hjk
theorem end_no_dot (s : ByteArray) (pos : Nat) (h : endOf isNam s pos = s.size) (i : Nat) (hp : pos ≤ i) (hi : i < s.size) : byt s i ≠ 46 := by
  by_cases hf : isNam ((Utf8.decode s pos).1 : Int) = true
  · rw [endOf_on (by omega) hf] at h
    obtain ⟨d1, d2⟩ := dec_in s pos (by omega)
    have hk := (decode_le s pos).2.1
    by_cases h1 : i = pos
    · subst h1
      intro e
      rw [d1 e] at hf
      revert hf
      decide
    · by_cases h2 : i < pos + (Utf8.decode s pos).2
      · have := d2 (i - pos) (by omega) (by omega)
        rw [show pos + (i - pos) = i by omega] at this
        omega
      · exact end_no_dot s (pos + (Utf8.decode s pos).2) h i (by omega) hi
  · rw [endOf_stop (by omega) (by simpa using hf)] at h
    omega
termination_by s.size - pos
theorem name_no_dot {s : ByteArray} (h : nameOK s = true) (i : Nat) (hi : i < s.size) : byt s i ≠ 46 := by
  have hw : wordEnd s 0 = s.size := by
    unfold nameOK at h
    simp only [Bool.and_eq_true, decide_eq_true_eq] at h
    exact h.1.2
  unfold wordEnd at hw
  split at hw
  · rename_i hc
    obtain ⟨d1, d2⟩ := dec_in s 0 hc.1
    by_cases h0 : i = 0
    · subst h0
      intro e
      have hf := hc.2
      rw [d1 e] at hf
      revert hf
      decide
    · by_cases h2 : i < 0 + (Utf8.decode s 0).2
      · have := d2 i (by omega) (by omega)
        rw [Nat.zero_add] at this
        omega
      · exact end_no_dot s _ hw i (by omega) hi
  · omega
theorem name_small {s : ByteArray} (h : nameOK s = true) : s.size ≤ 40 := by
  unfold nameOK at h
  simp only [Bool.and_eq_true, decide_eq_true_eq] at h
  exact h.1.1.2
theorem byt_list (s : ByteArray) (i : Nat) (h : i < s.size) : s.data.toList[i]? = some s[i] := by
  rw [List.getElem?_eq_getElem (by simpa using h)]
  rfl
theorem name_no_dot' {s : ByteArray} (h : nameOK s = true) : (46 : UInt8) ∉ s.data.toList := by
  intro hm
  obtain ⟨i, hi, he⟩ := List.getElem_of_mem hm
  have hi' : i < s.size := by simpa using hi
  refine name_no_dot h i hi' ?_
  rw [← byt_eq s i hi']
  have h2 := byt_list s i hi'
  rw [List.getElem?_eq_getElem hi, he] at h2
  simp only [Option.some.injEq] at h2
  rw [← h2]; rfl

/-! Parts. -/
def cutR : List UInt8 → List (List UInt8)
  | [] => [[]]
  | c :: l => if c = 46 then [] :: cutR l else match cutR l with
    | [] => [[c]]
    | h :: t => (c :: h) :: t
theorem cutR_none {a : List UInt8} (h : (46 : UInt8) ∉ a) : cutR a = [a] := by
  induction a with
  | nil => rfl
  | cons c l ih =>
    simp only [List.mem_cons, not_or] at h
    unfold cutR
    rw [if_neg (fun e => h.1 e.symm), ih h.2]
theorem cutR_dot {a : List UInt8} (h : (46 : UInt8) ∉ a) (b : List UInt8) : cutR (a ++ 46 :: b) = a :: cutR b := by
  induction a with
  | nil => simp [cutR]
  | cons c l ih =>
    simp only [List.mem_cons, not_or] at h
    rw [List.cons_append]
    conv => lhs; unfold cutR
    rw [if_neg (fun e => h.1 e.symm), ih h.2]
theorem cutR_sum : ∀ l : List UInt8, ((cutR l).map (fun x => x.length + 1)).sum = l.length + 1
  | [] => rfl
  | c :: l => by
    have ih := cutR_sum l
    unfold cutR
    by_cases h : c = 46
    · rw [if_pos h]; simp [ih]; omega
    · rw [if_neg h]
      cases hc : cutR l with
      | nil => rw [hc] at ih; simp at ih
      | cons a t => rw [hc] at ih; simp at ih ⊢; omega
theorem cutR_pos (l : List UInt8) : 0 < (cutR l).length := by
  cases hc : cutR l with
  | nil => have := cutR_sum l; rw [hc] at this; simp at this
  | cons a t => simp
theorem at_dot {l : List UInt8} {i : Nat} (h1 : l[i]? = some 46) (h2 : ∀ k, k < i → l[k]? ≠ some 46) : l = l.take i ++ 46 :: l.drop (i + 1) ∧ (46 : UInt8) ∉ l.take i := by
  obtain ⟨hi, he⟩ := List.getElem?_eq_some_iff.1 h1
  refine ⟨?_, fun hm => ?_⟩
  · conv => lhs; rw [← List.take_append_drop i l]
    rw [List.drop_eq_getElem_cons hi, he]
  · obtain ⟨k, hk, e⟩ := List.mem_take_iff_getElem.1 hm
    exact h2 k (by omega) (by rw [List.getElem?_eq_getElem (by omega), e])
theorem no_dot_of {l : List UInt8} (h : ∀ k : Nat, l[k]? ≠ some 46) : (46 : UInt8) ∉ l := fun hm => by
  obtain ⟨k, hk, e⟩ := List.getElem_of_mem hm
  exact h k (by rw [List.getElem?_eq_getElem hk, e])
theorem split_all {P : List UInt8 → Bool} (hP : ∀ x, P x = true → (46 : UInt8) ∉ x) : ∀ (k : Nat) (l : List UInt8), (Lib.splitK [46] 0 k l).all P = (decide ((cutR l).length ≤ k + 1) && (cutR l).all P)
  | 0, l => by
    unfold Lib.splitK
    by_cases h : (46 : UInt8) ∈ l
    · have hP0 : P l = false := by
        cases hp : P l
        · rfl
        · exact absurd h (hP l hp)
      obtain ⟨k, hk, e⟩ := List.getElem_of_mem h
      have h2 : ¬ (cutR l).length ≤ 1 := by
        rcases (show Lib.indexByte l 46 = -1 ∨ ∃ o : Nat, Lib.indexByte l 46 = o from by
          have := Lib.indexByte_ge l 46
          by_cases e : Lib.indexByte l 46 = -1
          · exact .inl e
          · exact .inr ⟨(Lib.indexByte l 46).toNat, by omega⟩) with q | ⟨o, q⟩
        · exact absurd (by rw [List.getElem?_eq_getElem hk, e]) (Lib.indexByte_none q k)
        · obtain ⟨q1, q2⟩ := Lib.indexByte_some q
          obtain ⟨s1, s2⟩ := at_dot q1 q2
          have := cutR_dot s2 (l.drop (o + 1))
          rw [← s1] at this
          rw [this]
          have := cutR_pos (l.drop (o + 1))
          simp only [List.length_cons]; omega
      rw [decide_eq_false h2]
      simp [hP0]
    · rw [cutR_none h]; simp
  | k + 1, l => by
    unfold Lib.splitK
    rw [Lib.index_one]
    by_cases h : (46 : UInt8) ∈ l
    · obtain ⟨j, hj, e⟩ := List.getElem_of_mem h
      rcases (show Lib.indexByte l 46 = -1 ∨ ∃ o : Nat, Lib.indexByte l 46 = o from by
        have := Lib.indexByte_ge l 46
        by_cases e : Lib.indexByte l 46 = -1
        · exact .inl e
        · exact .inr ⟨(Lib.indexByte l 46).toNat, by omega⟩) with q | ⟨o, q⟩
      · exact absurd (by rw [List.getElem?_eq_getElem hj, e]) (Lib.indexByte_none q j)
      · obtain ⟨q1, q2⟩ := Lib.indexByte_some q
        obtain ⟨s1, s2⟩ := at_dot q1 q2
        have hc := cutR_dot s2 (l.drop (o + 1))
        rw [← s1] at hc
        rw [hc, q, if_neg (by simp)]
        have ih := split_all hP k (l.drop (o + 1))
        simp only [List.all_cons, List.length_cons, Nat.add_zero, List.length_nil, Nat.zero_add, show ((o : Int)).toNat = o from rfl]
        rw [ih]
        have hd : decide ((cutR (l.drop (o + 1))).length + 1 ≤ k + 1 + 1) = decide ((cutR (l.drop (o + 1))).length ≤ k + 1) := by
          rw [Bool.eq_iff_iff]; simp
        rw [hd]
        cases P (l.take o) <;> cases decide ((cutR (l.drop (o + 1))).length ≤ k + 1) <;> simp
    · have q : Lib.indexByte l 46 = -1 := by
        by_cases e : Lib.indexByte l 46 = -1
        · exact e
        · have := Lib.indexByte_ge l 46
          obtain ⟨q1, _⟩ := Lib.indexByte_some (l := l) (c := 46) (o := (Lib.indexByte l 46).toNat) (by omega)
          exact absurd (List.mem_of_getElem? q1) h
      rw [q, if_pos (by decide), cutR_none h]
      simp
theorem ofNat46 {x : Nat} (h : x < 256) (e : UInt8.ofNat x = 46) : x = 46 := by
  have := congrArg UInt8.toNat e
  rw [UInt8.toNat_ofNat', Nat.mod_eq_of_lt h] at this
  exact this
/-- What is cut, going on from byte to byte, is what is cut at the first point, and so on. -/
theorem byteAt_list (t : ByteArray) (k : Nat) (h : k < t.size) : t.data.toList[k]? = some (UInt8.ofNat (byteAt t k)) := by
  rw [byt_list t k h]
  unfold byteAt
  rw [dif_pos h]
  simp
theorem cutUp_is (t : ByteArray) : ∀ k, k ≤ t.size → (∀ i, (cutUp t 46 k).2 ≤ i → i < k → byteAt t i ≠ 46) ∧ ((cutUp t 46 k).1.map (·.data.toList)) ++ cutR (t.data.toList.drop (cutUp t 46 k).2) = cutR t.data.toList
  | 0, _ => by
    unfold cutUp
    exact ⟨fun i _ h => by omega, by simp⟩
  | k + 1, hk => by
    obtain ⟨h1, h2⟩ := cutUp_is t k (by omega)
    have hle := (cutUp_le t 46 k).1
    obtain ⟨ls, f, hc⟩ : ∃ ls f, cutUp t 46 k = (ls, f) := ⟨_, _, rfl⟩
    rw [hc] at h1 h2 hle
    dsimp only at h1 h2 hle
    by_cases hb : byteAt t k = 46
    · have e : cutUp t 46 (k + 1) = (ls ++ [t.extract f k], k + 1) := by
        conv => lhs; unfold cutUp
        rw [if_pos hb, hc]
      rw [e]
      dsimp only
      refine ⟨fun i _ _ => by omega, ?_⟩
      rw [← h2]
      have hkl : k < t.size := by omega
      have hd : t.data.toList.drop f = (t.data.toList.drop f).take (k - f) ++ 46 :: (t.data.toList.drop f).drop (k - f + 1) ∧ (46 : UInt8) ∉ (t.data.toList.drop f).take (k - f) := by
        refine at_dot ?_ (fun j hj hh => ?_)
        · rw [List.getElem?_drop, show f + (k - f) = k by omega, byteAt_list t k hkl, hb]; rfl
        · rw [List.getElem?_drop, byteAt_list t (f + j) (by omega)] at hh
          have hlt : byteAt t (f + j) < 256 := by
            unfold byteAt; split
            · exact UInt8.toNat_lt _
            · omega
          have hne := h1 (f + j) (by omega) (by omega)
          simp only [Option.some.injEq] at hh
          exact hne (ofNat46 hlt hh)
      rw [hd.1, cutR_dot hd.2]
      have ex : (t.extract f k).data.toList = (t.data.toList.drop f).take (k - f) := by
        rw [Lib.extract_data]
      rw [List.map_append, List.append_assoc]
      simp only [List.map_cons, List.map_nil, List.singleton_append, ex, List.drop_drop]
      rw [show f + (k - f + 1) = k + 1 by omega]
    · have e : cutUp t 46 (k + 1) = (ls, f) := by
        conv => lhs; unfold cutUp
        rw [if_neg hb, hc]
      rw [e]
      refine ⟨fun i hi hik => ?_, h2⟩
      by_cases ei : i = k
      · subst ei; exact hb
      · exact h1 i hi (by omega)
theorem cutF_is (t : ByteArray) : (cutF t 46).map (·.data.toList) = cutR t.data.toList := by
  obtain ⟨h1, h2⟩ := cutUp_is t t.size (Nat.le_refl _)
  have hle := (cutUp_le t 46 t.size).1
  unfold cutF
  rw [List.map_append, ← h2]
  congr 1
  have hn : (46 : UInt8) ∉ t.data.toList.drop (cutUp t 46 t.size).2 := by
    refine no_dot_of (fun j hh => ?_)
    rw [List.getElem?_drop] at hh
    have hl : (cutUp t 46 t.size).2 + j < t.size := by
      have := (List.getElem?_eq_some_iff.1 hh).1
      simpa using this
    rw [byteAt_list t _ hl] at hh
    have hlt : byteAt t ((cutUp t 46 t.size).2 + j) < 256 := by
      unfold byteAt; split
      · exact UInt8.toNat_lt _
      · omega
    simp only [Option.some.injEq] at hh
    exact h1 _ (by omega) hl (ofNat46 hlt hh)
  rw [cutR_none hn]
  simp only [List.map_cons, List.map_nil]
  rw [Lib.extract_data]
  congr 1
  exact List.take_of_length_le (by simp)
def nameL (l : List UInt8) : Bool := nameOK ⟨l.toArray⟩
theorem nameL_data (b : ByteArray) : nameL b.data.toList = nameOK b := by
  rfl
theorem all_names (l : List ByteArray) : l.all nameOK = (l.map (·.data.toList)).all nameL := by
  rw [List.all_map]
  rfl
theorem names_sum {l : List (List UInt8)} (h : l.all nameL = true) : (l.map (fun x => x.length + 1)).sum ≤ l.length * 41 := by
  induction l with
  | nil => simp
  | cons a t ih =>
    simp only [List.all_cons, Bool.and_eq_true] at h
    have h1 := ih h.2
    have h2 := name_small (s := ⟨a.toArray⟩) h.1
    have h3 : a.length ≤ 40 := by simpa [ByteArray.size] using h2
    simp only [List.map_cons, List.sum_cons, List.length_cons]
    omega
/-- What SplitN at points into five gives is names alone just if the text is a path. -/
theorem path_split (t : ByteArray) : (Lib.splitB ⟨#[46]⟩ 0 (min 5 (t.size + 1) - 1) t).all nameOK = pathB nameOK t := by
  rw [all_names, Lib.splitB_data, split_all (fun x hx => by
    have := name_no_dot' (s := ⟨x.toArray⟩) hx
    simpa using this)]
  unfold pathB
  rw [all_names, cutF_is]
  have hl : (cutF t 46).length = (cutR t.data.toList).length := by rw [← cutF_is, List.length_map]
  rw [hl]
  have hs := cutR_sum t.data.toList
  have hz : t.data.toList.length = t.size := by simp
  cases ha : (cutR t.data.toList).all nameL
  · simp
  · have h1 := names_sum ha
    have h2 : (cutR t.data.toList).length ≤ t.size + 1 := by
      have : ∀ l : List (List UInt8), l.length ≤ (l.map (fun x => x.length + 1)).sum := fun l => by
        induction l with
        | nil => simp
        | cons a t ih => simp; omega
      have := this (cutR t.data.toList)
      omega
    simp only [Bool.and_true]
    rw [Bool.eq_iff_iff]
    simp only [decide_eq_true_eq, Bool.and_eq_true]
    omega
end Go.Proofs.YtbfgabldioknfaaDoor
