/-
  Words joined and cut again, lines joined and cut again. Numbers written and read again. No statement of the seat is proved here.
-/
import Derived.Test.YthopmdfichfhdaaGreatDoorJ3
import Derived.Lib.Join
import Derived.Lib.ItoaNum
namespace Go.Proofs.YthopmdfichfhdaaGreatDoor
open Go.ChangeShapes Go.WideShapes Go.ChangeAt Go.RowKit
set_option linter.unusedVariables false
set_option linter.unusedSimpArgs false

/-- The words ahead, the word that has begun. -/
def stW (s : List (List UInt8) × List UInt8) (b : UInt8) : List (List UInt8) × List UInt8 := if b = 32 then (if s.2 = [] then s.1 else s.1 ++ [s.2], []) else (s.1, s.2 ++ [b])
def finW (s : List (List UInt8) × List UInt8) : List (List UInt8) := if s.2 = [] then s.1 else s.1 ++ [s.2]
def stC (g : UInt8) (s : List (List UInt8) × List UInt8) (b : UInt8) : List (List UInt8) × List UInt8 := if b = g then (s.1 ++ [s.2], []) else (s.1, s.2 ++ [b])
theorem byteAt_get {t : ByteArray} {k : Nat} {b : UInt8} (h : t.data.toList[k]? = some b) (g : UInt8) : byteAt t k = g.toNat ↔ b = g := by
  obtain ⟨h1, _⟩ := byteAt_list t k b h
  rw [h1]
  exact ⟨fun e => UInt8.toNat_inj.1 e, fun e => by rw [e]⟩
theorem ext_list (t : ByteArray) (f k : Nat) (hf : f ≤ k) : (t.extract f k).data.toList = (t.data.toList.take k).drop f := by
  rw [ByteArray.data_extract, Array.toList_extract, List.extract_eq_take_drop, List.drop_take]
theorem take_snoc {α : Type} {l : List α} {k : Nat} {b : α} (h : l[k]? = some b) : l.take (k + 1) = l.take k ++ [b] := by
  rw [List.take_add_one, h]
  rfl
theorem words_fold (t : ByteArray) : ∀ k, k ≤ t.size → (t.data.toList.take k).foldl stW ([], []) = ((wordsUp t k).1.map (fun x => x.data.toList), (t.data.toList.take k).drop (wordsUp t k).2)
  | 0, _ => rfl
  | k + 1, hk => by
    have ih := words_fold t k (by omega)
    have hlt : k < t.data.toList.length := by rw [len_data]; omega
    obtain ⟨b, hb⟩ : ∃ b, t.data.toList[k]? = some b := ⟨_, List.getElem?_eq_getElem hlt⟩
    have hle := (wordsUp_le t k).1
    have htl : (t.data.toList.take k).length = k := by rw [List.length_take]; omega
    rw [take_snoc hb, List.foldl_append, ih, wordsUp_succ]
    show stW _ b = _
    unfold stW
    have h32 : byteAt t k = 32 ↔ b = 32 := byteAt_get hb 32
    by_cases h : b = 32
    · rw [if_pos h, if_pos (h32.2 h)]
      dsimp only
      have hd : ((t.data.toList.take k).drop (wordsUp t k).2 = []) ↔ ¬ (wordsUp t k).2 < k := by
        rw [List.drop_eq_nil_iff, htl]
        omega
      have he : (List.take k t.data.toList ++ [b]).drop (k + 1) = [] := by
        rw [List.drop_eq_nil_iff, List.length_append, htl]
        simp
      rw [he]
      by_cases hf : (wordsUp t k).2 < k
      · rw [if_neg (fun e => hd.1 e hf), if_pos hf, List.map_append, List.map_singleton, ext_list _ _ _ hle]
      · rw [if_pos (hd.2 hf), if_neg hf]
    · rw [if_neg h, if_neg (fun e => h (h32.1 e))]
      dsimp only
      rw [List.drop_append_of_le_length (by rw [htl]; exact hle)]
theorem words_is (t : ByteArray) : (wordsF t).map (fun x => x.data.toList) = finW (t.data.toList.foldl stW ([], [])) := by
  have h := words_fold t t.size (Nat.le_refl _)
  have hle := (wordsUp_le t t.size).1
  have ht : t.data.toList.take t.size = t.data.toList := by rw [← len_data]; exact List.take_length
  rw [ht] at h
  rw [h]
  unfold finW wordsF
  dsimp only
  have hd : (t.data.toList.drop (wordsUp t t.size).2 = []) ↔ ¬ (wordsUp t t.size).2 < t.size := by
    rw [List.drop_eq_nil_iff, len_data]
    omega
  by_cases hf : (wordsUp t t.size).2 < t.size
  · rw [if_pos hf, if_neg (fun e => hd.1 e hf), List.map_append, List.map_singleton, ext_list _ _ _ hle, ht]
  · rw [if_neg hf, if_pos (hd.2 hf)]
theorem cut_fold (t : ByteArray) (g : UInt8) : ∀ k, k ≤ t.size → (t.data.toList.take k).foldl (stC g) ([], []) = ((cutUp t g.toNat k).1.map (fun x => x.data.toList), (t.data.toList.take k).drop (cutUp t g.toNat k).2)
  | 0, _ => rfl
  | k + 1, hk => by
    have ih := cut_fold t g k (by omega)
    have hlt : k < t.data.toList.length := by rw [len_data]; omega
    obtain ⟨b, hb⟩ : ∃ b, t.data.toList[k]? = some b := ⟨_, List.getElem?_eq_getElem hlt⟩
    have hle := (cutUp_le t g.toNat k).1
    have htl : (t.data.toList.take k).length = k := by rw [List.length_take]; omega
    rw [take_snoc hb, List.foldl_append, ih, cutUp_succ]
    show stC g _ b = _
    unfold stC
    by_cases h : b = g
    · rw [if_pos h, if_pos ((byteAt_get hb g).2 h)]
      dsimp only
      have he : (List.take k t.data.toList ++ [b]).drop (k + 1) = [] := by
        rw [List.drop_eq_nil_iff, List.length_append, htl]
        simp
      rw [he, List.map_append, List.map_singleton, ext_list _ _ _ hle]
    · rw [if_neg h, if_neg (fun e => h ((byteAt_get hb g).1 e))]
      dsimp only
      rw [List.drop_append_of_le_length (by rw [htl]; exact hle)]
theorem cut_is (t : ByteArray) (g : UInt8) : (cutF t g.toNat).map (fun x => x.data.toList) = (t.data.toList.foldl (stC g) ([], [])).1 ++ [(t.data.toList.foldl (stC g) ([], [])).2] := by
  have h := cut_fold t g t.size (Nat.le_refl _)
  have hle := (cutUp_le t g.toNat t.size).1
  have ht : t.data.toList.take t.size = t.data.toList := by rw [← len_data]; exact List.take_length
  rw [ht] at h
  rw [h]
  unfold cutF
  rw [List.map_append, List.map_singleton, ext_list _ _ _ hle, ht]
/-! ### What is joined -/
def Plain (g : UInt8) (w : List UInt8) : Prop := ∀ b ∈ w, b ≠ g
theorem foldW_plain {w : List UInt8} (h : Plain 32 w) : ∀ (a : List (List UInt8)) (cur : List UInt8), w.foldl stW (a, cur) = (a, cur ++ w) := by
  induction w with
  | nil => intro a cur; simp
  | cons b w ih =>
    intro a cur
    rw [List.foldl_cons]
    have hb : stW (a, cur) b = (a, cur ++ [b]) := by
      unfold stW
      rw [if_neg (h b (List.mem_cons_self ..))]
    rw [hb, ih (fun c hc => h c (List.mem_cons_of_mem _ hc))]
    simp
theorem foldC_plain {g : UInt8} {w : List UInt8} (h : Plain g w) : ∀ (a : List (List UInt8)) (cur : List UInt8), w.foldl (stC g) (a, cur) = (a, cur ++ w) := by
  induction w with
  | nil => intro a cur; simp
  | cons b w ih =>
    intro a cur
    rw [List.foldl_cons]
    have hb : stC g (a, cur) b = (a, cur ++ [b]) := by
      unfold stC
      rw [if_neg (h b (List.mem_cons_self ..))]
    rw [hb, ih (fun c hc => h c (List.mem_cons_of_mem _ hc))]
    simp
theorem join_two (w v : List UInt8) (r : List (List UInt8)) (s : List UInt8) : Lib.join (w :: v :: r) s = w ++ (s ++ Lib.join (v :: r) s) := by
  unfold Lib.join List.intercalate
  simp
theorem join_single (w s : List UInt8) : Lib.join [w] s = w := by
  unfold Lib.join List.intercalate
  simp
theorem join_nil (s : List UInt8) : Lib.join [] s = [] := by
  unfold Lib.join List.intercalate
  simp
theorem words_join : ∀ (ws : List (List UInt8)) (a : List (List UInt8)), (∀ w ∈ ws, w ≠ [] ∧ Plain 32 w) → finW ((Lib.join ws [32]).foldl stW (a, [])) = a ++ ws
  | [], a, _ => by rw [join_nil]; simp [finW]
  | [w], a, h => by
    obtain ⟨h1, h2⟩ := h w (List.mem_cons_self ..)
    rw [join_single, foldW_plain h2]
    simp [finW, h1]
  | w :: v :: r, a, h => by
    obtain ⟨h1, h2⟩ := h w (List.mem_cons_self ..)
    rw [join_two, List.foldl_append, foldW_plain h2, List.nil_append, List.foldl_append]
    have e : [32].foldl stW (a, w) = (a ++ [w], []) := by
      show stW (a, w) 32 = _
      unfold stW
      rw [if_pos rfl]
      simp [h1]
    rw [e, words_join (v :: r) (a ++ [w]) (fun x hx => h x (List.mem_cons_of_mem _ hx))]
    simp
theorem words_blank (l : List UInt8) (a : List (List UInt8)) : (32 :: l).foldl stW (a, []) = l.foldl stW (a, []) := by
  rw [List.foldl_cons]
  have e : stW (a, []) 32 = (a, []) := by
    unfold stW
    rw [if_pos rfl]
    simp
  rw [e]
theorem lines_join (g : UInt8) : ∀ (ws : List (List UInt8)) (a : List (List UInt8)), ws ≠ [] → (∀ w ∈ ws, Plain g w) → (Lib.join ws [g] ++ [g]).foldl (stC g) (a, []) = (a ++ ws, [])
  | [], a, h0, _ => absurd rfl h0
  | [w], a, _, h => by
    have h2 := h w (List.mem_cons_self ..)
    rw [join_single, List.foldl_append, foldC_plain h2]
    show stC g (a, [] ++ w) g = _
    unfold stC
    rw [if_pos rfl]
    simp
  | w :: v :: r, a, _, h => by
    have h2 := h w (List.mem_cons_self ..)
    rw [join_two, List.append_assoc, List.foldl_append, foldC_plain h2, List.nil_append, List.append_assoc, List.foldl_append]
    have e : [g].foldl (stC g) (a, w) = (a ++ [w], []) := by
      show stC g (a, w) g = _
      unfold stC
      rw [if_pos rfl]
    rw [e, lines_join g (v :: r) (a ++ [w]) (by simp) (fun x hx => h x (List.mem_cons_of_mem _ hx))]
    simp
def mkT (l : List UInt8) : ByteArray := ⟨l.toArray⟩
theorem mkT_list (l : List UInt8) : (mkT l).data.toList = l := rfl
theorem mkT_inj {t : ByteArray} {l : List UInt8} (h : t.data.toList = l) : t = mkT l := by
  subst h
  rfl
theorem map_mk {xs : List ByteArray} {ls : List (List UInt8)} (h : xs.map (fun x => x.data.toList) = ls) : xs = ls.map mkT := by
  subst h
  rw [List.map_map]
  conv => lhs; rw [← List.map_id xs]
  refine List.map_congr_left fun x _ => ?_
  exact mkT_inj rfl
/-- Words with one blank between, two ahead or none: the same words. -/
theorem words_back {ws : List (List UInt8)} (h : ∀ w ∈ ws, w ≠ [] ∧ Plain 32 w) : wordsF (mkT (Lib.join ws [32])) = ws.map mkT := by
  refine map_mk ?_
  rw [words_is, mkT_list, words_join ws [] h, List.nil_append]
theorem words_back2 {ws : List (List UInt8)} (h : ∀ w ∈ ws, w ≠ [] ∧ Plain 32 w) : wordsF (mkT (32 :: 32 :: Lib.join ws [32])) = ws.map mkT := by
  refine map_mk ?_
  rw [words_is, mkT_list, words_blank, words_blank, words_join ws [] h, List.nil_append]
theorem lines_back {ws : List (List UInt8)} (h0 : ws ≠ []) (h : ∀ w ∈ ws, Plain 10 w) : cutF (mkT (Lib.join ws [10] ++ [10])) 10 = ws.map mkT ++ [mkT []] := by
  have := map_mk (cut_is (mkT (Lib.join ws [10] ++ [10])) 10)
  rw [mkT_list, lines_join 10 ws [] h0 h] at this
  rw [show (10 : Nat) = (10 : UInt8).toNat from rfl, this]
  simp
theorem line_back {l : List UInt8} (h : Plain 35 l) : lineF (mkT l) = mkT l := by
  have := map_mk (cut_is (mkT l) 35)
  rw [mkT_list, foldC_plain h] at this
  unfold lineF
  rw [show (35 : Nat) = (35 : UInt8).toNat from rfl, this]
  rfl
theorem plain_join {g : UInt8} {s : List UInt8} (hs : Plain g s) : ∀ (ws : List (List UInt8)), (∀ w ∈ ws, Plain g w) → Plain g (Lib.join ws s)
  | [], _ => by rw [join_nil]; intro b hb; cases hb
  | [w], h => by rw [join_single]; exact h w (List.mem_cons_self ..)
  | w :: v :: r, h => by
    rw [join_two]
    intro b hb
    rcases List.mem_append.1 hb with hb | hb
    · exact h w (List.mem_cons_self ..) b hb
    · rcases List.mem_append.1 hb with hb | hb
      · exact hs b hb
      · exact plain_join hs (v :: r) (fun x hx => h x (List.mem_cons_of_mem _ hx)) b hb
end Go.Proofs.YthopmdfichfhdaaGreatDoor

namespace Go.Proofs.YthopmdfichfhdaaGreatDoor
open Go.ChangeShapes Go.WideShapes Go.ChangeAt Go.RowKit
set_option linter.unusedVariables false
set_option linter.unusedSimpArgs false

theorem mkT_size (l : List UInt8) : (mkT l).size = l.length := rfl
theorem mkT_byt (l : List UInt8) (i : Nat) (b : UInt8) (h : l[i]? = some b) : byt (mkT l) i = b.toNat := by
  have hi : i < l.length := (List.getElem?_eq_some_iff.1 h).1
  rw [← byt_eq (mkT l) i hi]
  obtain ⟨h1, h2⟩ := List.getElem?_eq_some_iff.1 h
  rw [← h2]
  rfl
theorem mkT_ext (l : List UInt8) : (mkT l).extract 1 (mkT l).size = mkT (l.drop 1) := by
  refine mkT_inj ?_
  by_cases h : 1 ≤ (mkT l).size
  · rw [ext_list _ _ _ h, mkT_list, mkT_size, List.take_length]
  · rw [mkT_size] at h
    have : l = [] := List.eq_nil_of_length_eq_zero (by omega)
    subst this
    rfl
/-! ### Digits -/
theorem u8_digit (d : Nat) (h : d < 10) : (UInt8.ofNat (48 + d)).toNat = 48 + d := by
  rw [UInt8.toNat_ofNat_of_lt']
  show 48 + d < 256
  omega
theorem dec_digits : ∀ (u : Nat), ∀ b ∈ Lib.decDigits u, 48 ≤ b.toNat ∧ b.toNat ≤ 57 := by
  intro u
  induction u using Nat.strongRecOn with
  | _ u ih =>
    intro b hb
    by_cases h : u < 10
    · rw [Lib.decDigits, dif_pos h, List.mem_singleton] at hb
      rw [hb, u8_digit u h]
      omega
    · rw [Lib.decDigits, dif_neg h] at hb
      rcases List.mem_append.1 hb with hb | hb
      · exact ih (u / 10) (by omega) b hb
      · rw [List.mem_singleton.1 hb, u8_digit _ (Nat.mod_lt _ (by decide))]
        have := Nat.mod_lt u (show 10 > 0 by decide)
        omega
theorem dec_ne (u : Nat) : Lib.decDigits u ≠ [] := by
  rw [Lib.decDigits]
  split <;> simp
theorem dec_head : ∀ (u : Nat), 1 ≤ u → ∃ b, (Lib.decDigits u)[0]? = some b ∧ b.toNat ≠ 48 := by
  intro u
  induction u using Nat.strongRecOn with
  | _ u ih =>
    intro h1
    by_cases h : u < 10
    · rw [Lib.decDigits, dif_pos h]
      exact ⟨_, rfl, by rw [u8_digit u h]; omega⟩
    · obtain ⟨b, hb, hn⟩ := ih (u / 10) (by omega) (by omega)
      rw [Lib.decDigits, dif_neg h]
      refine ⟨b, ?_, hn⟩
      rw [List.getElem?_append_left (List.getElem?_eq_some_iff.1 hb).1]
      exact hb
theorem dec_num : ∀ (u : Nat), numOf (Lib.decDigits u) = u := by
  intro u
  induction u using Nat.strongRecOn with
  | _ u ih =>
    by_cases h : u < 10
    · rw [Lib.decDigits, dif_pos h]
      unfold numOf
      simp only [List.foldl_cons, List.foldl_nil, u8_digit u h]
      omega
    · rw [Lib.decDigits, dif_neg h]
      have := ih (u / 10) (by omega)
      unfold numOf at this ⊢
      rw [List.foldl_append, this]
      simp only [List.foldl_cons, List.foldl_nil, u8_digit _ (Nat.mod_lt u (show 10 > 0 by decide))]
      omega
theorem dec_len : ∀ (k u : Nat), u < 10 ^ (k + 1) → (Lib.decDigits u).length ≤ k + 1
  | 0, u, h => by
    rw [Lib.decDigits, dif_pos (by simpa using h)]
    simp
  | k + 1, u, h => by
    by_cases h10 : u < 10
    · rw [Lib.decDigits, dif_pos h10]
      simp
    · rw [Lib.decDigits, dif_neg h10, List.length_append]
      have := dec_len k (u / 10) (by rw [Nat.pow_succ] at h; omega)
      simp
      omega
theorem dec_digs (u : Nat) : digsB (mkT (Lib.decDigits u)) = true := by
  refine digs_yes (fun i hi => ?_)
  rw [mkT_size] at hi
  rw [mkT_byt _ i _ (List.getElem?_eq_getElem hi)]
  exact dec_digits u _ (List.getElem_mem hi)
theorem dec_headB (u : Nat) (hu : u < 10 ^ 18) (neg : Bool) (hn : neg = true → 1 ≤ u) : headB (mkT (Lib.decDigits u)) neg = false := by
  have hl := dec_len 17 u hu
  have hp := List.length_pos_iff.2 (dec_ne u)
  unfold headB
  rw [mkT_size, decide_eq_false (by omega), decide_eq_false (by omega)]
  by_cases h1 : 1 ≤ u
  · obtain ⟨b, hb, hne⟩ := dec_head u h1
    rw [mkT_byt _ 0 b hb, decide_eq_false hne]
    rfl
  · have hu0 : u = 0 := by omega
    subst hu0
    cases neg
    · have e : (Lib.decDigits 0).length = 1 := by rw [Lib.decDigits, dif_pos (by decide)]; rfl
      rw [e]
      simp
    · exact absurd (hn rfl) h1
/-- A number's text. -/
def itoaT (n : Int) : ByteArray := mkT (Lib.itoa n)
theorem itoa_read {n : Int} (h : rangeB n = true) : numB (itoaT n) = true ∧ numV (itoaT n) = n := by
  unfold rangeB at h
  rw [Bool.and_eq_true, decide_eq_true_iff, decide_eq_true_iff] at h
  by_cases h0 : n < 0
  · have hi : itoaT n = mkT (45 :: Lib.decDigits n.natAbs) := by unfold itoaT Lib.itoa; rw [if_pos h0]
    have hneg : negB (itoaT n) = true := by
      rw [hi]
      unfold negB
      rw [mkT_byt _ 0 45 rfl, mkT_size]
      simp
    have habs : absT (itoaT n) = mkT (Lib.decDigits n.natAbs) := by
      unfold absT
      rw [hneg, if_pos rfl, hi, mkT_ext]
      rfl
    have hb : numB (itoaT n) = true := by
      unfold numB
      rw [habs, hneg, dec_headB n.natAbs (by simp only [Nat.reducePow]; omega) true (fun _ => by omega), dec_digs]
      rfl
    refine ⟨hb, ?_⟩
    unfold numV
    rw [hb, hneg, habs, mkT_list, dec_num]
    simp only [if_true]
    omega
  · have hi : itoaT n = mkT (Lib.decDigits n.toNat) := by unfold itoaT Lib.itoa; rw [if_neg h0]
    have hneg : negB (itoaT n) = false := by
      rw [hi]
      unfold negB
      have hp := List.length_pos_iff.2 (dec_ne n.toNat)
      have hd := dec_digits n.toNat _ (List.getElem_mem hp)
      rw [mkT_byt _ 0 _ (List.getElem?_eq_getElem hp), decide_eq_false (show ¬ (Lib.decDigits n.toNat)[0].toNat = 45 by omega)]
      simp
    have habs : absT (itoaT n) = mkT (Lib.decDigits n.toNat) := by
      unfold absT
      rw [hneg, hi]
      rfl
    have hb : numB (itoaT n) = true := by
      unfold numB
      rw [habs, hneg, dec_headB n.toNat (by simp only [Nat.reducePow]; omega) false (fun h => by cases h), dec_digs]
      rfl
    refine ⟨hb, ?_⟩
    unfold numV
    rw [hb, hneg, habs, mkT_list, dec_num]
    simp only [if_true, Bool.false_eq_true, if_false]
    omega
theorem itoa_chars (n : Int) : ∀ b ∈ Lib.itoa n, b.toNat = 45 ∨ (48 ≤ b.toNat ∧ b.toNat ≤ 57) := by
  intro b hb
  unfold Lib.itoa at hb
  split at hb
  · rcases List.mem_cons.1 hb with rfl | hb
    · left; rfl
    · right; exact dec_digits _ b hb
  · right; exact dec_digits _ b hb
theorem itoa_ne (n : Int) : Lib.itoa n ≠ [] := by
  unfold Lib.itoa
  split
  · simp
  · exact dec_ne _
theorem itoa_plain (n : Int) (g : UInt8) (hg : g.toNat < 45 ∨ g.toNat = 46 ∨ g.toNat = 47 ∨ 57 < g.toNat) : Plain g (Lib.itoa n) := by
  intro b hb e
  have := itoa_chars n b hb
  rw [e] at this
  omega
/-- A letter, and a number behind it. -/
theorem beg_lett (c : UInt8) (l : List UInt8) : begB (mkT (c :: l)) c.toNat = true ∧ restT (mkT (c :: l)) c.toNat = mkT l := by
  have h : begB (mkT (c :: l)) c.toNat = true := by
    unfold begB
    rw [mkT_byt _ 0 c rfl, mkT_size]
    simp
  refine ⟨h, ?_⟩
  unfold restT
  rw [if_pos h, mkT_ext]
  rfl
theorem nb_lett (c : UInt8) {n lo hi : Int} (hr : rangeB n = true) (h1 : lo ≤ n) (h2 : n ≤ hi) : nbB (mkT (c :: Lib.itoa n)) c.toNat lo hi = true ∧ numV (restT (mkT (c :: Lib.itoa n)) c.toNat) = n := by
  obtain ⟨e1, e2⟩ := beg_lett c (Lib.itoa n)
  obtain ⟨q1, q2⟩ := itoa_read hr
  unfold itoaT at q1 q2
  unfold nbB
  rw [e1, e2, q1, q2, decide_eq_true h1, decide_eq_true h2]
  exact ⟨rfl, rfl⟩
theorem beg_no (n : Int) : begB (itoaT n) 114 = false := by
  have hp := List.length_pos_iff.2 (itoa_ne n)
  have hc := itoa_chars n _ (List.getElem_mem hp)
  unfold begB itoaT
  rw [mkT_byt _ 0 _ (List.getElem?_eq_getElem hp), decide_eq_false (show ¬ (Lib.itoa n)[0].toNat = 114 by omega)]
  simp
end Go.Proofs.YthopmdfichfhdaaGreatDoor
