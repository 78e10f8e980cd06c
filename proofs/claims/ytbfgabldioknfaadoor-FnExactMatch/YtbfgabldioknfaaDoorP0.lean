/-
  Patterns and topics: plain facts. No statement of the seat is proved here.
-/
import Derived.Test.YtbfgabldioknfaaDoorQ1
namespace Go.Proofs.YtbfgabldioknfaaDoor
open Go.ChangeShapes Go.WideShapes Go.ChangeAt Go.RowKit
set_option linter.unusedVariables false
set_option linter.unusedSimpArgs false

def starB (t : ByteArray) : Bool := t.toList == [42]
def hashB (t : ByteArray) : Bool := t.toList == [35]
theorem toList_data (t : ByteArray) : t.toList = t.data.toList := by
  exact ByteArray.toList_eq t
theorem dot_in (l : List UInt8) : (46 : UInt8) ∈ l ∨ (46 : UInt8) ∉ l := by
  by_cases h : (46 : UInt8) ∈ l
  · exact .inl h
  · exact .inr h
theorem index_dot {l : List UInt8} (h : (46 : UInt8) ∈ l) : ∃ o : Nat, Lib.indexByte l 46 = o ∧ l = l.take o ++ 46 :: l.drop (o + 1) ∧ (46 : UInt8) ∉ l.take o := by
  obtain ⟨j, hj, e⟩ := List.getElem_of_mem h
  rcases (show Lib.indexByte l 46 = -1 ∨ ∃ o : Nat, Lib.indexByte l 46 = o from by
    have := Lib.indexByte_ge l 46
    by_cases e : Lib.indexByte l 46 = -1
    · exact .inl e
    · exact .inr ⟨(Lib.indexByte l 46).toNat, by omega⟩) with q | ⟨o, q⟩
  · exact absurd (by rw [List.getElem?_eq_getElem hj, e]) (Lib.indexByte_none q j)
  · obtain ⟨q1, q2⟩ := Lib.indexByte_some q
    obtain ⟨s1, s2⟩ := at_dot q1 q2
    exact ⟨o, q, s1, s2⟩
theorem index_none {l : List UInt8} (h : (46 : UInt8) ∉ l) : Lib.indexByte l 46 = -1 := by
  by_cases e : Lib.indexByte l 46 = -1
  · exact e
  · have := Lib.indexByte_ge l 46
    obtain ⟨q1, _⟩ := Lib.indexByte_some (l := l) (c := 46) (o := (Lib.indexByte l 46).toNat) (by omega)
    exact absurd (List.mem_of_getElem? q1) h
/-- SplitN gives the parts, or has a point in its last one. -/
theorem split_is : ∀ (k : Nat) (l : List UInt8), ((cutR l).length ≤ k + 1 → Lib.splitK [46] 0 k l = cutR l) ∧ (¬ (cutR l).length ≤ k + 1 → ∃ pre x, Lib.splitK [46] 0 k l = pre ++ [x] ∧ (46 : UInt8) ∈ x)
  | 0, l => by
    unfold Lib.splitK
    rcases dot_in l with h | h
    · obtain ⟨o, q, s1, s2⟩ := index_dot h
      have hc := cutR_dot s2 (l.drop (o + 1))
      rw [← s1] at hc
      have := cutR_pos (l.drop (o + 1))
      refine ⟨fun h1 => ?_, fun _ => ⟨[], l, rfl, h⟩⟩
      rw [hc] at h1
      simp only [List.length_cons] at h1
      omega
    · rw [cutR_none h]
      exact ⟨fun _ => rfl, fun h => absurd (Nat.le_refl _) h⟩
  | k + 1, l => by
    unfold Lib.splitK
    rw [Lib.index_one]
    rcases dot_in l with h | h
    · obtain ⟨o, q, s1, s2⟩ := index_dot h
      have hc := cutR_dot s2 (l.drop (o + 1))
      rw [← s1] at hc
      obtain ⟨ih1, ih2⟩ := split_is k (l.drop (o + 1))
      rw [hc, q, if_neg (by simp)]
      simp only [List.length_cons, Nat.add_zero, List.length_nil, Nat.zero_add, show ((o : Int)).toNat = o from rfl]
      refine ⟨fun h1 => by rw [ih1 (by omega)], fun h1 => ?_⟩
      obtain ⟨pre, x, e, hx⟩ := ih2 (by omega)
      exact ⟨l.take o :: pre, x, by rw [e]; rfl, hx⟩
    · rw [index_none h, if_pos (by decide), cutR_none h]
      exact ⟨fun _ => rfl, fun h => absurd (by simp) h⟩
theorem data_inj {a b : List ByteArray} (h : a.map (·.data.toList) = b.map (·.data.toList)) : a = b := by
  induction a generalizing b with
  | nil => cases b with
    | nil => rfl
    | cons y t => simp at h
  | cons x s ih => cases b with
    | nil => simp at h
    | cons y t =>
      simp only [List.map_cons, List.cons.injEq] at h
      rw [ih h.2]
      congr 1
      cases x; cases y
      simp only at h
      congr 1
      exact Array.toList_inj.1 h.1
/-- A text's parts, as SplitN into five gives them. -/
def partsF (t : ByteArray) : List ByteArray := Lib.splitB ⟨#[46]⟩ 0 (min 5 (t.size + 1) - 1) t
theorem cut_len (t : ByteArray) : (cutF t 46).length = (cutR t.data.toList).length := by rw [← cutF_is, List.length_map]
theorem parts_is (t : ByteArray) : ((cutF t 46).length ≤ 5 → partsF t = cutF t 46) ∧ (¬ (cutF t 46).length ≤ 5 → ∃ pre x, partsF t = pre ++ [x] ∧ (46 : UInt8) ∈ x.data.toList) := by
  have hl := cutF_len t 46
  have hp := cutR_pos t.data.toList
  obtain ⟨h1, h2⟩ := split_is (min 5 (t.size + 1) - 1) t.data.toList
  rw [cut_len] at hl ⊢
  have hd : (partsF t).map (·.data.toList) = Lib.splitK [46] 0 (min 5 (t.size + 1) - 1) t.data.toList := Lib.splitB_data ⟨#[46]⟩ 0 _ t
  refine ⟨fun h => ?_, fun h => ?_⟩
  · apply data_inj
    rw [cutF_is, hd, h1 (by omega)]
  · obtain ⟨pre, x, e, hx⟩ := h2 (by omega)
    rw [← hd] at e
    have hne : partsF t ≠ [] := fun h0 => by rw [h0] at e; simp at e
    refine ⟨(partsF t).dropLast, (partsF t).getLast hne, (List.dropLast_concat_getLast hne).symm, ?_⟩
    have h3 := congrArg List.getLast? e
    rw [List.getLast?_map, List.getLast?_append, List.getLast?_singleton, List.getLast?_eq_some_getLast hne] at h3
    simp only [Option.map_some, Option.some_or, Option.some.injEq] at h3
    rw [h3]; exact hx
theorem parts_pos (t : ByteArray) : 0 < (partsF t).length := by
  obtain ⟨h1, h2⟩ := parts_is t
  by_cases h : (cutF t 46).length ≤ 5
  · rw [h1 h, cut_len]; exact cutR_pos _
  · obtain ⟨pre, x, e, _⟩ := h2 h
    rw [e]; simp
theorem parts_len (t : ByteArray) : (partsF t).length ≤ 5 := by
  have := Lib.splitB_length_le ⟨#[46]⟩ 0 (min 5 (t.size + 1) - 1) t
  unfold partsF
  omega
/-- A part that stands alone: a name or a star. -/
def plainB (nameB : ByteArray → Bool) (x : ByteArray) : Bool := starB x || nameB x
def lastHash (ps : List ByteArray) : Bool := match ps.getLast? with | some x => hashB x | none => false
theorem lastHash_snoc (pre : List ByteArray) (x : ByteArray) : lastHash (pre ++ [x]) = hashB x := by
  unfold lastHash
  rw [List.getLast?_append]
  rfl
/-- The parts of a pattern. -/
def patL (nameB : ByteArray → Bool) (ps : List ByteArray) : Bool := (bif lastHash ps then ps.dropLast else ps).all (plainB nameB)
theorem patL_snoc (nameB : ByteArray → Bool) (pre : List ByteArray) (x : ByteArray) : patL nameB (pre ++ [x]) = (pre.all (plainB nameB) && (hashB x || plainB nameB x)) := by
  unfold patL
  rw [lastHash_snoc]
  cases h : hashB x
  · simp
  · simp
/-- A pattern. -/
def patB (nameB : ByteArray → Bool) (t : ByteArray) : Bool := decide (t.size ≤ 205) && decide ((cutF t 46).length ≤ 5) && patL nameB (cutF t 46)
theorem star_size {x : ByteArray} (h : starB x = true) : x.size = 1 := by
  unfold starB at h
  have h := eq_of_beq h
  rw [toList_data] at h
  have := congrArg List.length h
  simpa using this
theorem hash_size {x : ByteArray} (h : hashB x = true) : x.size = 1 := by
  unfold hashB at h
  have h := eq_of_beq h
  rw [toList_data] at h
  have := congrArg List.length h
  simpa using this
theorem plain_small {x : ByteArray} (h : plainB nameOK x = true) : x.size ≤ 40 := by
  unfold plainB at h
  rw [Bool.or_eq_true] at h
  rcases h with h | h
  · have := star_size h; omega
  · exact name_small h
theorem plain_no_dot {x : ByteArray} (h : plainB nameOK x = true) : (46 : UInt8) ∉ x.data.toList := by
  unfold plainB at h
  rw [Bool.or_eq_true] at h
  rcases h with h | h
  · unfold starB at h
    have h := eq_of_beq h
    rw [toList_data] at h
    rw [h]; decide
  · exact name_no_dot' h
theorem hash_no_dot {x : ByteArray} (h : hashB x = true) : (46 : UInt8) ∉ x.data.toList := by
  unfold hashB at h
  have h := eq_of_beq h
  rw [toList_data] at h
  rw [h]; decide
theorem sum_small {l : List ByteArray} (h : ∀ x ∈ l, x.size ≤ 40) : ((l.map (·.data.toList)).map (fun x => x.length + 1)).sum ≤ l.length * 41 := by
  induction l with
  | nil => simp
  | cons a t ih =>
    have h1 := ih (fun x hx => h x (List.mem_cons_of_mem _ hx))
    have h2 := h a List.mem_cons_self
    have h3 : a.data.toList.length = a.size := by simp
    simp only [List.map_cons, List.sum_cons, List.length_cons]
    omega
theorem patL_small {ps : List ByteArray} (h : patL nameOK ps = true) : ∀ x ∈ ps, x.size ≤ 40 := by
  rcases List.eq_nil_or_concat ps with rfl | ⟨pre, x, rfl⟩
  · intro x hx; simp at hx
  · rw [List.concat_eq_append] at h ⊢
    rw [patL_snoc, Bool.and_eq_true, Bool.or_eq_true] at h
    intro y hy
    rcases List.mem_append.1 hy with hy | hy
    · exact plain_small (List.all_eq_true.1 h.1 y hy)
    · simp at hy
      subst hy
      rcases h.2 with h | h
      · have := hash_size h; omega
      · exact plain_small h
/-- What SplitN gives is a pattern's parts just if the text is one. -/
theorem pat_split (t : ByteArray) : patL nameOK (partsF t) = patB nameOK t := by
  obtain ⟨h1, h2⟩ := parts_is t
  unfold patB
  by_cases h : (cutF t 46).length ≤ 5
  · rw [h1 h, decide_eq_true h]
    cases hp : patL nameOK (cutF t 46)
    · simp
    · have h3 := sum_small (patL_small hp)
      rw [cutF_is, cutR_sum] at h3
      have h4 : t.data.toList.length = t.size := by simp
      rw [decide_eq_true (show t.size ≤ 205 by omega)]
      rfl
  · obtain ⟨pre, x, e, hx⟩ := h2 h
    rw [decide_eq_false h, e, patL_snoc]
    have e1 : hashB x = false := by
      cases q : hashB x
      · rfl
      · exact absurd hx (hash_no_dot q)
    have e2 : plainB nameOK x = false := by
      cases q : plainB nameOK x
      · rfl
      · exact absurd hx (plain_no_dot q)
    rw [e1, e2]
    simp

/-- spec's way to hold the parts of a pattern against those of a topic. -/
def matchL : List ByteArray → List ByteArray → Bool
  | [], ts => ts.length == 0
  | p :: ps, ts => if ps = [] ∧ hashB p = true then true else match ts with
    | [] => false
    | t :: ts => (starB p || p.toList == t.toList) && matchL ps ts
/-- impl's way. -/
def alikeL : List ByteArray → List ByteArray → Bool
  | [], ts => ts.length == 0
  | p :: ps, ts => if hashB p = true then true else match ts with
    | [] => false
    | t :: ts => if (!starB p && p.toList != t.toList) = true then false else alikeL ps ts
theorem nameOK_hash {x : ByteArray} (h : hashB x = true) : nameOK x = false := by
  unfold hashB at h
  have h := eq_of_beq h
  rw [toList_data] at h
  have e : x = ⟨#[35]⟩ := by
    cases x
    simp only at h
    congr 1
    exact Array.toList_inj.1 h
  subst e
  cases hn : nameOK ⟨#[35]⟩
  · rfl
  · exfalso
    unfold nameOK at hn
    simp only [Bool.and_eq_true, decide_eq_true_eq] at hn
    have hw := hn.1.2
    unfold wordEnd at hw
    split at hw
    · rename_i hc
      have := hc.2
      revert this
      decide
    · exact absurd hw (by decide)
theorem plain_hash {x : ByteArray} (h : plainB nameOK x = true) : hashB x = false := by
  cases q : hashB x
  · rfl
  · unfold plainB at h
    rw [nameOK_hash q] at h
    unfold starB at h
    unfold hashB at q
    rw [eq_of_beq q] at h
    exact absurd h (by decide)
theorem patL_cons {p : ByteArray} {ps : List ByteArray} (hne : ps ≠ []) (h : patL nameOK (p :: ps) = true) : plainB nameOK p = true ∧ patL nameOK ps = true := by
  rcases List.eq_nil_or_concat ps with rfl | ⟨pre, x, rfl⟩
  · exact absurd rfl hne
  · rw [List.concat_eq_append] at h ⊢
    rw [← List.cons_append, patL_snoc] at h
    rw [patL_snoc]
    simp only [List.all_cons, Bool.and_eq_true] at h ⊢
    exact ⟨h.1.1, h.1.2, h.2⟩
theorem match_alike : ∀ (ps ts : List ByteArray), patL nameOK ps = true → alikeL ps ts = matchL ps ts
  | [], ts, _ => rfl
  | p :: ps, ts, h => by
    unfold alikeL matchL
    by_cases hn : ps = []
    · subst hn
      cases hh : hashB p
      · simp only [Bool.false_eq_true, if_false, and_false]
        cases ts with
        | nil => rfl
        | cons t ts =>
          simp only
          rw [show alikeL [] ts = matchL [] ts from rfl]
          cases starB p <;> cases e : (p.toList == t.toList) <;> simp [bne, e]
      · simp
    · obtain ⟨h1, h2⟩ := patL_cons hn h
      rw [plain_hash h1]
      simp only [Bool.false_eq_true, if_false, and_false]
      cases ts with
      | nil => rfl
      | cons t ts =>
        simp only
        rw [match_alike ps ts h2]
        cases starB p <;> cases e : (p.toList == t.toList) <;> simp [bne, e]
/-- What Match answers. -/
def matchF (p t : ByteArray) : Bool := patB nameOK p && pathB nameOK t && matchL (cutF p 46) (cutF t 46)
theorem path_parts {t : ByteArray} (h : pathB nameOK t = true) : partsF t = cutF t 46 := by
  unfold pathB at h
  simp only [Bool.and_eq_true, decide_eq_true_eq] at h
  exact (parts_is t).1 h.1.2
theorem pat_parts {t : ByteArray} (h : patB nameOK t = true) : partsF t = cutF t 46 := by
  unfold patB at h
  simp only [Bool.and_eq_true, decide_eq_true_eq] at h
  exact (parts_is t).1 h.1.2
theorem pat_size {t : ByteArray} (h : patB nameOK t = true) : t.size ≤ 205 := by
  unfold patB at h
  simp only [Bool.and_eq_true, decide_eq_true_eq] at h
  exact h.1.1
theorem path_size {t : ByteArray} (h : pathB nameOK t = true) : t.size ≤ 205 := by
  unfold pathB at h
  simp only [Bool.and_eq_true, decide_eq_true_eq] at h
  exact h.1.1
theorem matchF_alike (p t : ByteArray) : matchF p t = (patB nameOK p && pathB nameOK t && alikeL (partsF p) (partsF t)) := by
  unfold matchF
  cases hp : patB nameOK p
  · rfl
  · cases ht : pathB nameOK t
    · rfl
    · rw [pat_parts hp, path_parts ht]
      have h : patL nameOK (cutF p 46) = true := by
        unfold patB at hp
        simp only [Bool.and_eq_true] at hp
        exact hp.2
      rw [match_alike _ _ h]
end Go.Proofs.YtbfgabldioknfaaDoor
