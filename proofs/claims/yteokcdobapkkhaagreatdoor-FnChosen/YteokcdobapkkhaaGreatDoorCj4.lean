/-
  What a store and a shelf of it tell of one another: what a need reaches, what a search comes to, the names that are lost. The greatest release of each name: what impl's row of last ones and the document's picks have in common. The least need that is passed: impl's claims in order, and the document's search. The newest releases that fit: impl's way and the document's. The law on Newest: its walk, over what the two Newest answer. strings.Clone, and impl.ownTexts. impl.ownPicks. impl.sortByTwo over releases. slices.Sort and slices.Compact over texts of one's own. impl.missing: its walk. impl.greatest: its walk. No statement of the seat is proved here.
-/
import Derived.Test.YteokcdobapkkhaaGreatDoorCj3
import Derived.Sort.OwnSorted
import Derived.Lib.RowBridge
import Derived.Laws.AppendOwnNone
namespace Go.Proofs.YteokcdobapkkhaaGreatDoor
open Go.ChangeShapes Go.WideShapes Go.ChangeAt Go.RowKit
set_option linter.unusedVariables false

def relPk (r : Rel) : Pk := ⟨r.name, r.ver⟩
/-- A store, and a shelf of it. -/
structure Same (l : List Rel) (R : List Pk) (nf : Pk → List Imp) : Prop where
  perm : R.Perm (l.map relPk)
  rises : R.Pairwise fun x y => pkLess y x = false
  needs : ∀ r ∈ l, nf (relPk r) = r.needs

theorem reachUp_out {l : List Rel} {m : Imp} {k : Nat} (hk : ¬ k < l.length) : reachUp l m (k + 1) = reachUp l m k := by
  conv => lhs; unfold reachUp
  rw [List.getElem?_eq_none (by omega)]
theorem reachUp_ok (l : List Rel) (m : Imp) : ∀ k, (∀ j, reachUp l m k = some j → ∃ hj : j < l.length, fitsB m l[j] = true ∧ ∀ i (hi : i < l.length), i < k → fitsB m l[i] = true → l[j].ver ≤ l[i].ver) ∧ (reachUp l m k = none → ∀ i (hi : i < l.length), i < k → fitsB m l[i] = false) := by
  intro k
  induction k with
  | zero => exact ⟨fun j h => by simp [reachUp] at h, fun _ i _ h => by omega⟩
  | succ k ih =>
    obtain ⟨ih1, ih2⟩ := ih
    by_cases hk : k < l.length
    · cases hf : fitsB m l[k]
      · rw [reachUp_no hk hf]
        refine ⟨fun j h => ?_, fun h i hi hik => ?_⟩
        · obtain ⟨hj, h1, h2⟩ := ih1 j h
          refine ⟨hj, h1, fun i hi hik hfi => ?_⟩
          by_cases e : i = k
          · subst e; rw [hf] at hfi; cases hfi
          · exact h2 i hi (by omega) hfi
        · by_cases e : i = k
          · subst e; exact hf
          · exact ih2 h i hi (by omega)
      · cases h0 : reachUp l m k with
        | none =>
          rw [reachUp_first hk hf h0]
          refine ⟨fun j h => ?_, fun h => by cases h⟩
          cases h
          refine ⟨hk, hf, fun i hi hik hfi => ?_⟩
          by_cases e : i = k
          · subst e; omega
          · rw [ih2 h0 i hi (by omega)] at hfi; cases hfi
        | some j =>
          obtain ⟨hj, h1, h2⟩ := ih1 j h0
          by_cases hl : l[k].ver < l[j].ver
          · rw [reachUp_less hk hj hf h0 hl]
            refine ⟨fun j' h => ?_, fun h => by cases h⟩
            cases h
            refine ⟨hk, hf, fun i hi hik hfi => ?_⟩
            by_cases e : i = k
            · subst e; omega
            · have := h2 i hi (by omega) hfi; omega
          · rw [reachUp_more hk hj hf h0 hl]
            refine ⟨fun j' h => ?_, fun h => by cases h⟩
            cases h
            refine ⟨hj, h1, fun i hi hik hfi => ?_⟩
            by_cases e : i = k
            · subst e; omega
            · exact h2 i hi (by omega) hfi
    · rw [reachUp_out hk]
      exact ⟨fun j h => by obtain ⟨hj, h1, h2⟩ := ih1 j h; exact ⟨hj, h1, fun i hi hik => h2 i hi (by omega)⟩, fun h i hi hik => ih2 h i hi (by omega)⟩
theorem fits_iff (m : Imp) (r : Rel) : fitsB m r = true ↔ r.name = m.name ∧ m.mn ≤ r.ver := by
  unfold fitsB; rw [beq_bytes]; simp
theorem reachB_some {l : List Rel} {m : Imp} {j : Nat} (h : reachB l m = some j) : ∃ hj : j < l.length, l[j].name = m.name ∧ m.mn ≤ l[j].ver ∧ ∀ r ∈ l, r.name = m.name → m.mn ≤ r.ver → l[j].ver ≤ r.ver := by
  obtain ⟨hj, h1, h2⟩ := (reachUp_ok l m _).1 j h
  rw [fits_iff] at h1
  refine ⟨hj, h1.1, h1.2, fun r hr e1 e2 => ?_⟩
  obtain ⟨i, hi, rfl⟩ := List.getElem_of_mem hr
  exact h2 i hi hi ((fits_iff _ _).2 ⟨e1, e2⟩)
theorem reachB_none {l : List Rel} {m : Imp} (h : reachB l m = none) : ∀ r ∈ l, r.name = m.name → m.mn ≤ r.ver → False := by
  intro r hr e1 e2
  obtain ⟨i, hi, rfl⟩ := List.getElem_of_mem hr
  have := (reachUp_ok l m _).2 h i hi hi
  rw [(fits_iff _ _).2 ⟨e1, e2⟩] at this
  cases this
theorem drop_fit {α : Type} (f : α → Bool) : ∀ (R : List α) (q : α), q ∈ R → f q = false → q ∈ R.dropWhile f
  | [], _, h, _ => by cases h
  | a :: r, q, h, hf => by
    cases ha : f a
    · rw [List.dropWhile_cons_of_neg (by simp [ha])]; exact h
    · rw [List.dropWhile_cons_of_pos (by exact ha)]
      rcases List.mem_cons.1 h with rfl | h
      · rw [ha] at hf; cases hf
      · exact drop_fit f r q h hf
theorem drop_head {α : Type} (f : α → Bool) : ∀ (R : List α) (x : α) (r : List α), R.dropWhile f = x :: r → f x = false
  | [], _, _, h => by simp at h
  | a :: s, x, r, h => by
    cases ha : f a
    · rw [List.dropWhile_cons_of_neg (by simp [ha])] at h
      cases h; exact ha
    · rw [List.dropWhile_cons_of_pos (by exact ha)] at h
      exact drop_head f s x r h
theorem not_less {m : Imp} {q : Pk} (e : q.name = m.name) (h : m.mn ≤ q.ver) : pkLess q ⟨m.name, m.mn⟩ = false := by
  cases hh : pkLess q ⟨m.name, m.mn⟩
  · rfl
  · rw [pkLess_iff] at hh
    rcases hh with hh | ⟨_, hh⟩
    · rw [e, lessB_irrefl] at hh; cases hh
    · dsimp only at hh; omega
theorem reachP_ok {R : List Pk} (m : Imp) (hR : R.Pairwise fun x y => pkLess y x = false) : (∀ p, reachP R m = some p → p ∈ R ∧ p.name = m.name ∧ m.mn ≤ p.ver ∧ ∀ q ∈ R, q.name = m.name → m.mn ≤ q.ver → p.ver ≤ q.ver) ∧ (reachP R m = none → ∀ q ∈ R, q.name = m.name → m.mn ≤ q.ver → False) := by
  unfold reachP
  cases hd : R.dropWhile fun x => pkLess x ⟨m.name, m.mn⟩ with
  | nil =>
    refine ⟨fun p h => (by cases h), fun _ q hq e1 e2 => ?_⟩
    have := drop_fit (fun x => pkLess x ⟨m.name, m.mn⟩) R q hq (not_less e1 e2)
    rw [hd] at this; cases this
  | cons x r =>
    have hx := drop_head (fun x => pkLess x ⟨m.name, m.mn⟩) R x r hd
    have hsub : (x :: r).Pairwise fun x y => pkLess y x = false := by rw [← hd]; exact hR.sublist (List.dropWhile_sublist _)
    have hxR : x ∈ R := (List.dropWhile_sublist (fun x => pkLess x ⟨m.name, m.mn⟩)).subset (by rw [hd]; simp)
    have hin : ∀ q ∈ R, q.name = m.name → m.mn ≤ q.ver → q = x ∨ pkLess q x = false := fun q hq e1 e2 => by
      have := drop_fit (fun x => pkLess x ⟨m.name, m.mn⟩) R q hq (not_less e1 e2)
      rw [hd] at this
      rcases List.mem_cons.1 this with h | h
      · exact .inl h
      · exact .inr ((List.pairwise_cons.1 hsub).1 q h)
    dsimp only
    rw [beq_bytes]
    by_cases e : x.name = m.name
    · rw [if_pos (by simpa using e)]
      refine ⟨fun p h => ?_, fun h => by cases h⟩
      cases h
      refine ⟨hxR, e, ?_, fun q hq e1 e2 => ?_⟩
      · by_cases hv : x.ver < m.mn
        · have := (pkLess_iff x ⟨m.name, m.mn⟩).2 (.inr ⟨e, hv⟩)
          rw [hx] at this; cases this
        · omega
      · rcases hin q hq e1 e2 with rfl | h
        · omega
        · by_cases hv : q.ver < x.ver
          · rw [(pkLess_iff q x).2 (.inr ⟨e1.trans e.symm, hv⟩)] at h; cases h
          · omega
    · rw [if_neg (by simpa using e)]
      refine ⟨fun p h => (by cases h), fun _ q hq e1 e2 => ?_⟩
      rcases hin q hq e1 e2 with rfl | h
      · exact e e1
      · rcases lessB_total e with h1 | h1
        · rw [(pkLess_iff x ⟨m.name, m.mn⟩).2 (.inl h1)] at hx; cases hx
        · rw [(pkLess_iff q x).2 (.inl (e1 ▸ h1))] at h; cases h
theorem Same.mem {l : List Rel} {R : List Pk} {nf : Pk → List Imp} (h : Same l R nf) (p : Pk) : p ∈ R ↔ ∃ r ∈ l, relPk r = p := by
  rw [h.perm.mem_iff, List.mem_map]
theorem reach_same {l : List Rel} {R : List Pk} {nf : Pk → List Imp} (h : Same l R nf) (m : Imp) : reachP R m = (reachB l m).bind fun i => (l[i]?).map relPk := by
  cases hb : reachB l m with
  | none =>
    cases hp : reachP R m with
    | none => rfl
    | some p =>
      obtain ⟨h1, h2, h3, _⟩ := (reachP_ok m h.rises).1 p hp
      obtain ⟨r, hr, rfl⟩ := (h.mem p).1 h1
      exact absurd h3 (fun h3 => reachB_none hb r hr h2 h3)
  | some j =>
    obtain ⟨hj, h1, h2, h3⟩ := reachB_some hb
    simp only [Option.bind_some, List.getElem?_eq_getElem hj, Option.map_some]
    have hjR : relPk l[j] ∈ R := (h.mem _).2 ⟨_, List.getElem_mem hj, rfl⟩
    cases hp : reachP R m with
    | none => exact absurd h2 (fun h2 => (reachP_ok m h.rises).2 hp _ hjR h1 h2)
    | some p =>
      obtain ⟨q1, q2, q3, q4⟩ := (reachP_ok m h.rises).1 p hp
      obtain ⟨r, hr, rfl⟩ := (h.mem p).1 q1
      have e1 := q4 _ hjR h1 h2
      have e2 := h3 r hr q2 q3
      have hv : r.ver = l[j].ver := by
        have : r.ver ≤ l[j].ver := e1
        omega
      have hn : r.name = l[j].name := by rw [h1]; exact q2
      simp [relPk, hv, hn]
theorem reach_none {l : List Rel} {R : List Pk} {nf : Pk → List Imp} (h : Same l R nf) (m : Imp) : reachP R m = none ↔ reachB l m = none := by
  rw [reach_same h]
  cases hb : reachB l m with
  | none => simp
  | some j =>
    obtain ⟨hj, _⟩ := reachB_some hb
    simp [List.getElem?_eq_getElem hj]

theorem sortP_mem (l : List Pk) (x : Pk) : x ∈ sortP l ↔ x ∈ l := by
  unfold sortP
  split
  · rename_i h; exact (Classical.choose_spec h).perm.mem_iff
  · rfl
theorem enter_mem : ∀ (items : List Pk) (T : List Sd) (fr : Int) (x : Pk), x ∈ (enterF T items fr).map Sd.item ↔ x ∈ T.map Sd.item ∨ x ∈ items
  | [], T, fr, x => by unfold enterF; simp
  | y :: r, T, fr, x => by
    by_cases hy : y ∈ T.map Sd.item
    · rw [enter_old hy, enter_mem r T fr x, List.mem_cons]
      constructor
      · rintro (h | h)
        · exact .inl h
        · exact .inr (.inr h)
      · rintro (h | rfl | h)
        · exact .inl h
        · exact .inl hy
        · exact .inr h
    · rw [enter_new hy, enter_mem r _ fr x, List.map_append, List.mem_append, List.mem_cons]
      simp only [List.map_cons, List.map_nil, List.mem_cons, List.not_mem_nil, or_false]
      exact or_assoc
theorem enter_pre : ∀ (items : List Pk) (T : List Sd) (fr : Int), ∃ E, enterF T items fr = T ++ E
  | [], T, fr => ⟨[], by unfold enterF; simp⟩
  | y :: r, T, fr => by
    by_cases hy : y ∈ T.map Sd.item
    · rw [enter_old hy]; exact enter_pre r T fr
    · rw [enter_new hy]
      obtain ⟨E, hE⟩ := enter_pre r (T ++ [⟨y, fr⟩]) fr
      exact ⟨[⟨y, fr⟩] ++ E, by rw [hE, List.append_assoc]⟩
theorem SI_closed {nx : Pk → List Pk} {starts : List Pk} {T : List Sd} {k : Nat} (h : SI nx starts T k) : (∀ x ∈ starts, x ∈ T.map Sd.item) ∧ ∀ j (hj : j < T.length), j < k → ∀ y ∈ nx T[j].item, y ∈ T.map Sd.item := by
  induction h with
  | start => exact ⟨fun x hx => (enter_mem _ _ _ _).2 (.inr hx), fun j _ h => by omega⟩
  | step h hk ih =>
    rename_i T k
    refine ⟨fun x hx => (enter_mem _ _ _ _).2 (.inl (ih.1 x hx)), fun j hj hjk y hy => ?_⟩
    obtain ⟨E, hE⟩ := enter_pre (nx T[k].item) T (k : Int)
    have hjT : j < T.length := by omega
    have e : (enterF T (nx T[k].item) (k : Int))[j] = T[j] := by
      simp only [hE]
      exact List.getElem_append_left hjT
    rw [e] at hy
    rw [enter_mem]
    by_cases e2 : j = k
    · subst e2; exact .inr hy
    · exact .inl (ih.2 j hjT (by omega) y hy)
theorem SI_sound {nx : Pk → List Pk} {starts : List Pk} {Q : Pk → Prop} (h0 : ∀ x ∈ starts, Q x) (h1 : ∀ x, Q x → ∀ y ∈ nx x, Q y) {T : List Sd} {k : Nat} (h : SI nx starts T k) : ∀ x ∈ T.map Sd.item, Q x := by
  induction h with
  | start =>
    intro x hx
    rcases (enter_mem _ _ _ _).1 hx with h | h
    · simp at h
    · exact h0 x h
  | step h hk ih =>
    rename_i T k
    intro x hx
    rcases (enter_mem _ _ _ _).1 hx with h | h
    · exact ih x h
    · exact h1 _ (ih T[k].item (List.mem_map.2 ⟨_, List.getElem_mem hk, rfl⟩)) x h
theorem found_iff {R : List Pk} {ns : List Imp} {p : Pk} : p ∈ foundOf R ns ↔ ∃ m ∈ ns, reachP R m = some p := by
  unfold foundOf; exact List.mem_filterMap
theorem miss_iff {R : List Pk} {ns : List Imp} {t : ByteArray} : t ∈ missOf R ns ↔ ∃ m ∈ ns, reachP R m = none ∧ m.name = t := by
  unfold missOf
  simp only [List.mem_map, List.mem_filter, Option.isNone_iff_eq_none]
  constructor
  · rintro ⟨m, ⟨h1, h2⟩, h3⟩; exact ⟨m, h1, h2, h3⟩
  · rintro ⟨m, h1, h2, h3⟩; exact ⟨m, ⟨h1, h2⟩, h3⟩
theorem rows_reached {l : List Rel} {R : List Pk} {nf : Pk → List Imp} {ws : List Imp} {T : List Sd} (hs : Same l R nf) (h : Rows' R nf ws T) (p : Pk) : p ∈ T.map Sd.item ↔ ∃ i r, Rch l ws i ∧ l[i]? = some r ∧ relPk r = p := by
  have hr : ∀ {m : Imp} {x : Pk}, reachP R m = some x → ∃ i r, reachB l m = some i ∧ l[i]? = some r ∧ relPk r = x := fun {m x} h => by
    rw [reach_same hs] at h
    cases hb : reachB l m with
    | none => rw [hb] at h; cases h
    | some i =>
      rw [hb] at h
      simp only [Option.bind_some, Option.map_eq_some_iff] at h
      obtain ⟨r, h1, h2⟩ := h
      exact ⟨i, r, rfl, h1, h2⟩
  have hr' : ∀ {m : Imp} {i : Nat} {r : Rel}, reachB l m = some i → l[i]? = some r → reachP R m = some (relPk r) := fun {m i r} h h2 => by
    rw [reach_same hs, h]
    simp [h2]
  constructor
  · refine SI_sound (Q := fun p => ∃ i r, Rch l ws i ∧ l[i]? = some r ∧ relPk r = p) ?_ ?_ h.run p
    · intro x hx
      rw [sortP_mem, found_iff] at hx
      obtain ⟨m, hm, hx⟩ := hx
      obtain ⟨i, r, h1, h2, h3⟩ := hr hx
      exact ⟨i, r, .wish hm h1, h2, h3⟩
    · rintro x ⟨i, r, h1, h2, rfl⟩ y hy
      rw [sortP_mem, found_iff] at hy
      obtain ⟨m, hm, hy⟩ := hy
      rw [hs.needs r (List.mem_of_getElem? h2)] at hm
      obtain ⟨i', r', k1, k2, k3⟩ := hr hy
      exact ⟨i', r', .need h1 h2 hm k1, k2, k3⟩
  · rintro ⟨i, r, h1, h2, rfl⟩
    obtain ⟨c1, c2⟩ := SI_closed h.run
    induction h1 generalizing r with
    | wish hm hb => exact c1 _ ((sortP_mem _ _).2 (found_iff.2 ⟨_, hm, hr' hb h2⟩))
    | need hj hl hm hb ih =>
      rename_i j r' m i'
      obtain ⟨x, hx, hxi⟩ := List.mem_map.1 (ih r' hl)
      obtain ⟨q, hq, rfl⟩ := List.getElem_of_mem hx
      refine c2 q hq hq _ ?_
      rw [hxi, sortP_mem, found_iff, hs.needs r' (List.mem_of_getElem? hl)]
      exact ⟨m, hm, hr' hb h2⟩
/-- The names of all needs that reach nothing. -/
def missAll (R : List Pk) (nf : Pk → List Imp) (ws : List Imp) (T : List Sd) : List ByteArray := missOf R ws ++ T.flatMap fun x => missOf R (nf x.item)
theorem lost_same {l : List Rel} {R : List Pk} {nf : Pk → List Imp} {ws : List Imp} {T : List Sd} (hs : Same l R nf) (h : Rows' R nf ws T) : sortB (missAll R nf ws T) = lostOf l ws := by
  refine lost_eq (fun t => ?_)
  unfold missAll LostName
  rw [List.mem_append, List.mem_flatMap, miss_iff]
  constructor
  · rintro (⟨m, h1, h2, h3⟩ | ⟨x, hx, hm⟩)
    · exact ⟨m, .inl h1, (reach_none hs m).1 h2, h3⟩
    · obtain ⟨m, h1, h2, h3⟩ := miss_iff.1 hm
      obtain ⟨i, r, k1, k2, k3⟩ := (rows_reached hs h x.item).1 (List.mem_map.2 ⟨x, hx, rfl⟩)
      rw [← k3, hs.needs r (List.mem_of_getElem? k2)] at h1
      exact ⟨m, .inr ⟨i, r, k1, k2, h1⟩, (reach_none hs m).1 h2, h3⟩
  · rintro ⟨m, h1 | ⟨i, r, k1, k2, k3⟩, h2, h3⟩
    · exact .inl ⟨m, h1, (reach_none hs m).2 h2, h3⟩
    · obtain ⟨x, hx, he⟩ := List.mem_map.1 ((rows_reached hs h (relPk r)).2 ⟨i, r, k1, k2, rfl⟩)
      refine .inr ⟨x, hx, miss_iff.2 ⟨m, ?_, (reach_none hs m).2 h2, h3⟩⟩
      rw [he, hs.needs r (List.mem_of_getElem? k2)]
      exact k3
end Go.Proofs.YteokcdobapkkhaaGreatDoor

namespace Go.Proofs.YteokcdobapkkhaaGreatDoor
open Go.ChangeShapes Go.WideShapes Go.ChangeAt Go.RowKit
set_option linter.unusedVariables false

/-- Of a row in order the last one of each name. -/
def lastsOf : List Pk → List Pk
  | [] => []
  | [x] => [x]
  | x :: y :: r => if y.name = x.name then lastsOf (y :: r) else x :: lastsOf (y :: r)
theorem strict_eq {α : Type} {lt : α → α → Prop} (asym : ∀ x y, lt x y → ¬ lt y x) : ∀ {a b : List α}, a.Pairwise lt → b.Pairwise lt → (∀ x, x ∈ a ↔ x ∈ b) → a = b
  | [], [], _, _, _ => rfl
  | [], y :: b, _, _, h => absurd ((h y).2 (by simp)) (by simp)
  | x :: a, [], _, _, h => absurd ((h x).1 (by simp)) (by simp)
  | x :: a, y :: b, ha, hb, h => by
    obtain ⟨a1, a2⟩ := List.pairwise_cons.1 ha
    obtain ⟨b1, b2⟩ := List.pairwise_cons.1 hb
    have hxy : x = y := by
      rcases List.mem_cons.1 ((h x).1 (by simp)) with e | e
      · exact e
      · rcases List.mem_cons.1 ((h y).2 (by simp)) with e2 | e2
        · exact e2.symm
        · exact absurd (b1 x e) (asym _ _ (a1 y e2))
    subst hxy
    congr 1
    refine strict_eq asym a2 b2 (fun z => ?_)
    have hz := h z
    simp only [List.mem_cons] at hz
    constructor
    · intro hm
      rcases hz.1 (.inr hm) with e | e
      · subst e; exact absurd (a1 z hm) (asym _ _ (a1 z hm))
      · exact e
    · intro hm
      rcases hz.2 (.inr hm) with e | e
      · subst e; exact absurd (b1 z hm) (asym _ _ (b1 z hm))
      · exact e
theorem less_le {x y : Pk} (h : pkLess y x = false) (e : y.name = x.name) : x.ver ≤ y.ver := by
  by_cases hv : y.ver < x.ver
  · rw [(pkLess_iff y x).2 (.inr ⟨e, hv⟩)] at h; cases h
  · omega
theorem less_name {x y : Pk} (h : pkLess y x = false) (e : y.name ≠ x.name) : lessB x.name y.name = true := by
  rcases lessB_total e with q | q
  · rw [(pkLess_iff y x).2 (.inl q)] at h; cases h
  · exact q
theorem name_up {x y z : Pk} (h1 : lessB x.name y.name = true) (h2 : pkLess z y = false) : lessB x.name z.name = true := by
  by_cases e : z.name = y.name
  · rw [e]; exact h1
  · exact lessB_trans h1 (less_name h2 e)
theorem lasts_mem : ∀ (A : List Pk), A.Pairwise (fun x y => pkLess y x = false) → ∀ p, p ∈ lastsOf A ↔ p ∈ A ∧ ∀ q ∈ A, q.name = p.name → q.ver ≤ p.ver
  | [], _, p => by simp [lastsOf]
  | [x], _, p => by
    simp only [lastsOf, List.mem_cons, List.not_mem_nil, or_false, forall_eq]
    constructor
    · rintro rfl; exact ⟨rfl, fun _ => Int.le_refl _⟩
    · exact fun h => h.1
  | x :: y :: r, h, p => by
    obtain ⟨h1, h2⟩ := List.pairwise_cons.1 h
    have ih := lasts_mem (y :: r) h2 p
    have hy := h1 y (by simp)
    unfold lastsOf
    by_cases e : y.name = x.name
    · rw [if_pos e, ih]
      have hxy := less_le hy e
      constructor
      · rintro ⟨m1, m2⟩
        refine ⟨List.mem_cons_of_mem _ m1, fun q hq eq => ?_⟩
        rcases List.mem_cons.1 hq with rfl | hq
        · have := m2 y (by simp) (e.trans eq); omega
        · exact m2 q hq eq
      · rintro ⟨m1, m2⟩
        refine ⟨?_, fun q hq eq => m2 q (List.mem_cons_of_mem _ hq) eq⟩
        rcases List.mem_cons.1 m1 with rfl | m1
        · have hv := m2 y (by simp) e
          have : p = y := by
            cases p; cases y; simp only [Pk.mk.injEq] at *
            exact ⟨e.symm, by omega⟩
          rw [this]; simp
        · exact m1
    · rw [if_neg e, List.mem_cons, ih]
      have hxy := less_name hy e
      have hall : ∀ q ∈ y :: r, lessB x.name q.name = true := fun q hq => by
        rcases List.mem_cons.1 hq with rfl | hq
        · exact hxy
        · exact name_up hxy ((List.pairwise_cons.1 h2).1 q hq)
      constructor
      · rintro (rfl | ⟨m1, m2⟩)
        · refine ⟨by simp, fun q hq eq => ?_⟩
          rcases List.mem_cons.1 hq with rfl | hq
          · exact Int.le_refl _
          · have := hall q hq
            rw [eq, lessB_irrefl] at this; cases this
        · refine ⟨List.mem_cons_of_mem _ m1, fun q hq eq => ?_⟩
          rcases List.mem_cons.1 hq with rfl | hq
          · have := hall p m1
            rw [eq, lessB_irrefl] at this; cases this
          · exact m2 q hq eq
      · rintro ⟨m1, m2⟩
        rcases List.mem_cons.1 m1 with rfl | m1
        · exact .inl rfl
        · exact .inr ⟨m1, fun q hq eq => m2 q (List.mem_cons_of_mem _ hq) eq⟩
theorem lasts_rise : ∀ (A : List Pk), A.Pairwise (fun x y => pkLess y x = false) → (lastsOf A).Pairwise fun x y => lessB x.name y.name = true
  | [], _ => by simp [lastsOf]
  | [x], _ => by simp [lastsOf]
  | x :: y :: r, h => by
    obtain ⟨h1, h2⟩ := List.pairwise_cons.1 h
    have ih := lasts_rise (y :: r) h2
    unfold lastsOf
    by_cases e : y.name = x.name
    · rw [if_pos e]; exact ih
    · rw [if_neg e, List.pairwise_cons]
      refine ⟨fun q hq => ?_, ih⟩
      have hxy := less_name (h1 y (by simp)) e
      have hq := ((lasts_mem (y :: r) h2 q).1 hq).1
      rcases List.mem_cons.1 hq with rfl | hq
      · exact hxy
      · exact name_up hxy ((List.pairwise_cons.1 h2).1 q hq)

theorem marks_iff {l : List Rel} {ws : List Imp} {i : Nat} (hi : i < l.length) : (marksOf l ws)[i]? = some true ↔ Rch l ws i := by
  unfold marksOf
  rw [List.getElem?_map, List.getElem?_range hi]
  simp
theorem isB_iff {l : List Rel} {ws : List Imp} {nm : ByteArray} {i : Nat} : isB l (marksOf l ws) nm i = true ↔ ∃ r, l[i]? = some r ∧ Rch l ws i ∧ r.name = nm := by
  unfold isB
  by_cases hi : i < l.length
  · rw [List.getElem?_eq_getElem hi]
    have hm := marks_iff (ws := ws) hi
    cases hb : (marksOf l ws)[i]? with
    | none => 
      rw [hb] at hm
      constructor
      · intro h; simp at h
      · rintro ⟨r, h1, h2, h3⟩; have := hm.2 h2; cases this
    | some b =>
      rw [hb] at hm
      cases b
      · constructor
        · intro h; simp at h
        · rintro ⟨r, h1, h2, h3⟩; have := hm.2 h2; cases this
      · simp only
        rw [beq_bytes, decide_eq_true_eq]
        constructor
        · intro h; exact ⟨_, rfl, hm.1 rfl, h⟩
        · rintro ⟨r, h1, h2, h3⟩; cases h1; exact h3
  · rw [List.getElem?_eq_none (by omega)]
    constructor
    · intro h; simp at h
    · rintro ⟨r, h1, _⟩; cases h1
theorem best_ok {l : List Rel} {ws : List Imp} {t : ByteArray} (ht : t ∈ sortB (namesUp l (marksOf l ws) l.length)) : ∃ r, l[bestN l (marksOf l ws) t]? = some r ∧ Rch l ws (bestN l (marksOf l ws) t) ∧ r.name = t ∧ ∀ i r', Rch l ws i → l[i]? = some r' → r'.name = t → r'.ver ≤ r.ver := by
  rw [sortB_mem, names_mem (marks_len l ws)] at ht
  obtain ⟨i, hi, hil⟩ := ht
  obtain ⟨j, hj, hjl, _, _⟩ := bestUp_some l.length i hil hil hi
  have hjb := (bestUp_lt _ _ _ _ _ hj).2.2
  have hN : bestN l (marksOf l ws) t = j := by unfold bestN bestB; rw [hj]; rfl
  rw [hN]
  obtain ⟨r, h1, h2, h3⟩ := isB_iff.1 hjb
  refine ⟨r, h1, h2, h3, fun i' r' k1 k2 k3 => ?_⟩
  have hi' : i' < l.length := k1.lt
  obtain ⟨j', hj', hjl', hil', hv⟩ := bestUp_some l.length i' hi' hi' (isB_iff.2 ⟨r', k2, k1, k3⟩)
  rw [hj] at hj'
  cases hj'
  rw [List.getElem?_eq_getElem hi'] at k2
  rw [List.getElem?_eq_getElem hjl] at h1
  cases k2
  cases h1
  exact hv
theorem pick_at {l : List Rel} {n : Nat} {r : Rel} (h : l[n]? = some r) : pickAt l n = relPk r := by
  unfold pickAt; rw [h]; rfl
theorem picks_rise (l : List Rel) (ws : List Imp) : (picksOf l (pickedOf l ws)).Pairwise fun x y => lessB x.name y.name = true := by
  unfold picksOf pickedOf
  rw [List.map_map, List.pairwise_map]
  have hr := sortB_rises (namesUp l (marksOf l ws) l.length)
  refine List.Pairwise.imp_of_mem ?_ hr
  intro a b ha hb hab
  obtain ⟨r, h1, _, h2, _⟩ := best_ok ha
  obtain ⟨r', h1', _, h2', _⟩ := best_ok hb
  simp only [Function.comp]
  rw [pick_at h1, pick_at h1']
  simp only [relPk, h2, h2']
  exact hab
theorem picks_mem (l : List Rel) (ws : List Imp) (p : Pk) : p ∈ picksOf l (pickedOf l ws) ↔ (∃ i r, Rch l ws i ∧ l[i]? = some r ∧ relPk r = p) ∧ ∀ i r, Rch l ws i → l[i]? = some r → r.name = p.name → r.ver ≤ p.ver := by
  unfold picksOf pickedOf
  rw [List.map_map, List.mem_map]
  constructor
  · rintro ⟨t, ht, rfl⟩
    obtain ⟨r, h1, h2, h3, h4⟩ := best_ok ht
    simp only [Function.comp]
    rw [pick_at h1]
    exact ⟨⟨_, r, h2, h1, rfl⟩, fun i r' k1 k2 k3 => h4 i r' k1 k2 (k3.trans h3)⟩
  · rintro ⟨⟨i, r, h1, h2, rfl⟩, h3⟩
    have ht : r.name ∈ sortB (namesUp l (marksOf l ws) l.length) := by
      rw [sortB_mem, names_mem (marks_len l ws)]
      exact ⟨i, isB_iff.2 ⟨r, h2, h1, rfl⟩, h1.lt⟩
    refine ⟨r.name, ht, ?_⟩
    obtain ⟨r', k1, k2, k3, k4⟩ := best_ok ht
    simp only [Function.comp]
    rw [pick_at k1]
    have e1 := h3 _ r' k2 k1 k3
    have e2 := k4 i r h1 h2 rfl
    have : r'.ver = r.ver := by
      have : r'.ver ≤ r.ver := e1
      omega
    simp [relPk, k3, this]
theorem greatest_same {l : List Rel} {R : List Pk} {nf : Pk → List Imp} {ws : List Imp} {T : List Sd} {A : List Pk} (hs : Same l R nf) (h : Rows' R nf ws T) (hA : Sorted (T.map Sd.item) A) : lastsOf A = picksOf l (pickedOf l ws) := by
  refine strict_eq (lt := fun x y => lessB x.name y.name = true) (fun x y h1 h2 => ?_) (lasts_rise A hA.rises) (picks_rise l ws) (fun p => ?_)
  · rw [lessB_asymm h1] at h2; cases h2
  · rw [lasts_mem A hA.rises, picks_mem]
    have hm : ∀ q, q ∈ A ↔ ∃ i r, Rch l ws i ∧ l[i]? = some r ∧ relPk r = q := fun q => by
      rw [hA.perm.mem_iff, rows_reached hs h]
    rw [hm]
    constructor
    · rintro ⟨h1, h2⟩
      exact ⟨h1, fun i r k1 k2 k3 => h2 (relPk r) ((hm _).2 ⟨i, r, k1, k2, rfl⟩) k3⟩
    · rintro ⟨h1, h2⟩
      refine ⟨h1, fun q hq e => ?_⟩
      obtain ⟨i, r, k1, k2, rfl⟩ := (hm q).1 hq
      exact h2 i r k1 k2 e
end Go.Proofs.YteokcdobapkkhaaGreatDoor

namespace Go.Proofs.YteokcdobapkkhaaGreatDoor
open Go.ChangeShapes Go.WideShapes Go.ChangeAt Go.RowKit
set_option linter.unusedVariables false

/-- A need whose end counts, with the name of the release whose it is. -/
structure Cl where
  owner : ByteArray
  need : Imp
def clLess (c d : Cl) : Bool := lessB c.owner d.owner || (decide (c.owner = d.owner) && lessB c.need.name d.need.name)
theorem clLess_iff (c d : Cl) : clLess c d = true ↔ lessB c.owner d.owner = true ∨ (c.owner = d.owner ∧ lessB c.need.name d.need.name = true) := by simp [clLess]
theorem clLess_irrefl (c : Cl) : clLess c c = false := by simp [clLess, lessB_irrefl]
def claimsOf (nf : Pk → List Imp) (ws : List Imp) (P : List Pk) : List Cl := ws.map (fun m => ⟨⟨#[]⟩, m⟩) ++ P.flatMap fun p => (nf p).map fun m => ⟨p.name, m⟩
structure SortedC (l l' : List Cl) : Prop where
  perm : l'.Perm l
  rises : l'.Pairwise fun x y => clLess y x = false
/-- The version that is picked of a name, 0 if there is none. -/
def verF (P : List Pk) (t : ByteArray) : Int := P.foldl (fun v p => if p.name = t then p.ver else v) 0
theorem verF_snoc (P : List Pk) (p : Pk) (t : ByteArray) : verF (P ++ [p]) t = if p.name = t then p.ver else verF P t := by
  unfold verF; rw [List.foldl_append]; rfl
theorem ver_none {t : ByteArray} : ∀ (P : List Pk) (v : Int), (∀ p ∈ P, p.name ≠ t) → P.foldl (fun v p => if p.name = t then p.ver else v) v = v
  | [], v, _ => rfl
  | p :: P, v, h => by
    rw [List.foldl_cons, if_neg (h p (by simp))]
    exact ver_none P v (fun q hq => h q (by simp [hq]))
theorem ver_some {P : List Pk} (h : P.Pairwise fun x y => lessB x.name y.name = true) : ∀ p ∈ P, ∀ v : Int, P.foldl (fun v q => if q.name = p.name then q.ver else v) v = p.ver := by
  induction P with
  | nil => intro p hp; cases hp
  | cons a r ih =>
    obtain ⟨h1, h2⟩ := List.pairwise_cons.1 h
    intro p hp v
    rw [List.foldl_cons]
    rcases List.mem_cons.1 hp with rfl | hp
    · rw [if_pos rfl]
      exact ver_none r _ (fun q hq e => by have := h1 q hq; rw [e, lessB_irrefl] at this; cases this)
    · exact ih h2 p hp _
theorem above_iff (P : List Pk) (m : Imp) : aboveB P m = true ↔ ∃ p ∈ P, p.name = m.name ∧ m.mx < p.ver := by
  unfold aboveB
  simp only [List.any_eq_true, Bool.and_eq_true, decide_eq_true_eq, beq_bytes]
theorem bad_above {P : List Pk} (h : P.Pairwise fun x y => lessB x.name y.name = true) {m : Imp} (hm : 0 ≤ m.mx) : decide (m.mx < verF P m.name) = aboveB P m := by
  cases ha : aboveB P m
  · rw [decide_eq_false_iff_not]
    intro hv
    by_cases hex : ∃ p ∈ P, p.name = m.name
    · obtain ⟨p, hp, e⟩ := hex
      have := ver_some h p hp 0
      rw [e] at this
      unfold verF at hv
      rw [this] at hv
      rw [(above_iff P m).2 ⟨p, hp, e, hv⟩] at ha
      cases ha
    · have := ver_none (t := m.name) P 0 (fun p hp e => hex ⟨p, hp, e⟩)
      unfold verF at hv
      rw [this] at hv
      omega
  · obtain ⟨p, hp, e, hv⟩ := (above_iff P m).1 ha
    have := ver_some h p hp 0
    rw [e] at this
    unfold verF
    rw [this]
    simpa using hv
theorem over_none {P : List Pk} {ns : List Imp} (h : overB P ns = none) : ∀ m ∈ ns, aboveB P m = false := by
  intro m hm
  cases ha : aboveB P m
  · rfl
  · unfold overB at h
    rw [List.head?_eq_none_iff] at h
    have : m.name ∈ sortB (overL P ns) := (sortB_mem _ _).2 (List.mem_map.2 ⟨m, List.mem_filter.2 ⟨hm, ha⟩, rfl⟩)
    rw [h] at this; cases this
theorem over_some {P : List Pk} {ns : List Imp} {t : ByteArray} (h : overB P ns = some t) : (∃ m ∈ ns, aboveB P m = true ∧ m.name = t) ∧ ∀ m ∈ ns, aboveB P m = true → lessB m.name t = false := by
  unfold overB at h
  obtain ⟨r, hr⟩ := List.head?_eq_some_iff.1 h
  have hrise := sortB_rises (overL P ns)
  refine ⟨?_, fun m hm ha => ?_⟩
  · have : t ∈ overL P ns := (sortB_mem _ _).1 (by rw [hr]; simp)
    obtain ⟨m, hm, e⟩ := List.mem_map.1 this
    rw [List.mem_filter] at hm
    exact ⟨m, hm.1, hm.2, e⟩
  · have hin : m.name ∈ sortB (overL P ns) := (sortB_mem _ _).2 (List.mem_map.2 ⟨m, List.mem_filter.2 ⟨hm, ha⟩, rfl⟩)
    rw [hr] at hin
    unfold Rises at hrise
    rw [hr] at hrise
    rcases List.mem_cons.1 hin with e | e
    · rw [e]; exact lessB_irrefl _
    · exact lessB_asymm ((List.pairwise_cons.1 hrise).1 _ e)
theorem firstOver_none {l : List Rel} {P : List Pk} : ∀ {NS : List Nat}, firstOver l P NS = none → ∀ n ∈ NS, ∀ x, l[n]? = some x → overB P x.needs = none
  | [], _, n, hn, _, _ => by cases hn
  | a :: r, h, n, hn, x, hx => by
    unfold firstOver at h
    cases ha : l[a]? with
    | none =>
      rw [ha] at h
      rcases List.mem_cons.1 hn with rfl | hn
      · rw [ha] at hx; cases hx
      · exact firstOver_none h n hn x hx
    | some y =>
      rw [ha] at h
      dsimp only at h
      cases ho : overB P y.needs with
      | some t => rw [ho] at h; cases h
      | none =>
        rw [ho] at h
        rcases List.mem_cons.1 hn with rfl | hn
        · rw [ha] at hx; cases hx; exact ho
        · exact firstOver_none h n hn x hx
theorem firstOver_some {l : List Rel} {P : List Pk} {a t : ByteArray} : ∀ {NS : List Nat}, firstOver l P NS = some (a, t) → ∃ pre n post x, NS = pre ++ n :: post ∧ l[n]? = some x ∧ overB P x.needs = some t ∧ x.name = a ∧ ∀ n' ∈ pre, ∀ x', l[n']? = some x' → overB P x'.needs = none
  | [], h => by cases h
  | b :: r, h => by
    unfold firstOver at h
    cases ha : l[b]? with
    | none =>
      rw [ha] at h
      obtain ⟨pre, n, post, x, h1, h2, h3, h4, h5⟩ := firstOver_some h
      refine ⟨b :: pre, n, post, x, by rw [h1]; rfl, h2, h3, h4, fun n' hn' x' hx' => ?_⟩
      rcases List.mem_cons.1 hn' with rfl | hn'
      · rw [ha] at hx'; cases hx'
      · exact h5 n' hn' x' hx'
    | some y =>
      rw [ha] at h
      dsimp only at h
      cases ho : overB P y.needs with
      | some s =>
        rw [ho] at h
        simp only [Option.some.injEq, Prod.mk.injEq] at h
        exact ⟨[], b, r, y, rfl, ha, by rw [ho, h.2], h.1, fun n' hn' => by cases hn'⟩
      | none =>
        rw [ho] at h
        obtain ⟨pre, n, post, x, h1, h2, h3, h4, h5⟩ := firstOver_some h
        refine ⟨b :: pre, n, post, x, by rw [h1]; rfl, h2, h3, h4, fun n' hn' x' hx' => ?_⟩
        rcases List.mem_cons.1 hn' with rfl | hn'
        · rw [ha] at hx'; cases hx'; exact ho
        · exact h5 n' hn' x' hx'
theorem find_least {f : Cl → Bool} {c : Cl} : ∀ {CL : List Cl}, CL.Pairwise (fun x y => clLess y x = false) → CL.find? f = some c → c ∈ CL ∧ f c = true ∧ ∀ d ∈ CL, f d = true → clLess d c = false
  | [], _, h => by cases h
  | b :: r, hp, h => by
    obtain ⟨h1, h2⟩ := List.pairwise_cons.1 hp
    cases hb : f b
    · rw [List.find?_cons_of_neg (by simp [hb])] at h
      obtain ⟨k1, k2, k3⟩ := find_least h2 h
      refine ⟨List.mem_cons_of_mem _ k1, k2, fun d hd hfd => ?_⟩
      rcases List.mem_cons.1 hd with rfl | hd
      · rw [hb] at hfd; cases hfd
      · exact k3 d hd hfd
    · rw [List.find?_cons_of_pos (by exact hb)] at h
      cases h
      refine ⟨by simp, hb, fun d hd _ => ?_⟩
      rcases List.mem_cons.1 hd with rfl | hd
      · exact clLess_irrefl _
      · exact h1 d hd
theorem empty_less {x : ByteArray} (h : x ≠ ⟨#[]⟩) : lessB ⟨#[]⟩ x = true := by
  rcases lessB_total (Ne.symm h) with q | q
  · exact q
  · rw [lessB_eq, decide_eq_true_eq] at q
    exact absurd q (by simp [List.not_lt_nil])
def badB (P : List Pk) (c : Cl) : Bool := decide (c.need.mx < verF P c.need.name)
theorem broken_same {l : List Rel} {nf : Pk → List Imp} {ws : List Imp} {NS : List Nat} {CL : List Cl} (hneeds : ∀ r ∈ l, nf (relPk r) = r.needs) (hNS : ∀ n ∈ NS, n < l.length)
    (hrise : (picksOf l NS).Pairwise fun x y => lessB x.name y.name = true) (hne : ∀ p ∈ picksOf l NS, p.name ≠ ⟨#[]⟩) (hws : ∀ m ∈ ws, 0 ≤ m.mx) (hns : ∀ r ∈ l, ∀ m ∈ r.needs, 0 ≤ m.mx)
    (hC : SortedC (claimsOf nf ws (picksOf l NS)) CL) :
    (CL.find? (badB (picksOf l NS))).map (fun c => (c.owner, c.need.name)) = match overB (picksOf l NS) ws with | some t => some (⟨#[]⟩, t) | none => firstOver l (picksOf l NS) NS := by
  have hP : ∀ p ∈ picksOf l NS, ∃ n ∈ NS, ∃ x, l[n]? = some x ∧ relPk x = p := fun p hp => by
    obtain ⟨n, hn, rfl⟩ := List.mem_map.1 hp
    have hl := hNS n hn
    exact ⟨n, hn, l[n], List.getElem?_eq_getElem hl, (pick_at (List.getElem?_eq_getElem hl)).symm⟩
  have hin : ∀ n ∈ NS, ∀ x, l[n]? = some x → relPk x ∈ picksOf l NS := fun n hn x hx => List.mem_map.2 ⟨n, hn, pick_at hx⟩
  have hmem : ∀ c, c ∈ CL ↔ (∃ m ∈ ws, c = ⟨⟨#[]⟩, m⟩) ∨ ∃ n ∈ NS, ∃ x, l[n]? = some x ∧ ∃ m ∈ x.needs, c = ⟨x.name, m⟩ := fun c => by
    rw [hC.perm.mem_iff]
    unfold claimsOf
    rw [List.mem_append, List.mem_map, List.mem_flatMap]
    constructor
    · rintro (⟨m, hm, rfl⟩ | ⟨p, hp, hm⟩)
      · exact .inl ⟨m, hm, rfl⟩
      · obtain ⟨m, hm', rfl⟩ := List.mem_map.1 hm
        obtain ⟨n, hn, x, hx, rfl⟩ := hP p hp
        rw [hneeds x (List.mem_of_getElem? hx)] at hm'
        exact .inr ⟨n, hn, x, hx, m, hm', rfl⟩
    · rintro (⟨m, hm, rfl⟩ | ⟨n, hn, x, hx, m, hm, rfl⟩)
      · exact .inl ⟨m, hm, rfl⟩
      · refine .inr ⟨relPk x, hin n hn x hx, List.mem_map.2 ⟨m, ?_, rfl⟩⟩
        rw [hneeds x (List.mem_of_getElem? hx)]; exact hm
  have hbw : ∀ m ∈ ws, badB (picksOf l NS) ⟨⟨#[]⟩, m⟩ = aboveB (picksOf l NS) m := fun m hm => bad_above hrise (hws m hm)
  have hbn : ∀ (n : Nat) x, l[n]? = some x → ∀ m ∈ x.needs, badB (picksOf l NS) ⟨x.name, m⟩ = aboveB (picksOf l NS) m := fun n x hx m hm => bad_above hrise (hns x (List.mem_of_getElem? hx) m hm)
  cases ho : overB (picksOf l NS) ws with
  | some t =>
    obtain ⟨⟨m, hm, ha, hmt⟩, hmin⟩ := over_some ho
    have hd : (⟨⟨#[]⟩, m⟩ : Cl) ∈ CL := (hmem _).2 (.inl ⟨m, hm, rfl⟩)
    have hdb : badB (picksOf l NS) ⟨⟨#[]⟩, m⟩ = true := by rw [hbw m hm]; exact ha
    cases hf : CL.find? (badB (picksOf l NS)) with
    | none =>
      have := List.find?_eq_none.1 hf _ hd
      exact absurd hdb this
    | some c =>
      obtain ⟨c1, c2, c3⟩ := find_least hC.rises hf
      have c4 := c3 _ hd hdb
      rcases (hmem c).1 c1 with ⟨m', hm', rfl⟩ | ⟨n, hn, x, hx, m', hm', rfl⟩
      · rw [hbw m' hm'] at c2
        have k1 := hmin m' hm' c2
        simp only [Option.map_some, Option.some.injEq, Prod.mk.injEq, true_and]
        by_cases e : m'.name = t
        · exact e
        · rcases lessB_total e with q | q
          · rw [k1] at q; cases q
          · rw [(clLess_iff ⟨⟨#[]⟩, m⟩ ⟨⟨#[]⟩, m'⟩).2 (.inr ⟨rfl, by rw [hmt]; exact q⟩)] at c4; cases c4
      · have := empty_less (hne _ (hin n hn x hx))
        rw [(clLess_iff ⟨⟨#[]⟩, m⟩ ⟨x.name, m'⟩).2 (.inl this)] at c4; cases c4
  | none =>
    have hnow := over_none ho
    dsimp only
    cases hfo : firstOver l (picksOf l NS) NS with
    | none =>
      have hno := firstOver_none hfo
      have : CL.find? (badB (picksOf l NS)) = none := by
        rw [List.find?_eq_none]
        intro c hc hb
        rcases (hmem c).1 hc with ⟨m', hm', rfl⟩ | ⟨n, hn, x, hx, m', hm', rfl⟩
        · rw [hbw m' hm', hnow m' hm'] at hb; cases hb
        · rw [hbn n x hx m' hm', over_none (hno n hn x hx) m' hm'] at hb; cases hb
      rw [this]; rfl
    | some at' =>
      obtain ⟨a, t⟩ := at'
      obtain ⟨pre, n, post, x, h1, h2, h3, h4, h5⟩ := firstOver_some hfo
      obtain ⟨⟨m, hm, ha, hmt⟩, hmin⟩ := over_some h3
      have hnN : n ∈ NS := by rw [h1]; simp
      have hd : (⟨x.name, m⟩ : Cl) ∈ CL := (hmem _).2 (.inr ⟨n, hnN, x, h2, m, hm, rfl⟩)
      have hdb : badB (picksOf l NS) ⟨x.name, m⟩ = true := by rw [hbn n x h2 m hm]; exact ha
      cases hf : CL.find? (badB (picksOf l NS)) with
      | none =>
        have := List.find?_eq_none.1 hf _ hd
        exact absurd hdb this
      | some c =>
        obtain ⟨c1, c2, c3⟩ := find_least hC.rises hf
        have c4 := c3 _ hd hdb
        rcases (hmem c).1 c1 with ⟨m', hm', rfl⟩ | ⟨n', hn', x', hx', m', hm', rfl⟩
        · rw [hbw m' hm', hnow m' hm'] at c2; cases c2
        · rw [hbn n' x' hx' m' hm'] at c2
          have hnl : lessB x.name x'.name = false := by
            cases hq : lessB x.name x'.name
            · rfl
            · rw [(clLess_iff ⟨x.name, m⟩ ⟨x'.name, m'⟩).2 (.inl hq)] at c4; cases c4
          -- x' is not ahead, nor behind
          have hsplit : picksOf l NS = picksOf l pre ++ relPk x :: picksOf l post := by
            rw [h1]
            simp only [picksOf, List.map_append, List.map_cons]
            rw [pick_at h2]
          have hxx : x'.name = x.name := by
            have hn'' : n' ∈ pre ++ n :: post := by rw [← h1]; exact hn'
            rcases List.mem_append.1 hn'' with q | q
            · have := over_none (h5 n' q x' hx') m' hm'
              rw [this] at c2; cases c2
            · rcases List.mem_cons.1 q with q | q
              · subst q; rw [h2] at hx'; cases hx'; rfl
              · rw [hsplit] at hrise
                have hr2 := (List.pairwise_append.1 hrise).2.1
                have := (List.pairwise_cons.1 hr2).1 (relPk x') (List.mem_map.2 ⟨n', q, pick_at hx'⟩)
                have : lessB x.name x'.name = true := this
                rw [hnl] at this; cases this
          have hxe : relPk x' = relPk x := by
            have hi1 := hin n' hn' x' hx'
            have hi2 := hin n hnN x h2
            have v1 := ver_some hrise _ hi1 0
            have v2 := ver_some hrise _ hi2 0
            have e : (relPk x').name = (relPk x).name := hxx
            rw [e] at v1
            rw [v1] at v2
            have v3 : x'.ver = x.ver := v2
            simp [relPk, hxx, v3]
          have hnx : x'.needs = x.needs := by
            rw [← hneeds x' (List.mem_of_getElem? hx'), hxe, hneeds x (List.mem_of_getElem? h2)]
          rw [hnx] at hm'
          have k1 := hmin m' hm' c2
          simp only [Option.map_some, Option.some.injEq, Prod.mk.injEq]
          refine ⟨hxx.trans h4, ?_⟩
          by_cases e : m'.name = t
          · exact e
          · rcases lessB_total e with q | q
            · rw [k1] at q; cases q
            · rw [(clLess_iff ⟨x.name, m⟩ ⟨x'.name, m'⟩).2 (.inr ⟨hxx.symm, by rw [hmt]; exact q⟩)] at c4; cases c4
end Go.Proofs.YteokcdobapkkhaaGreatDoor

namespace Go.Proofs.YteokcdobapkkhaaGreatDoor
open Go.ChangeShapes Go.WideShapes Go.ChangeAt Go.RowKit
set_option linter.unusedVariables false

/-- A release may stand for a name by these needs. -/
def fitsN (ns : List Imp) (nm : ByteArray) (r : Rel) : Bool := r.name.toList == nm.toList && ns.all fun m => !(m.name.toList == nm.toList && decide (m.mx < r.ver))
def newestV (l : List Rel) (ns : List Imp) (nm : ByteArray) : Int := l.foldl (fun v r => if fitsN ns nm r then max v r.ver else v) 0
/-- The needs that count when the newest ones are looked for. -/
def allNeeds (l : List Rel) (NS : List Nat) (ws : List Imp) : List Imp := ws ++ NS.flatMap fun n => match l[n]? with | some r => r.needs | none => []
def newestOf (l : List Rel) (NS : List Nat) (ws : List Imp) : List Pk := NS.map fun n => ⟨(pickAt l n).name, newestV l (allNeeds l NS ws) (pickAt l n).name⟩
theorem fitsN_iff (ns : List Imp) (nm : ByteArray) (r : Rel) : fitsN ns nm r = true ↔ r.name = nm ∧ ∀ m ∈ ns, m.name = nm → r.ver ≤ m.mx := by
  unfold fitsN
  rw [beq_bytes]
  simp only [Bool.and_eq_true, decide_eq_true_eq, List.all_eq_true, Bool.not_eq_true', Bool.and_eq_false_iff, decide_eq_false_iff_not]
  constructor
  · rintro ⟨h1, h2⟩
    refine ⟨h1, fun m hm e => ?_⟩
    rcases h2 m hm with h | h
    · rw [beq_bytes] at h; simp [e] at h
    · omega
  · rintro ⟨h1, h2⟩
    refine ⟨h1, fun m hm => ?_⟩
    by_cases e : m.name = nm
    · right; have := h2 m hm e; omega
    · left; rw [beq_bytes]; simpa using e
theorem newestV_ok (f : Rel → Bool) : ∀ (l : List Rel) (v : Int), (l.foldl (fun v r => if f r then max v r.ver else v) v = v ∨ ∃ r ∈ l, f r = true ∧ l.foldl (fun v r => if f r then max v r.ver else v) v = r.ver) ∧ v ≤ l.foldl (fun v r => if f r then max v r.ver else v) v ∧ ∀ r ∈ l, f r = true → r.ver ≤ l.foldl (fun v r => if f r then max v r.ver else v) v
  | [], v => ⟨.inl rfl, Int.le_refl _, fun r hr => by cases hr⟩
  | a :: l, v => by
    rw [List.foldl_cons]
    obtain ⟨h1, h2, h3⟩ := newestV_ok f l (if f a then max v a.ver else v)
    cases ha : f a
    · rw [ha] at h1 h2 h3
      simp only [Bool.false_eq_true, if_false] at h1 h2 h3 ⊢
      refine ⟨?_, h2, fun r hr hfr => ?_⟩
      · rcases h1 with h | ⟨r, hr, hf, he⟩
        · exact .inl h
        · exact .inr ⟨r, List.mem_cons_of_mem _ hr, hf, he⟩
      · rcases List.mem_cons.1 hr with rfl | hr
        · rw [ha] at hfr; cases hfr
        · exact h3 r hr hfr
    · rw [ha] at h1 h2 h3
      simp only [if_true] at h1 h2 h3 ⊢
      refine ⟨?_, by omega, fun r hr hfr => ?_⟩
      · rcases h1 with h | ⟨r, hr, hf, he⟩
        · by_cases hv : a.ver ≤ v
          · left; rw [h]; omega
          · right; exact ⟨a, by simp, ha, by rw [h]; omega⟩
        · exact .inr ⟨r, List.mem_cons_of_mem _ hr, hf, he⟩
      · rcases List.mem_cons.1 hr with rfl | hr
        · omega
        · exact h3 r hr hfr
/-- impl's way: the last one in order that is not above a limit. -/
def lastV (R : List Pk) (nm : ByteArray) (lim : Int) : Int := R.foldl (fun v p => if p.name = nm ∧ p.ver ≤ lim then p.ver else v) 0
theorem lastV_ok (nm : ByteArray) (lim : Int) : ∀ (R : List Pk) (v : Int), R.Pairwise (fun x y => pkLess y x = false) → (∀ p ∈ R, p.name = nm → v ≤ p.ver) →
    (R.foldl (fun v p => if p.name = nm ∧ p.ver ≤ lim then p.ver else v) v = v ∨ ∃ p ∈ R, (p.name = nm ∧ p.ver ≤ lim) ∧ R.foldl (fun v p => if p.name = nm ∧ p.ver ≤ lim then p.ver else v) v = p.ver) ∧
    v ≤ R.foldl (fun v p => if p.name = nm ∧ p.ver ≤ lim then p.ver else v) v ∧ ∀ p ∈ R, p.name = nm ∧ p.ver ≤ lim → p.ver ≤ R.foldl (fun v p => if p.name = nm ∧ p.ver ≤ lim then p.ver else v) v
  | [], v, _, _ => ⟨.inl rfl, Int.le_refl _, fun r hr => by cases hr⟩
  | a :: R, v, hp, hv => by
    obtain ⟨h1, h2⟩ := List.pairwise_cons.1 hp
    rw [List.foldl_cons]
    by_cases ha : a.name = nm ∧ a.ver ≤ lim
    · rw [if_pos ha]
      obtain ⟨k1, k2, k3⟩ := lastV_ok nm lim R a.ver h2 (fun p hp e => less_le (h1 p hp) (e.trans ha.1.symm))
      have hav := hv a (by simp) ha.1
      refine ⟨.inr ?_, by omega, fun p hp hfp => ?_⟩
      · rcases k1 with h | ⟨p, hp, hf, he⟩
        · exact ⟨a, by simp, ha, h⟩
        · exact ⟨p, List.mem_cons_of_mem _ hp, hf, he⟩
      · rcases List.mem_cons.1 hp with rfl | hp
        · exact k2
        · exact k3 p hp hfp
    · rw [if_neg ha]
      obtain ⟨k1, k2, k3⟩ := lastV_ok nm lim R v h2 (fun p hp e => hv p (List.mem_cons_of_mem _ hp) e)
      refine ⟨?_, k2, fun p hp hfp => ?_⟩
      · rcases k1 with h | ⟨p, hp, hf, he⟩
        · exact .inl h
        · exact .inr ⟨p, List.mem_cons_of_mem _ hp, hf, he⟩
      · rcases List.mem_cons.1 hp with rfl | hp
        · exact absurd hfp ha
        · exact k3 p hp hfp
/-- The limit of a name, claim by claim. -/
def limF (CL : List Cl) (v : Int) (nm : ByteArray) : Int := CL.foldl (fun v c => if c.need.name = nm then min v c.need.mx else v) v
theorem limF_le (nm : ByteArray) : ∀ (CL : List Cl) (v x : Int), x ≤ CL.foldl (fun v c => if c.need.name = nm then min v c.need.mx else v) v ↔ x ≤ v ∧ ∀ c ∈ CL, c.need.name = nm → x ≤ c.need.mx
  | [], v, x => by simp
  | a :: CL, v, x => by
    rw [List.foldl_cons, limF_le nm CL]
    by_cases ha : a.need.name = nm
    · rw [if_pos ha]
      constructor
      · rintro ⟨h1, h2⟩
        refine ⟨by omega, fun c hc e => ?_⟩
        rcases List.mem_cons.1 hc with rfl | hc
        · omega
        · exact h2 c hc e
      · rintro ⟨h1, h2⟩
        have := h2 a (by simp) ha
        exact ⟨by omega, fun c hc e => h2 c (List.mem_cons_of_mem _ hc) e⟩
    · rw [if_neg ha]
      constructor
      · rintro ⟨h1, h2⟩
        refine ⟨h1, fun c hc e => ?_⟩
        rcases List.mem_cons.1 hc with rfl | hc
        · exact absurd e ha
        · exact h2 c hc e
      · rintro ⟨h1, h2⟩
        exact ⟨h1, fun c hc e => h2 c (List.mem_cons_of_mem _ hc) e⟩
theorem newest_same {l : List Rel} {R : List Pk} {nf : Pk → List Imp} {ws : List Imp} {NS : List Nat} {CL : List Cl} (hs : Same l R nf) (hv : ∀ r ∈ l, 0 ≤ r.ver ∧ r.ver ≤ 999999) (hNS : ∀ n ∈ NS, n < l.length) (hC : SortedC (claimsOf nf ws (picksOf l NS)) CL) (nm : ByteArray) :
    lastV R nm (limF CL 999999 nm) = newestV l (allNeeds l NS ws) nm := by
  have hm : ∀ m : Imp, (∃ c ∈ CL, c.need = m) ↔ m ∈ allNeeds l NS ws := fun m => by
    unfold allNeeds
    rw [List.mem_append, List.mem_flatMap]
    constructor
    · rintro ⟨c, hc, rfl⟩
      rw [hC.perm.mem_iff] at hc
      unfold claimsOf at hc
      rcases List.mem_append.1 hc with h | h
      · obtain ⟨m, hm, rfl⟩ := List.mem_map.1 h
        exact .inl hm
      · obtain ⟨p, hp, h⟩ := List.mem_flatMap.1 h
        obtain ⟨m, hm, rfl⟩ := List.mem_map.1 h
        obtain ⟨n, hn, rfl⟩ := List.mem_map.1 hp
        have hl := hNS n hn
        rw [pick_at (List.getElem?_eq_getElem hl), hs.needs _ (List.getElem_mem hl)] at hm
        exact .inr ⟨n, hn, by rw [List.getElem?_eq_getElem hl]; exact hm⟩
    · rintro (h | ⟨n, hn, h⟩)
      · exact ⟨⟨⟨#[]⟩, m⟩, hC.perm.mem_iff.2 (List.mem_append.2 (.inl (List.mem_map.2 ⟨m, h, rfl⟩))), rfl⟩
      · have hl := hNS n hn
        rw [List.getElem?_eq_getElem hl] at h
        refine ⟨⟨(relPk l[n]).name, m⟩, hC.perm.mem_iff.2 (List.mem_append.2 (.inr (List.mem_flatMap.2 ⟨relPk l[n], List.mem_map.2 ⟨n, hn, pick_at (List.getElem?_eq_getElem hl)⟩, List.mem_map.2 ⟨m, ?_, rfl⟩⟩))), rfl⟩
        rw [hs.needs _ (List.getElem_mem hl)]
        exact h
  have hfit : ∀ r ∈ l, (fitsN (allNeeds l NS ws) nm r = true ↔ (relPk r).name = nm ∧ (relPk r).ver ≤ limF CL 999999 nm) := fun r hr => by
    rw [fitsN_iff]
    unfold limF
    rw [limF_le]
    constructor
    · rintro ⟨h1, h2⟩
      exact ⟨h1, (hv r hr).2, fun c hc e => h2 c.need ((hm _).1 ⟨c, hc, rfl⟩) e⟩
    · rintro ⟨h1, _, h2⟩
      refine ⟨h1, fun m hm' e => ?_⟩
      obtain ⟨c, hc, rfl⟩ := (hm m).2 hm'
      exact h2 c hc e
  obtain ⟨a1, a2, a3⟩ := newestV_ok (fitsN (allNeeds l NS ws) nm) l 0
  obtain ⟨b1, b2, b3⟩ := lastV_ok nm (limF CL 999999 nm) R 0 hs.rises (fun p hp _ => by obtain ⟨r, hr, rfl⟩ := (hs.mem p).1 hp; exact (hv r hr).1)
  unfold lastV newestV
  generalize (l.foldl (fun v r => if fitsN (allNeeds l NS ws) nm r then max v r.ver else v) 0) = A at *
  generalize (R.foldl (fun v p => if p.name = nm ∧ p.ver ≤ limF CL 999999 nm then p.ver else v) 0) = B at *
  have h1 : B ≤ A := by
    rcases b1 with h | ⟨p, hp, hf, he⟩
    · omega
    · obtain ⟨r, hr, rfl⟩ := (hs.mem p).1 hp
      have := a3 r hr ((hfit r hr).2 hf)
      have e : B = r.ver := he
      omega
  have h2 : A ≤ B := by
    rcases a1 with h | ⟨r, hr, hf, he⟩
    · omega
    · have := b3 (relPk r) ((hs.mem _).2 ⟨r, hr, rfl⟩) ((hfit r hr).1 hf)
      have e : r.ver ≤ B := this
      omega
  omega
end Go.Proofs.YteokcdobapkkhaaGreatDoor

namespace Go.Proofs.YteokcdobapkkhaaGreatDoor
open Go.ChangeShapes Go.WideShapes Go.ChangeAt Go.RowKit
set_option linter.unusedVariables false

/-- What a Newest answers, whatever it is. -/
def NewestC (f : Nat) (T : World → Prop) (C : List Rel → List Imp → List Pk × Int) : Prop := ∀ (S : Nat → Prop) (l : List Rel) (ws : List Imp) (v u : Value) (w : World), (∀ b, S b → b < w.heap.size) → RelsAt S w v l → ImpsAt S w u ws →
  l.length ≤ 1048576 → (∀ x ∈ l, RelOK 1048576 x) → ws.length ≤ 1048576 → (∀ x ∈ ws, ImpOK 1048576 x) → (∀ W, Below w.heap.size w W → T W) →
  Calls Tryz.prog f #[v, u] w fun e w' => (∃ p, e = .returned (.tuple #[p, .int .i64 (C l ws).2]) ∧ OwnP w.heap.size w' p (C l ws).1) ∧ Below w.heap.size w w'

end Go.Proofs.YteokcdobapkkhaaGreatDoor

namespace Go.Proofs.YteokcdobapkkhaaGreatDoor
open Go.ChangeShapes Go.WideShapes Go.ChangeAt Go.RowKit
set_option linter.unusedVariables false

set_option maxRecDepth 100000 in
theorem implClone (s : ByteArray) (w : World) (hs : s.size ≤ 1048576) : Calls Tryz.prog 55 #[.string s] w fun e w' => e = .returned (.string s) ∧ Below w.heap.size w w' := by
  have c := fun w => Tryz.stringslite_Clone s w (by omega)
  go_enter Tryz.func55, Tryz.ntmps55
  go_wp2_with (go_at_call 75; go_must (refine (c _).mono ?_; rintro e w1 ⟨rfl, hb1⟩))
  go_ret
  exact ⟨rfl, hb1⟩

set_option maxRecDepth 100000 in
set_option maxHeartbeats 1000000 in
theorem implOwnTexts {B : Nat} {w : World} {v : Value} {ss : List ByteArray} (h : OwnS B w v ss) (hl : ss.length ≤ 100000) (hsz : ∀ s ∈ ss, s.size ≤ 1048576) :
    Calls Tryz.prog 45 #[v] w fun e w' => (∃ p, e = .returned p ∧ OwnS w.heap.size w' p ss) ∧ Below w.heap.size w w' := by
  obtain ⟨a, cap, rfl, hc⟩ := h.value
  have HC : Hid _ := hc
  have HZ : Hid _ := hsz
  clear h hc hsz
  have hl' : (ss.length : Int) ≤ 100000 := by omega
  go_enter Tryz.func45, Tryz.ntmps45
  go_wp2_with fail
  go_loopw [3, 8] (fun i3 i8 wr => ∃ (k : Nat), i8 = .int .i64 (k : Int) ∧ k ≤ ss.length ∧ OwnS w.heap.size wr i3 (ss.take k) ∧ Below w.heap.size w wr) (fun _ i8 _ => ss.length - (intOf i8).toNat)
  case atStart => exact ⟨0, rfl, by omega, ⟨rfl, .inl ⟨rfl, rfl⟩⟩, Below.refl _ _⟩
  case round =>
    obtain ⟨k, rfl, hk, hown, hb⟩ := hrel
    have HOW : Hid (OwnS w.heap.size wr u3 (ss.take k)) := hown
    clear hown
    by_cases hkn : k < ss.length
    · have hkn' : (k : Int) < (ss.length : Int) := by omega
      obtain ⟨g, rfl, hcell⟩ := HC.out (by omega)
      have x1 := hcell k hkn
      have d1 := (hb.cell (p := ⟨g, k, none⟩) (cell_lt' x1)).trans x1
      have hz := HZ.out ss[k] (List.getElem_mem hkn)
      have htk : ss.take (k + 1) = ss.take k ++ [ss[k]] := List.take_succ_eq_append_getElem hkn
      obtain ⟨s, hs⟩ : ∃ s, ss[k] = s := ⟨_, rfl⟩
      rw [hs] at d1 hz htk
      have HTK : Hid _ := htk
      clear hs htk hcell x1
      have cc := implClone s wr hz
      obtain ⟨ti, hti, ht0, ht1, ht2⟩ := info9
      go_wp2_with (first
        | (go_at_call 55; go_must (refine cc.mono ?_; rintro e w1 ⟨rfl, hb1⟩))
        | (at_builtin; go_must (refine wpList_appendS rfl (.tmp 12) (.tmp 15) 28 rfl Tryz.underlying28 ti hti ht0 ht1 ht2 w.heap.size u3 (ss.take k) rfl ((OwnS.below HOW.out hb1).below ((Below.refl _ w1).alloc (Nat.le_refl _) _)) ⟨w1.heap.size, 0, none⟩ 1 s rfl (new_cell w1 s) (by simp; omega) (by have := hb.size; have := hb1.size; simp only [World.size_alloc]; omega) ?_; intro v4 w4 hown4 hB4 hgr4)))
      have hb2 := good_below hb hb1
      refine ⟨⟨k + 1, rfl, by omega, ?_, (hb2.alloc hb2.size _).trans hB4⟩, by simp [intOf]; omega⟩
      rw [HTK.out]; exact hown4
    · obtain rfl : k = ss.length := by omega
      have hkn' : ¬ ((ss.length : Int) < (ss.length : Int)) := by omega
      have ho := HOW.out
      rw [List.take_length] at ho
      have HO2 : Hid (OwnS w.heap.size wr u3 ss) := ho
      clear ho
      go_wp2_with fail
      go_ret
      exact ⟨⟨_, rfl, HO2.out⟩, hb⟩
end Go.Proofs.YteokcdobapkkhaaGreatDoor

namespace Go.Proofs.YteokcdobapkkhaaGreatDoor
open Go.ChangeShapes Go.WideShapes Go.ChangeAt Go.RowKit
set_option linter.unusedVariables false

set_option maxRecDepth 100000 in
set_option maxHeartbeats 4000000 in
theorem implOwnPicks {B : Nat} {w : World} {v : Value} {l : List Pk} (h : OwnP B w v l) (hl : l.length ≤ 100000) (hsz : ∀ p ∈ l, p.name.size ≤ 1048576) :
    Calls Tryz.prog 27 #[v] w fun e w' => (∃ p, e = .returned p ∧ OwnP w.heap.size w' p l) ∧ Below w.heap.size w w' := by
  obtain ⟨a, cap, rfl, hc⟩ := h.value
  have HC : Hid _ := hc
  have HZ : Hid _ := hsz
  clear h hc hsz
  have hl' : (l.length : Int) ≤ 100000 := by omega
  go_enter Tryz.func27, Tryz.ntmps27
  go_wp2_with fail
  go_loopw [3, 8] (fun i3 i8 wr => ∃ (k : Nat), i8 = .int .i64 (k : Int) ∧ k ≤ l.length ∧ OwnP w.heap.size wr i3 (l.take k) ∧ Below w.heap.size w wr) (fun _ i8 _ => l.length - (intOf i8).toNat)
  case atStart => exact ⟨0, rfl, by omega, ⟨rfl, .inl ⟨rfl, rfl⟩⟩, Below.refl _ _⟩
  case round =>
    obtain ⟨k, rfl, hk, hown, hb⟩ := hrel
    have HOW : Hid (OwnP w.heap.size wr u3 (l.take k)) := hown
    clear hown
    by_cases hkn : k < l.length
    · have hkn' : (k : Int) < (l.length : Int) := by omega
      obtain ⟨g, rfl, hcell⟩ := HC.out (by omega)
      obtain ⟨x1, x2⟩ := hcell k hkn
      have d1 := (hb.cell (p := ⟨g, k * 2, none⟩) (cell_lt' x1)).trans x1
      have d2 := (hb.cell (p := ⟨g, k * 2 + 1, none⟩) (cell_lt' x1)).trans x2
      have hz := HZ.out l[k] (List.getElem_mem hkn)
      have htk : l.take (k + 1) = l.take k ++ [l[k]] := List.take_succ_eq_append_getElem hkn
      obtain ⟨x, hx⟩ : ∃ x, l[k] = x := ⟨_, rfl⟩
      rw [hx] at d1 d2 hz htk
      have HTK : Hid _ := htk
      clear hx htk hcell x1 x2
      obtain ⟨xn, xv⟩ := x
      dsimp only at d1 d2 hz
      have bA : Below wr.heap.size wr (wr.alloc (.cells #[.string xn, .int .i64 xv] 41)) := (Below.refl _ wr).alloc (Nat.le_refl _) _
      have cc := implClone xn (wr.alloc (.cells #[.string xn, .int .i64 xv] 41)).drew hz
      have kp : ∀ w', Below (wr.alloc (.cells #[.string xn, .int .i64 xv] 41)).heap.size (wr.alloc (.cells #[.string xn, .int .i64 xv] 41)).drew w' → w'.cell? ⟨wr.heap.size, 0, none⟩ = some (.string xn) ∧ w'.cell? ⟨wr.heap.size, 1, none⟩ = some (.int .i64 xv) := fun w' hB => by
        have b1 : Blk (wr.alloc (.cells #[.string xn, .int .i64 xv] 41)).drew wr.heap.size 41 #[.string xn, .int .i64 xv] := heap_alloc_last wr _
        exact ⟨(b1.below hB).cell 0, (b1.below hB).cell 1⟩
      have KP : Hid _ := kp
      clear kp
      have hne : some wr.heap.size ≠ u3.ownBlock := fun e => Nat.lt_irrefl _ ((World.ownsRow.lt HOW.out _ e.symm).2)
      go_upto_region 5 with fail
      go_region_held3 (fun w' => w'.cell? ⟨wr.heap.size, 0, none⟩ = some (.string xn) ∧ w'.cell? ⟨wr.heap.size, 1, none⟩ = some (.int .i64 xv)) (first | go_keep | exact KP.out _ hb1 | exact KP.out _ (hb1.alloc hb1.size _) | exact ⟨hgr4.cell kq.1 hne, hgr4.cell kq.2 hne⟩) (first
        | (go_at_call 55; refine cc.mono ?_; rintro e w1 ⟨rfl, hb1⟩; have hs1 : wr.heap.size + 1 ≤ w1.heap.size := (World.size_alloc wr (.cells #[.string xn, .int .i64 xv] 41)) ▸ hb1.size; have kq := KP.out _ (hb1.alloc hb1.size (.cells #[.string xn, .int .i64 xv] 41)))
        | (refine step_appendP rfl (.tmp 12) (.tmp 19) rfl w.heap.size u3 (l.take k) (by simp [Act.eval]) ((OwnP.below HOW.out (bA.trans ((Below.refl _ _).drew.trans (hb1.mono bA.size)))).below ((Below.refl _ w1).alloc (Nat.le_refl _) _)) ⟨w1.heap.size, 0, none⟩ ⟨xn, xv⟩ (by simp [Act.eval]) (pk_new w1 xn xv) (by simp; omega) (by have := hb.size; simp only [World.size_alloc]; omega) ?_; intro va vn vc w4 hown4 hB4 hgr4))
      all_goals go_wp2_with fail
      all_goals
        have hb2 := good_below hb (bA.trans ((Below.refl _ _).drew.trans (hb1.mono bA.size)))
        refine ⟨⟨k + 1, rfl, by omega, ?_, (hb2.alloc hb2.size _).trans hB4⟩, by simp [intOf]; omega⟩
        rw [HTK.out]
        exact hown4
    · obtain rfl : k = l.length := by omega
      have hkn' : ¬ ((l.length : Int) < (l.length : Int)) := by omega
      have ho := HOW.out
      rw [List.take_length] at ho
      have HO2 : Hid (OwnP w.heap.size wr u3 l) := ho
      clear ho
      go_wp2_with fail
      go_ret
      exact ⟨⟨_, rfl, HO2.out⟩, hb⟩
end Go.Proofs.YteokcdobapkkhaaGreatDoor

namespace Go.Proofs.YteokcdobapkkhaaGreatDoor
open Go.ChangeShapes Go.WideShapes Go.ChangeAt Go.RowKit
set_option linter.unusedVariables false

set_option maxRecDepth 100000 in
set_option maxHeartbeats 1000000 in
theorem implSortTwo {B : Nat} {w : World} {v : Value} {l : List Pk} (h : OwnP B w v l) (hBw : B ≤ w.heap.size) (hl : l.length ≤ 1000000) :
    Calls Tryz.prog 41 #[v, .func (.func 42) #[] #[], .func (.func 43) #[] #[]] w fun e w' => e = .returned (.tuple #[]) ∧ (∃ l', Sorted l l' ∧ OwnP B w' v l') ∧ (∃ w1, Below w.heap.size w w1 ∧ w1.grownBy w' v.ownBlock) ∧ Below B w w' := by
  obtain ⟨a, cap, hv, _⟩ := h.value
  have HO : Hid (OwnP B w v l) := h
  subst hv
  clear h
  go_enter Tryz.func41, Tryz.ntmps41
  go_wp2_with (first
    | (go_at_call 68; go_must (refine (implByTwo _).mono ?_; rintro e w1 ⟨⟨g1, g2, rfl, has, hg1, hg2⟩, hb1⟩; have cs := implSortP (OwnP.below HO.out hb1) hl has; unfold cmpFn at *))
    | (go_at_call 67; go_must (refine cs.mono ?_; rintro e w2 ⟨rfl, l2, hso, hop, hgr⟩)))
  go_end0
  exact ⟨rfl, ⟨l2, hso, hop⟩, ⟨w1, hb1, hgr⟩, (hb1.mono hBw).grown hgr (Nat.le_trans hBw hb1.size) (OwnP.block HO.out)⟩
end Go.Proofs.YteokcdobapkkhaaGreatDoor

namespace Go.Proofs.YteokcdobapkkhaaGreatDoor
open Go.ChangeShapes Go.WideShapes Go.ChangeAt Go.RowKit
set_option linter.unusedVariables false

theorem enc_data (s : ByteArray) : encStr s.data.toList = .string s := by cases s; simp [encStr]
theorem map_enc (l : List ByteArray) : (l.map (fun s => s.data.toList)).map encStr = l.map Value.string := by
  rw [List.map_map]
  exact List.map_congr_left (fun s _ => enc_data s)
def unEnc (z : List UInt8) : ByteArray := ⟨z.toArray⟩
theorem enc_un (z : List UInt8) : encStr z = .string (unEnc z) := rfl
theorem un_map (l : List ByteArray) : (l.map (fun s => s.data.toList)).map unEnc = l := by
  rw [List.map_map]
  refine (List.map_congr_left (fun s _ => ?_)).trans (List.map_id l)
  cases s; simp [unEnc]
theorem enc_map (ts : List (List UInt8)) : (ts.map unEnc).map Value.string = ts.map encStr := by
  rw [List.map_map]; rfl
theorem less_un (x y : List UInt8) : lessB (unEnc x) (unEnc y) = decide (x < y) := by
  rw [lessB_eq]; exact decide_eq_decide.2 (by simp [unEnc])
/-- What slices.Sort leaves of texts: the same texts, in their order. -/
structure SortedS (l l' : List ByteArray) : Prop where
  perm : l'.Perm l
  rises : l'.Pairwise fun x y => lessB y x = false
theorem implSortS {B : Nat} {w : World} {v : Value} {l : List ByteArray} (h : OwnS B w v l) (hl : l.length ≤ 1000000) :
    Calls Tryz.prog 69 #[v] w fun e w' => e = .returned (.tuple #[]) ∧ ∃ l', SortedS l l' ∧ OwnS B w' v l' ∧ w.grownBy w' v.ownBlock := by
  by_cases h0 : l = []
  · subst h0
    obtain ⟨a, cap, rfl, _⟩ := h.value
    refine (Tryz.slices_Sort_string_none a cap w).mono ?_
    rintro e w' ⟨rfl, rfl⟩
    exact ⟨rfl, [], ⟨List.Perm.refl _, List.Pairwise.nil⟩, h, grown_refl _ _⟩
  · rcases h.2 with ⟨_, hz⟩ | ⟨g, cap, cur, rfl, hB, hg, hn1, hn2, hn3, hn4⟩
    · exact absurd (List.length_eq_zero_iff.1 hz) h0
    have hgw := (Array.getElem?_eq_some_iff.1 hg).1
    have ht : cur.toList.take (l.map (fun s => s.data.toList)).length = (l.map (fun s => s.data.toList)).map encStr := by
      rw [map_enc, List.length_map]; simpa using hn4
    have c := Tryz.slices_Sort_string g 0 cap (l.map (fun s => s.data.toList)) w (holds_of_block hg ht) hgw (by simp; omega)
    rw [List.length_map] at c
    refine c.mono ?_
    rintro e w' ⟨rfl, n, os, rfl⟩
    obtain ⟨ts, hts⟩ : ∃ ts, ((l.map (fun s => s.data.toList)).mergeSort fun x y => decide (x ≤ y)) = ts := ⟨_, rfl⟩
    have hp : ts.Perm (l.map (fun s => s.data.toList)) := hts ▸ List.mergeSort_perm _ _
    have hr : ts.Pairwise (fun x y => decide (x ≤ y) = true) := by
      rw [← hts]
      refine List.pairwise_mergeSort (fun a b c h1 h2 => ?_) (fun a b => ?_) _
      · rw [decide_eq_true_eq] at *; exact List.le_trans h1 h2
      · simp only [Bool.or_eq_true, decide_eq_true_eq]; exact List.le_total a b
    rw [hts]
    have hlen : (ts.map unEnc).length = l.length := by rw [List.length_map, hp.length_eq, List.length_map]
    refine ⟨rfl, ts.map unEnc, ⟨?_, ?_⟩, ?_, grownBy_sorted _⟩
    · have := hp.map unEnc
      rwa [un_map] at this
    · rw [List.pairwise_map]
      refine hr.imp (fun {a b} hab => ?_)
      rw [decide_eq_true_eq] at hab
      rw [less_un, decide_eq_false_iff_not]
      exact List.not_lt.2 hab
    · unfold OwnS
      rw [hlen, enc_map]
      have := ownsRow_sorted (n := n) (os := os) (ss := l.map (fun s => s.data.toList)) (ts := ts) hp.length_eq hB hg (by simpa using hn1) hn2 hn3
      rwa [List.length_map] at this

theorem compact_iff {d : Array (List UInt8)} {x : List UInt8} : x ∈ Lib.compactUpTo d d.size ↔ x ∈ d.toList := by
  unfold Lib.compactUpTo
  rw [List.mem_map]
  constructor
  · rintro ⟨i, hi, rfl⟩
    have hi' : i < d.size := List.mem_range.1 (List.mem_filter.1 hi).1
    rw [getElem!_pos d i hi']
    exact Array.getElem_mem_toList hi'
  · intro hx
    obtain ⟨j, hj, he⟩ := List.getElem_of_mem hx
    simp only [Array.length_toList] at hj
    have he' : d[j]! = x := by rw [getElem!_pos d j hj]; simpa using he
    clear he
    induction j using Nat.strongRecOn with
    | ind j ih =>
      cases hk : Lib.keeps d j
      · have : ¬ (j = 0 ∨ d[j]! ≠ d[j - 1]!) := by simpa [Lib.keeps] using hk
        have h1 : j ≠ 0 := fun e => this (.inl e)
        have h2 : d[j]! = d[j - 1]! := Classical.not_not.1 (fun e => this (.inr e))
        exact ih (j - 1) (by omega) (by omega) (h2 ▸ he')
      · exact ⟨j, List.mem_filter.2 ⟨List.mem_range.2 hj, hk⟩, he'⟩
theorem compact_rises {d : Array (List UInt8)} (h : ∀ i j, i < j → j < d.size → ¬ d[j]! < d[i]!) : (Lib.compactUpTo d d.size).Pairwise fun x y => x < y := by
  unfold Lib.compactUpTo
  rw [List.pairwise_map]
  refine List.Pairwise.imp_of_mem ?_ ((List.pairwise_lt_range (n := d.size)).filter _)
  intro a b ha hb hab
  obtain ⟨_, _⟩ := List.mem_filter.1 ha
  obtain ⟨hbr, hbk⟩ := List.mem_filter.1 hb
  have hbs := List.mem_range.1 hbr
  have hk : b = 0 ∨ d[b]! ≠ d[b - 1]! := by simpa [Lib.keeps] using hbk
  have hne : d[b]! ≠ d[b - 1]! := by rcases hk with e | e; · omega
                                     · exact e
  have h1 : d[b - 1]! < d[b]! := by
    have := h (b - 1) b (by omega) hbs
    exact Classical.not_not.1 (fun hn => hne (List.le_antisymm (List.not_lt.1 hn) (List.not_lt.1 this)))
  by_cases e : a = b - 1
  · rw [e]; exact h1
  · have := h a (b - 1) (by omega) (by omega)
    exact List.lt_of_le_of_lt (List.not_lt.1 this) h1
theorem implCompactS {B : Nat} {w : World} {v : Value} {l : List ByteArray} (h : OwnS B w v l) (hl : l.length ≤ 1000000) (hs : l.Pairwise fun x y => lessB y x = false) :
    Calls Tryz.prog 70 #[v] w fun e w' => ∃ q, e = .returned q ∧ OwnS B w' q (sortB l) ∧ w.grownBy w' v.ownBlock := by
  by_cases h0 : l = []
  · subst h0
    obtain ⟨a, cap, rfl, _⟩ := h.value
    refine (Tryz.slices_Compact_string_empty a cap w).mono ?_
    rintro e w' ⟨rfl, rfl⟩
    exact ⟨_, rfl, h, grown_refl _ _⟩
  · rcases h.2 with ⟨_, hz⟩ | ⟨g, cap, cur, rfl, hB, hg, hn1, hn2, hn3, hn4⟩
    · exact absurd (List.length_eq_zero_iff.1 hz) h0
    have hgw := (Array.getElem?_eq_some_iff.1 hg).1
    have ht : cur.toList.take (l.map (fun s => s.data.toList)).length = (l.map (fun s => s.data.toList)).map encStr := by
      rw [map_enc, List.length_map]; simpa using hn4
    have c := Tryz.slices_Compact_string g 0 cap (l.map (fun s => s.data.toList)) w (holds_of_block hg ht) (by simp; omega) (by simpa using hn1)
    rw [List.length_map] at c
    refine c.mono ?_
    rintro e w' ⟨rfl, q, rfl⟩
    obtain ⟨C, hC⟩ : ∃ C, Lib.compact (l.map (fun s => s.data.toList)) = C := ⟨_, rfl⟩
    have hCl : C.length ≤ l.length := by
      rw [← hC]
      have := Lib.compact_length_le (l.map (fun s => s.data.toList))
      rwa [List.length_map] at this
    have hCu : C = Lib.compactUpTo (l.map (fun s => s.data.toList)).toArray (l.map (fun s => s.data.toList)).toArray.size := by rw [← hC]; simp [Lib.compact]
    have hsorted : sortB l = C.map unEnc := by
      refine rises_eq (sortB_rises l) ?_ (fun x => ?_)
      · unfold Rises
        rw [List.pairwise_map, hCu]
        refine (compact_rises (fun i j hij hj => ?_)).imp (fun {a b} hab => ?_)
        · simp only [List.size_toArray, List.length_map] at hj
          have := List.pairwise_iff_getElem.1 hs i j (by omega) hj hij
          rw [lessB_eq, decide_eq_false_iff_not] at this
          rw [getElem!_pos _ j (by simpa using hj), getElem!_pos _ i (by simpa using (by omega : i < l.length))]
          simpa using this
        · rw [less_un, decide_eq_true_eq]; exact hab
      · rw [sortB_mem, List.mem_map, hCu]
        constructor
        · intro hx
          refine ⟨x.data.toList, compact_iff.2 (by simpa using ⟨x, hx, rfl⟩), ?_⟩
          cases x; simp [unEnc]
        · rintro ⟨z, hz, rfl⟩
          have := compact_iff.1 hz
          simp only [List.mem_map] at this
          obtain ⟨s, hs', rfl⟩ := this
          have : unEnc s.data.toList = s := by cases s; simp [unEnc]
          rw [this]; exact hs'
    rw [hC, hsorted]
    have hw : ∀ (d : Array (List UInt8)), (Sort.putRow encStr (Sort.ahead w q) g 0 d) = Sort.grow (Sort.putRow encStr (Sort.ahead w q) g 0 d) #[] := fun d => by
      unfold Sort.grow; rw [Array.append_empty]
    refine ⟨_, rfl, ?_, by rw [hw]; exact grownBy_sorted _⟩
    obtain ⟨ts, hts⟩ : ∃ ts, C ++ List.replicate (l.length - C.length) ([] : List UInt8) = ts := ⟨_, rfl⟩
    have htl : ts.length = l.length := by rw [← hts]; simp; omega
    rw [hts]
    have hb := heap_sorted (os := #[]) (n := q) ts.toArray hg
    rw [← hw] at hb
    refine ⟨by simp, .inr ⟨g, cap, _, by simp, hB, hb, by simp; omega, hn2, by simp [Sort.putCells, hn3], ?_⟩⟩
    have ht2 := take_putCells cur ts (by rw [htl, hn3]; omega)
    rw [List.length_map, Nat.mul_one, enc_map]
    have : C.length ≤ ts.length := by omega
    have h3 : (Sort.putCells encStr 0 ts.toArray cur).toList.take C.length = ((Sort.putCells encStr 0 ts.toArray cur).toList.take ts.length).take C.length := by rw [List.take_take, Nat.min_eq_left this]
    rw [h3, ht2, ← List.map_take, ← hts, List.take_left]
end Go.Proofs.YteokcdobapkkhaaGreatDoor

namespace Go.Proofs.YteokcdobapkkhaaGreatDoor
open Go.ChangeShapes Go.WideShapes Go.ChangeAt Go.RowKit
set_option linter.unusedVariables false

def missUp (R : List Pk) (nf : Pk → List Imp) (ws : List Imp) (T : List Sd) (k : Nat) : List ByteArray := missOf R ws ++ (T.take k).flatMap fun x => missOf R (nf x.item)
theorem missUp_succ {R : List Pk} {nf : Pk → List Imp} {ws : List Imp} {T : List Sd} {k : Nat} (hk : k < T.length) : missUp R nf ws T (k + 1) = missUp R nf ws T k ++ missOf R (nf T[k].item) := by
  unfold missUp
  rw [List.take_succ_eq_append_getElem hk, List.flatMap_append, List.append_assoc]
  simp
theorem missUp_all (R : List Pk) (nf : Pk → List Imp) (ws : List Imp) (T : List Sd) : missUp R nf ws T T.length = missAll R nf ws T := by
  unfold missUp missAll; rw [List.take_length]
theorem missUp_len {R : List Pk} {nf : Pk → List Imp} {ws : List Imp} {T : List Sd} (hw : ws.length ≤ 21) (hn : ∀ p ∈ R, (nf p).length ≤ 20) (hT : ∀ x ∈ T, x.item ∈ R) : ∀ k, k ≤ T.length → (missUp R nf ws T k).length ≤ 21 + 20 * k := by
  intro k
  induction k with
  | zero =>
    intro _
    have := miss_len R ws
    simp only [missUp, List.take_zero, List.flatMap_nil, List.append_nil]
    omega
  | succ k ih =>
    intro hk
    have hk' : k < T.length := by omega
    rw [missUp_succ hk', List.length_append]
    have h1 := ih (by omega)
    have h2 := miss_len R (nf T[k].item)
    have h3 := hn _ (hT _ (List.getElem_mem hk'))
    omega

set_option maxRecDepth 100000 in
set_option maxHeartbeats 4000000 in
theorem implMissing {S : Nat → Prop} {B Bt : Nat} {w : World} {sv lv : Value} {R : List Pk} {nf : Pk → List Imp} {ws : List Imp} {T : List Sd} (hS : ∀ b, S b → b < w.heap.size) (h : ShelfAt S B w sv R nf ws) (hg : Good R nf ws) (hT : OwnT Bt w lv T) (hTR : ∀ x ∈ T, x.item ∈ R) (hTl : T.length ≤ 200) :
    Calls Tryz.prog 44 #[sv, lv] w fun e w' => (∃ q, e = .returned q ∧ OwnS w.heap.size w' q (sortB (missAll R nf ws T))) ∧ Below w.heap.size w w' := by
  obtain ⟨rv, mb, wv, f, n, rfl, h2, h3, h4, h5⟩ := h
  obtain ⟨ra, rc, hrv, _⟩ := h2.value
  obtain ⟨wa, wc, hwv⟩ := h4.shape
  subst hrv hwv
  obtain ⟨la, lc, hlv, hlc⟩ := hT.value
  subst hlv
  have hbA : Below w.heap.size w (w.alloc (.cells #[.slice ra R.length rc, .map (some mb), .slice wa ws.length wc] 55)) := (Below.refl _ w).alloc (Nat.le_refl _) _
  have cR := fun (W : World) (hW : Below w.heap.size w W) (u : Value) (ns : List Imp) (hI : ImpsAt S w u ns) (hn : ns.length ≤ 100000) => implReach (w := W) (mv := .map (some mb)) (wv := .slice wa ws.length wc) (fun b hb => Nat.lt_of_lt_of_le (hS b hb) hW.size) (h2.below hW) (by have := hg.len; omega) hg.sort (hI.keep (cells_below hS hW)) hn ⟨_, rfl⟩ ⟨_, _, _, rfl⟩
  have cr := cR _ hbA _ ws h4 (by have := hg.wish; omega)
  have HCR : Hid _ := cR
  have H3 : Hid _ := h3
  have H5 : Hid _ := h5
  have HLC : Hid _ := hlc
  have HTR : Hid _ := hTR
  have HGN : Hid _ := hg.needs
  have hul := missUp_len (R := R) (nf := nf) (T := T) hg.wish hg.needs hTR
  have HUL : Hid _ := hul
  have hbk0 : Blk (w.alloc (.cells #[.slice ra R.length rc, .map (some mb), .slice wa ws.length wc] 55)) w.heap.size 55 #[.slice ra R.length rc, .map (some mb), .slice wa ws.length wc] := heap_alloc_last w _
  have HB0 : Hid _ := hbk0
  clear cR h2 h3 h4 h5 hlc hTR hg hS hT hul hbk0
  obtain ⟨M, hM⟩ : ∃ M, missAll R nf ws T = M := ⟨_, rfl⟩
  have HM : Hid (missAll R nf ws T = M) := hM
  rw [hM]
  clear hM
  obtain ⟨M0, hM0⟩ : ∃ M0, missOf R ws = M0 := ⟨_, rfl⟩
  have HM0 : Hid (missUp R nf ws T 0 = M0) := (show missUp R nf ws T 0 = M0 from by rw [← hM0]; simp [missUp])
  rw [hM0] at cr
  clear hM0
  have hTl' : (T.length : Int) ≤ 200 := by omega
  go_enter Tryz.func44, Tryz.ntmps44
  go_wp2_with (go_at_call 52; go_must (refine cr.mono ?_; rintro e w1 ⟨⟨p1, q1, f1, rfl, hso, hop, hos⟩, hb1⟩; clear hso hop))
  have hbw1 := good_below hbA hb1
  have HBX : Hid (Blk w1 w.heap.size 55 #[.slice ra R.length rc, .map (some mb), .slice wa ws.length wc]) := Blk.below HB0.out hb1
  have hos' := OwnS.mono hos hbA.size
  clear hos
  have HOS : Hid _ := hos'
  clear hos'
  have hs1 : w.heap.size < w1.heap.size := by have := hb1.size; simp only [World.size_alloc] at this; omega
  go_loopw [6, 20] (fun i6 i20 wr => ∃ (k : Nat), i20 = .int .i64 (k : Int) ∧ k ≤ T.length ∧ OwnS w.heap.size wr i6 (missUp R nf ws T k) ∧ Blk wr w.heap.size 55 #[.slice ra R.length rc, .map (some mb), .slice wa ws.length wc] ∧ Below w.heap.size w wr) (fun _ i20 _ => T.length - (intOf i20).toNat)
  case atStart => exact ⟨0, rfl, by omega, by rw [HM0.out]; exact HOS.out, HBX.out, hbw1⟩
  case round =>
    obtain ⟨k, rfl, hk, hos, hbx, hb⟩ := hrel
    have HOW : Hid (OwnS w.heap.size wr u6 (missUp R nf ws T k)) := hos
    clear hos
    by_cases hkn : k < T.length
    · have hkn' : (k : Int) < (T.length : Int) := by omega
      obtain ⟨g, rfl, _, hgw, hcell⟩ := HLC.out (by omega)
      obtain ⟨x1, x2, x3⟩ := hcell k hkn
      have d1 := (hb.cell (p := ⟨g, k * 3, none⟩) hgw).trans x1
      have d2 := (hb.cell (p := ⟨g, k * 3 + 1, none⟩) hgw).trans x2
      have d3 := (hb.cell (p := ⟨g, k * 3 + 2, none⟩) hgw).trans x3
      have hiR := HTR.out T[k] (List.getElem_mem hkn)
      have husc := missUp_succ (R := R) (nf := nf) (ws := ws) hkn
      obtain ⟨x, hx⟩ : ∃ x, T[k] = x := ⟨_, rfl⟩
      rw [hx] at d1 d2 d3 hiR husc
      clear hx hcell x1 x2 x3
      obtain ⟨⟨xn, xv⟩, fr⟩ := x
      dsimp only at d1 d2 d3 hiR husc
      obtain ⟨kl, hkl, hI⟩ := H5.out _ hiR
      have hnl := HGN.out _ hiR
      obtain ⟨na, nc, hnv⟩ := hI.shape
      unfold pkVal at hkl
      dsimp only at hkl
      have bA : Below wr.heap.size wr (wr.alloc (.cells #[.string xn, .int .i64 xv, .int .i64 fr] 71)).drew := ((Below.refl _ wr).alloc (Nat.le_refl _) _).drew
      have bAW := good_below hb bA
      have hlk := (NeedsAt.below H3.out bAW).look hkl
      have cr2 := HCR.out _ bAW _ _ hI (by omega)
      rw [hnv] at hlk cr2
      have kp : ∀ w', Below (wr.alloc (.cells #[.string xn, .int .i64 xv, .int .i64 fr] 71)).heap.size (wr.alloc (.cells #[.string xn, .int .i64 xv, .int .i64 fr] 71)).drew w' → w'.cell? ⟨w.heap.size, 0, none⟩ = some (.slice ra R.length rc) ∧ w'.cell? ⟨w.heap.size, 1, none⟩ = some (.map (some mb)) ∧ w'.cell? ⟨w.heap.size, 2, none⟩ = some (.slice wa ws.length wc) ∧ w'.cell? ⟨wr.heap.size, 0, none⟩ = some (.string xn) ∧ w'.cell? ⟨wr.heap.size, 1, none⟩ = some (.int .i64 xv) := fun w' hB => by
        have b1 : Blk (wr.alloc (.cells #[.string xn, .int .i64 xv, .int .i64 fr] 71)).drew wr.heap.size 71 #[.string xn, .int .i64 xv, .int .i64 fr] := heap_alloc_last wr _
        have b2 : Blk (wr.alloc (.cells #[.string xn, .int .i64 xv, .int .i64 fr] 71)).drew w.heap.size 55 #[.slice ra R.length rc, .map (some mb), .slice wa ws.length wc] := hbx.below bA
        exact ⟨(b2.below hB).cell 0, (b2.below hB).cell 1, (b2.below hB).cell 2, (b1.below hB).cell 0, (b1.below hB).cell 1⟩
      have KP : Hid _ := kp
      have HUS : Hid _ := husc
      obtain ⟨ML, hML⟩ : ∃ ML, missOf R (nf ⟨xn, xv⟩) = ML := ⟨_, rfl⟩
      have hMLl : ML.length ≤ 20 := by rw [← hML]; exact Nat.le_trans (miss_len _ _) hnl
      have HML : Hid (missOf R (nf ⟨xn, xv⟩) = ML) := hML
      rw [hML] at cr2
      obtain ⟨F2, hF2⟩ : ∃ F, foundOf R (nf ⟨xn, xv⟩) = F := ⟨_, rfl⟩
      rw [hF2] at cr2
      obtain ⟨NL, hNL⟩ : ∃ NL, (nf ⟨xn, xv⟩).length = NL := ⟨_, rfl⟩
      rw [hNL] at cr2 hlk
      have HBX2 : Hid _ := hbx
      have hbxA := hbx.below ((Below.refl _ wr).alloc (Nat.le_refl _) (.cells #[.string xn, .int .i64 xv, .int .i64 fr] 71))
      have e0 := hbxA.cell 0
      have e1 := hbxA.cell 1
      have e2 := hbxA.cell 2
      simp at e0 e1 e2
      clear hbxA
      clear kp husc hML hF2 hNL hnv hkl hI hiR hnl hbx
      have hulk := HUL.out k hk
      go_upto_region 5 with fail
      go_region_held3 (fun w' => w'.cell? ⟨w.heap.size, 0, none⟩ = some (.slice ra R.length rc) ∧ w'.cell? ⟨w.heap.size, 1, none⟩ = some (.map (some mb)) ∧ w'.cell? ⟨w.heap.size, 2, none⟩ = some (.slice wa ws.length wc) ∧ w'.cell? ⟨wr.heap.size, 0, none⟩ = some (.string xn) ∧ w'.cell? ⟨wr.heap.size, 1, none⟩ = some (.int .i64 xv)) (first | go_keep | exact KP.out _ (Below.refl _ _) | exact KP.out _ hb5) (first | (go_at_call 52; refine cr2.mono ?_; rintro e w5 ⟨⟨q2, q3, ff, rfl, hso, hop, hos⟩, hb5⟩; clear hso hop))
      all_goals
        have hb5w := bA.trans (hb5.mono bA.size)
        have hbW5 := good_below hb hb5w
        have ho5 := OwnS.below HOW.out hb5w
        have hB5 : w.heap.size ≤ w5.heap.size := hbW5.size
        obtain ⟨ti, hti, ht0, ht1, ht2⟩ := info9
        have HBX5 := Blk.below HBX2.out hb5w
        rcases hos.2 with ⟨rfl, hz⟩ | ⟨g5, c5, cur5, rfl, _, hg5, _⟩
        · have hML0 : ML = [] := List.length_eq_zero_iff.1 hz
          go_wp2_with (at_builtin; go_must (refine wpList_append_own_none rfl (.tmp 34) (.tmp 35) 28 rfl w.heap.size 9 ti 1 Tryz.underlying28 hti u6 (missUp R nf ws T k).length ((missUp R nf ws T k).map Value.string) rfl ho5 rfl ?_))
          refine ⟨⟨k + 1, rfl, by omega, ?_, HBX5, hbW5⟩, by simp [intOf]; omega⟩
          rw [HUS.out, HML.out, hML0, List.append_nil]
          exact ho5
        · have hcs := OwnS.cells hos
          go_wp2_with (at_builtin; go_must (refine wpList_appendSm rfl (.tmp 34) (.tmp 35) 28 rfl Tryz.underlying28 ti hti ht0 ht1 ht2 w.heap.size u6 (missUp R nf ws T k) rfl ho5 ⟨g5, 0, none⟩ c5 ML ML.length rfl rfl (fun j hj => by rw [add_at, Nat.zero_add]; exact hcs j hj) (by omega) hB5 ?_; intro v4 w4 hown4 hB4 hgr4 _))
          refine ⟨⟨k + 1, rfl, by omega, ?_, Blk.kept HBX5 hgr4 (row_blk (by decide) ho5 HBX5), hbW5.trans hB4⟩, by simp [intOf]; omega⟩
          rw [HUS.out, HML.out]
          exact hown4
    · obtain rfl : k = T.length := by omega
      have hkn' : ¬ ((T.length : Int) < (T.length : Int)) := by omega
      have ho := HOW.out
      have hlen := HUL.out T.length (Nat.le_refl _)
      rw [missUp_all, HM.out] at ho hlen
      have cs := implSortS ho (by omega)
      have HO2 : Hid (OwnS w.heap.size wr u6 M) := ho
      obtain ⟨a6, c6, hv6, _⟩ := ho.value
      clear ho
      subst hv6
      go_wp2_with (first
        | (go_at_call 69; go_must (refine cs.mono ?_; rintro e w5 ⟨rfl, l5, hso5, hos5, hgr5⟩; have cc := implCompactS hos5 (by rw [hso5.perm.length_eq]; omega) hso5.rises; have hp5 := hso5.perm; have HP5 : Hid _ := hp5; have HO5 : Hid _ := hos5; clear hso5 hos5 hp5))
        | (go_at_call 70; go_must (refine cc.mono ?_; rintro e w6 ⟨q6, rfl, hos6, hgr6⟩)))
      go_ret
      have b5 : Below w.heap.size w w5 := hb.grown hgr5 hb.size (OwnS.block HO2.out)
      have b6 : Below w.heap.size w w6 := b5.grown hgr6 b5.size (OwnS.block HO2.out)
      refine ⟨⟨_, rfl, ?_⟩, b6⟩
      have : sortB l5 = sortB M := sortB_eq (fun x => HP5.out.mem_iff)
      rw [← this]
      exact hos6
end Go.Proofs.YteokcdobapkkhaaGreatDoor

namespace Go.Proofs.YteokcdobapkkhaaGreatDoor
open Go.ChangeShapes Go.WideShapes Go.ChangeAt Go.RowKit
set_option linter.unusedVariables false

theorem wrap_i64 (q : Int) (h0 : -9223372036854775808 ≤ q) (h1 : q ≤ 9223372036854775807) : IntKind.i64.wrap q = q := by
  simp only [IntKind.wrap, IntKind.bits, IntKind.signed]
  simp
  omega
theorem lasts_end {A : List Pk} {k : Nat} (hk : k < A.length) (h : k + 1 = A.length) : lastsOf (A.drop k) = [A[k]] := by
  rw [List.drop_eq_getElem_cons hk, List.drop_eq_nil_of_le (by omega)]
  rfl
theorem lasts_at {A : List Pk} {k : Nat} (hk : k + 1 < A.length) : lastsOf (A.drop k) = if A[k + 1].name = A[k].name then lastsOf (A.drop (k + 1)) else A[k] :: lastsOf (A.drop (k + 1)) := by
  rw [List.drop_eq_getElem_cons (show k < A.length by omega), List.drop_eq_getElem_cons hk]
  rfl

set_option maxRecDepth 100000 in
set_option maxHeartbeats 4000000 in
theorem implGreatest {Bt : Nat} {w : World} {lv : Value} {T : List Sd} (hT : OwnT Bt w lv T) (hTl : T.length ≤ 200) :
    Calls Tryz.prog 46 #[lv] w fun e w' => (∃ q A, e = .returned q ∧ Sorted (T.map Sd.item) A ∧ OwnP w.heap.size w' q (lastsOf A)) ∧ Below w.heap.size w w' := by
  obtain ⟨la, lc, hlv, hlc⟩ := hT.value
  subst hlv
  have HLC : Hid _ := hlc
  clear hlc hT
  have hTl' : (T.length : Int) ≤ 200 := by omega
  go_enter Tryz.func46, Tryz.ntmps46
  go_wp2_with fail
  go_loopw [3, 11] (fun i3 i11 wr => ∃ (k : Nat), i11 = .int .i64 (k : Int) ∧ k ≤ T.length ∧ OwnP w.heap.size wr i3 ((T.take k).map Sd.item) ∧ Below w.heap.size w wr) (fun _ i11 _ => T.length - (intOf i11).toNat)
  case atStart => exact ⟨0, rfl, by omega, ⟨rfl, .inl ⟨rfl, rfl⟩⟩, Below.refl _ _⟩
  case round =>
    obtain ⟨k, rfl, hk, hop, hb⟩ := hrel
    have HOW : Hid (OwnP w.heap.size wr u3 ((T.take k).map Sd.item)) := hop
    clear hop
    by_cases hkn : k < T.length
    · have hkn' : (k : Int) < (T.length : Int) := by omega
      obtain ⟨g, rfl, _, hgw, hcell⟩ := HLC.out (by omega)
      obtain ⟨x1, x2, x3⟩ := hcell k hkn
      have d1 := (hb.cell (p := ⟨g, k * 3, none⟩) hgw).trans x1
      have d2 := (hb.cell (p := ⟨g, k * 3 + 1, none⟩) hgw).trans x2
      have d3 := (hb.cell (p := ⟨g, k * 3 + 2, none⟩) hgw).trans x3
      have htk : (T.take (k + 1)).map Sd.item = (T.take k).map Sd.item ++ [T[k].item] := by rw [List.take_succ_eq_append_getElem hkn, List.map_append]; rfl
      obtain ⟨x, hx⟩ : ∃ x, T[k] = x := ⟨_, rfl⟩
      rw [hx] at d1 d2 d3 htk
      have HTK : Hid _ := htk
      clear hx hcell x1 x2 x3 htk
      obtain ⟨⟨xn, xv⟩, fr⟩ := x
      dsimp only at d1 d2 d3
      have bA : Below wr.heap.size wr (wr.alloc (.cells #[.string xn, .int .i64 xv, .int .i64 fr] 71)) := (Below.refl _ wr).alloc (Nat.le_refl _) _
      have hs1 : w.heap.size ≤ wr.heap.size := hb.size
      go_wp2_with (at_builtin; go_must (refine wpList_appendP rfl (.tmp 15) (.tmp 18) rfl w.heap.size u3 ((T.take k).map Sd.item) rfl ((OwnP.below HOW.out bA).below ((Below.refl _ _).alloc (Nat.le_refl _) _)) ⟨wr.heap.size + 1, 0, none⟩ ⟨xn, xv⟩ rfl (by have := pk_new (wr.alloc (.cells #[.string xn, .int .i64 xv, .int .i64 fr] 71)) xn xv; rwa [World.size_alloc] at this) (by simp; omega) (by simp only [World.size_alloc]; omega) ?_; intro v4 w4 hown4 hB4 hgr4))
      have hb2 := good_below hb bA
      refine ⟨⟨k + 1, rfl, by omega, ?_, (hb2.alloc hb2.size _).trans hB4⟩, by simp [intOf]; omega⟩
      rw [HTK.out]; exact hown4
    · obtain rfl : k = T.length := by omega
      have hkn' : ¬ ((T.length : Int) < (T.length : Int)) := by omega
      have ho := HOW.out
      rw [List.take_length] at ho
      have cs := implSortTwo ho hb.size (by simp; omega)
      obtain ⟨a3, c3, hv3, _⟩ := ho.value
      clear ho HOW
      rw [List.length_map] at hv3
      subst hv3
      go_wp2_with (go_at_call 41; go_must (refine cs.mono ?_; rintro e w2 ⟨rfl, ⟨A, hso, hoA⟩, _, hb2⟩))
      have hb2w := hb.trans hb2
      have hAl : A.length = T.length := by rw [hso.perm.length_eq, List.length_map]
      obtain ⟨a4, c4, hv4, hcA⟩ := hoA.value
      simp only [Value.slice.injEq] at hv4
      obtain ⟨rfl, -, rfl⟩ := hv4
      have HAL : Hid (A.length = T.length) := hAl
      clear hAl
      have HSO : Hid _ := hso
      have HCA : Hid _ := hcA
      clear hso hoA hcA
      obtain ⟨F, hF⟩ : ∃ F, lastsOf A = F := ⟨_, rfl⟩
      have HF : Hid (lastsOf A = F) := hF
      clear hF
      go_loopw [4, 25] (fun i4 i25 wr => ∃ (k : Nat) (P' : List Pk), i25 = .int .i64 (k : Int) ∧ k ≤ T.length ∧ OwnP w2.heap.size wr i4 P' ∧ P' ++ lastsOf (A.drop k) = F ∧ P'.length ≤ k ∧ Below w2.heap.size w2 wr) (fun _ i25 _ => T.length - (intOf i25).toNat)
      case atStart => exact ⟨0, [], rfl, by omega, ⟨rfl, .inl ⟨rfl, rfl⟩⟩, by simpa using HF.out, by simp, Below.refl _ _⟩
      case round =>
        obtain ⟨k, P', rfl, hk2, hop, hef, hpl, hbr⟩ := hrel
        have HOW : Hid (OwnP w2.heap.size wr u4 P') := hop
        have HEF : Hid _ := hef
        clear hop hef
        by_cases hkn : k < T.length
        · have hkn2 : (k : Int) < (T.length : Int) := by omega
          have hkA : k < A.length := by rw [HAL.out]; omega
          obtain ⟨g, rfl, hcell⟩ := HCA.out (by rw [HAL.out]; omega)
          obtain ⟨x1, x2⟩ := hcell k hkA
          have hgw := cell_lt' x1
          have d1 := (hbr.cell (p := ⟨g, k * 2, none⟩) hgw).trans x1
          have d2 := (hbr.cell (p := ⟨g, k * 2 + 1, none⟩) hgw).trans x2
          have bA : ∀ n v, Below wr.heap.size wr ((wr.alloc (.cells #[.string n, .int .i64 v] 41))) := fun n v => (Below.refl _ wr).alloc (Nat.le_refl _) _
          have hs2 : w2.heap.size ≤ wr.heap.size := hbr.size
          by_cases hend : k + 1 = T.length
          · have hle := lasts_end hkA (by rw [HAL.out]; omega)
            have hwr : IntKind.i64.wrap ((T.length : Int) - 1) = (k : Int) := by rw [wrap_i64 _ (by omega) (by omega)]; omega
            have HEN : Hid (k + 1 = T.length) := hend
            clear hend
            obtain ⟨x, hx⟩ : ∃ x, A[k] = x := ⟨_, rfl⟩
            rw [hx] at d1 d2 hle
            have HLE : Hid _ := hle
            clear hx hcell x1 x2 hle
            obtain ⟨xn, xv⟩ := x
            dsimp only at d1 d2
            have bQ : ∀ nq, Below wr.heap.size wr (((wr.alloc (.cells #[.string xn, .int .i64 xv] 41)).drewN nq).alloc (.cells #[.string xn, .int .i64 xv] 41)) := fun nq => (bel_drewN (bA xn xv) nq).alloc (by simp [World.drewN]) _
            have bS : ∀ nq, Below wr.heap.size wr ((wr.alloc (.cells #[.string xn, .int .i64 xv] 41)).drewN nq) := fun nq => bel_drewN (bA xn xv) nq
            have hbkx : Blk (wr.alloc (.cells #[.string xn, .int .i64 xv] 41)) wr.heap.size 41 #[.string xn, .int .i64 xv] := heap_alloc_last wr _
            have z0 := hbkx.cell 0
            have z1 := hbkx.cell 1
            simp at z0 z1
            clear hbkx
            go_upto_region 11 with fail
            go_quiet (fail)
            go_wp2_with (at_builtin; go_must (refine wpList_appendP rfl (.tmp 46) (.tmp 48) rfl w2.heap.size u4 P' rfl (OwnP.below HOW.out (bQ nq)) ⟨wr.heap.size + 1, 0, none⟩ ⟨xn, xv⟩ rfl (by have := pk_new ((wr.alloc (.cells #[.string xn, .int .i64 xv] 41)).drewN nq) xn xv; rwa [show ((wr.alloc (.cells #[.string xn, .int .i64 xv] 41)).drewN nq).heap.size = wr.heap.size + 1 from World.size_alloc _ _] at this) (by omega) (Nat.le_trans hs2 (bQ nq).size) ?_; intro v4 w4 hown4 hB4 hgr4))
            have hend := HEN.out
            refine ⟨⟨k + 1, _, rfl, by omega, hown4, ?_, by simp; omega, (hbr.trans ((bQ nq).mono hs2)).trans hB4⟩, by simp [intOf]; omega⟩
            have he := HEF.out
            rw [HLE.out] at he
            rw [List.drop_eq_nil_of_le (by rw [HAL.out]; omega)]
            simpa [lastsOf] using he
          · have hkA1 : k + 1 < A.length := by rw [HAL.out]; omega
            have hwr : IntKind.i64.wrap ((T.length : Int) - 1) = (T.length : Int) - 1 := wrap_i64 _ (by omega) (by omega)
            have hbq : ((k : Int) == IntKind.i64.wrap ((T.length : Int) - 1)) = false := by rw [hwr]; simp; omega
            clear hwr
            obtain ⟨j, hj⟩ : ∃ j, j = k + 1 := ⟨_, rfl⟩
            have hwk : IntKind.i64.wrap ((k : Int) + 1) = (j : Int) := by rw [wrap_i64 _ (by omega) (by omega), hj]; omega
            have hkn3 : (j : Int) < (T.length : Int) := by omega
            have hla := lasts_at hkA1
            obtain ⟨y1, y2⟩ := hcell (k + 1) hkA1
            have d3 := (hbr.cell (p := ⟨g, (k + 1) * 2, none⟩) hgw).trans y1
            obtain ⟨x, hx⟩ : ∃ x, A[k] = x := ⟨_, rfl⟩
            obtain ⟨y, hy⟩ : ∃ y, A[k + 1] = y := ⟨_, rfl⟩
            rw [hx] at d1 d2 hla
            rw [hy] at hla d3
            rw [← hj] at d3
            have HJ : Hid (j = k + 1) := hj
            clear hj
            have HLA : Hid _ := hla
            clear hx hy hcell x1 x2 y1 y2 hla
            obtain ⟨xn, xv⟩ := x
            obtain ⟨yn, yv⟩ := y
            dsimp only at d1 d2 d3
            have d3A := ((bA xn xv).cell (p := ⟨g, j * 2, none⟩) (cell_lt' d3)).trans d3
            have hbkx : Blk (wr.alloc (.cells #[.string xn, .int .i64 xv] 41)) wr.heap.size 41 #[.string xn, .int .i64 xv] := heap_alloc_last wr _
            have z0 := hbkx.cell 0
            have z1 := hbkx.cell 1
            simp at z0 z1
            clear hbkx
            have bQ : ∀ nq, Below wr.heap.size wr (((wr.alloc (.cells #[.string xn, .int .i64 xv] 41)).drewN nq).alloc (.cells #[.string xn, .int .i64 xv] 41)) := fun nq => (bel_drewN (bA xn xv) nq).alloc (by simp [World.drewN]) _
            have bS : ∀ nq, Below wr.heap.size wr ((wr.alloc (.cells #[.string xn, .int .i64 xv] 41)).drewN nq) := fun nq => bel_drewN (bA xn xv) nq
            cases hne : yn.toList == xn.toList
            · go_upto_region 11 with fail
              go_quiet (fail)
              go_wp2_with (at_builtin; go_must (refine wpList_appendP rfl (.tmp 46) (.tmp 48) rfl w2.heap.size u4 P' rfl (OwnP.below HOW.out (bQ nq)) ⟨wr.heap.size + 1, 0, none⟩ ⟨xn, xv⟩ rfl (by have := pk_new ((wr.alloc (.cells #[.string xn, .int .i64 xv] 41)).drewN nq) xn xv; rwa [show ((wr.alloc (.cells #[.string xn, .int .i64 xv] 41)).drewN nq).heap.size = wr.heap.size + 1 from World.size_alloc _ _] at this) (by omega) (Nat.le_trans hs2 (bQ nq).size) ?_; intro v4 w4 hown4 hB4 hgr4))
              have hj := HJ.out
              refine ⟨⟨j, _, rfl, by omega, hown4, ?_, by simp; omega, (hbr.trans ((bQ nq).mono hs2)).trans hB4⟩, by simp [intOf]; omega⟩
              rw [hj]
              have he := HEF.out
              rw [HLA.out, if_neg (show ¬ ((⟨yn, yv⟩ : Pk).name = (⟨xn, xv⟩ : Pk).name) from fun e => by rw [beq_bytes] at hne; simp at hne; exact hne e)] at he
              simpa using he
            · go_upto_region 11 with fail
              go_quiet (fail)
              go_wp2_with fail
              have hj := HJ.out
              refine ⟨⟨j, P', rfl, by omega, OwnP.below HOW.out (bS nq), ?_, by omega, hbr.trans ((bS nq).mono hs2)⟩, by simp [intOf]; omega⟩
              rw [hj]
              have he := HEF.out
              rw [HLA.out, if_pos (show (⟨yn, yv⟩ : Pk).name = (⟨xn, xv⟩ : Pk).name from by rw [beq_bytes] at hne; simpa using hne)] at he
              exact he
        · obtain rfl : k = T.length := by omega
          have hkn2 : ¬ ((T.length : Int) < (T.length : Int)) := by omega
          have he := HEF.out
          rw [List.drop_eq_nil_of_le (by rw [HAL.out]; omega)] at he
          have he2 : P' = F := by simpa [lastsOf] using he
          go_wp2_with fail
          go_ret
          refine ⟨⟨_, rfl, A, HSO.out, ?_⟩, hb2w.trans (hbr.mono hb2w.size)⟩
          rw [HF.out, ← he2]
          exact OwnP.mono HOW.out hb2w.size
end Go.Proofs.YteokcdobapkkhaaGreatDoor
