/-
  What a Watch answers, plainly; two rows of settings as one. No statement of the seat is proved here.
-/
import Derived.Test.YtoopdcbgnccmiaaGreatDoorQ2
import Derived.Test.YtoopdcbgnccmiaaGreatDoorI10
import Derived.Test.YtoopdcbgnccmiaaGreatDoorS0
namespace Go.Proofs.YtoopdcbgnccmiaaGreatDoor
open Go.ChangeShapes Go.WideShapes Go.ChangeAt Go.RowKit Go.Maps
set_option linter.unusedVariables false

def lookS (l : List Setting) (p : ByteArray) : Option Setting := l.find? fun s => s.path.toList == p.toList
def textOf (l : List Setting) (p : ByteArray) : ByteArray := match lookS l p with
  | some s => s.text
  | none => ⟨#[]⟩
def seenB (paths : List ByteArray) (p : ByteArray) : Bool := paths.any fun q => withinB p q
def chg (a b : List Setting) (paths : List ByteArray) (p : ByteArray) : Option Change := if seenB paths p && !((textOf a p).toList == (textOf b p).toList) then some ⟨p, textOf a p, textOf b p⟩ else none
def bothPaths (a b : List Setting) : List ByteArray := sortB (a.map Setting.path ++ b.map Setting.path)
def changesF (a b : List Setting) (paths : List ByteArray) : List Change := (bothPaths a b).filterMap (chg a b paths)
def longW (old late : List Layer) (paths : List ByteArray) : Bool := decide (4096 < old.length) || decide (4096 < late.length) || decide (4096 < paths.length)
def rightW (old late : List Layer) (paths : List ByteArray) : Bool := layersB nameOK old && layersB nameOK late && paths.all (pathB nameOK)
def watchL (old late : List Layer) (paths : List ByteArray) : List Change := if longW old late paths then [] else if rightW old late paths then changesF (laidF (overP old)) (laidF (overP late)) paths else []
def watchC (old late : List Layer) (paths : List ByteArray) : Int := if longW old late paths then 2 else if rightW old late paths then 0 else 1
theorem filterMap_len {α β : Type} (f : α → Option β) : ∀ l : List α, (l.filterMap f).length ≤ l.length
  | [] => by simp
  | x :: l => by
    have := filterMap_len f l
    rw [List.filterMap_cons]
    split
    · simp; omega
    · simp; omega
theorem sortStep_len (ss : List ByteArray) (t : ByteArray) : (sortStep ss t).length ≤ ss.length + 1 := by
  unfold sortStep
  split
  · omega
  · simp; omega
theorem sortFold_len : ∀ (l ss : List ByteArray), (l.foldl sortStep ss).length ≤ ss.length + l.length
  | [], ss => by simp
  | x :: l, ss => by
    have h1 := sortFold_len l (sortStep ss x)
    have h2 := sortStep_len ss x
    rw [List.foldl_cons, List.length_cons]
    omega
theorem sortB_len (l : List ByteArray) : (sortB l).length ≤ l.length := by
  have := sortFold_len l []
  unfold sortB
  simpa using this
theorem both_len (a b : List Setting) : (bothPaths a b).length ≤ a.length + b.length := by
  have := sortB_len (a.map Setting.path ++ b.map Setting.path)
  unfold bothPaths
  simpa using this
theorem watch_len (old late : List Layer) (paths : List ByteArray) : (watchL old late paths).length ≤ 1000000 := by
  unfold watchL
  split
  · simp
  · split
    · rename_i h
      unfold rightW at h
      simp only [Bool.and_eq_true] at h
      have h1 := laid_len h.1.1
      have h2 := laid_len h.1.2
      have h3 := both_len (laidF (overP old)) (laidF (overP late))
      have h4 := filterMap_len (chg (laidF (overP old)) (laidF (overP late)) paths) (bothPaths (laidF (overP old)) (laidF (overP late)))
      unfold changesF
      omega
    · simp
/-! Two rows as one. -/
theorem lookS_is {f : ByteArray → Option Setting} {l : List Setting} (h : IsOf f l) (p : ByteArray) : lookS l p = f p := by
  cases hf : f p with
  | none =>
    unfold lookS
    rw [List.find?_eq_none]
    intro s hs hp
    rw [beq_bytes, decide_eq_true_eq] at hp
    have := (h p s).2 ⟨hs, hp⟩
    rw [hf] at this; cases this
  | some s =>
    have h1 := (h p s).1 hf
    unfold lookS
    cases hl : l.find? (fun s => s.path.toList == p.toList) with
    | none =>
      rw [List.find?_eq_none] at hl
      have := hl s h1.1
      rw [h1.2] at this
      simp at this
    | some t =>
      have ht := List.find?_some hl
      rw [beq_bytes, decide_eq_true_eq] at ht
      have := (h p t).2 ⟨List.mem_of_find?_eq_some hl, ht⟩
      rw [hf] at this
      exact this.symm
theorem rises_of {l : List Setting} (h : SRises l) : IsOf (lookS l) l := by
  intro p s
  constructor
  · intro hs
    have h1 := List.find?_some hs
    rw [beq_bytes, decide_eq_true_eq] at h1
    exact ⟨List.mem_of_find?_eq_some hs, h1⟩
  · rintro ⟨h1, rfl⟩
    unfold lookS
    cases hl : l.find? (fun t => t.path.toList == s.path.toList) with
    | none =>
      rw [List.find?_eq_none] at hl
      have := hl s h1
      simp at this
    | some t =>
      have ht := List.find?_some hl
      rw [beq_bytes, decide_eq_true_eq] at ht
      obtain ⟨i, hi, rfl⟩ := List.getElem_of_mem h1
      obtain ⟨j, hj, rfl⟩ := List.getElem_of_mem (List.mem_of_find?_eq_some hl)
      rcases Nat.lt_trichotomy i j with q | q | q
      · have := List.pairwise_iff_getElem.1 h i j hi hj q
        rw [ht, lessB_irrefl] at this; cases this
      · subst q; rfl
      · have := List.pairwise_iff_getElem.1 h j i hj hi q
        rw [ht, lessB_irrefl] at this; cases this
/-- What stands at a path in the later row, or else in the elder one. -/
def eitherS (a b : List Setting) (p : ByteArray) : Option Setting := match lookS b p with
  | some s => some s
  | none => lookS a p
def unionS (a b : List Setting) : List Setting := (bothPaths a b).filterMap (eitherS a b)
theorem look_path {l : List Setting} {p : ByteArray} {s : Setting} (h : lookS l p = some s) : s.path = p ∧ s ∈ l := by
  have h1 := List.find?_some h
  rw [beq_bytes, decide_eq_true_eq] at h1
  exact ⟨h1, List.mem_of_find?_eq_some h⟩
theorem either_path {a b : List Setting} {p : ByteArray} {s : Setting} (h : eitherS a b p = some s) : s.path = p ∧ (s ∈ a ∨ s ∈ b) := by
  unfold eitherS at h
  cases hb : lookS b p with
  | some t => rw [hb] at h; cases h; exact ⟨(look_path hb).1, .inr (look_path hb).2⟩
  | none => rw [hb] at h; exact ⟨(look_path h).1, .inl (look_path h).2⟩
theorem both_mem (a b : List Setting) (p : ByteArray) : p ∈ bothPaths a b ↔ (∃ s ∈ a, s.path = p) ∨ ∃ s ∈ b, s.path = p := by
  unfold bothPaths
  rw [sortB_mem, List.mem_append, List.mem_map, List.mem_map]
theorem either_some {a b : List Setting} (ha : SRises a) (hb : SRises b) {p : ByteArray} (h : p ∈ bothPaths a b) : ∃ s, eitherS a b p = some s := by
  unfold eitherS
  cases hl : lookS b p with
  | some s => exact ⟨s, rfl⟩
  | none =>
    rcases (both_mem a b p).1 h with ⟨s, hs, rfl⟩ | ⟨s, hs, rfl⟩
    · exact ⟨s, (rises_of ha s.path s).2 ⟨hs, rfl⟩⟩
    · rw [(rises_of hb s.path s).2 ⟨hs, rfl⟩] at hl; cases hl
theorem union_of {a b : List Setting} (ha : SRises a) (hb : SRises b) : IsOf (eitherS a b) (unionS a b) := by
  intro p s
  unfold unionS
  rw [List.mem_filterMap]
  constructor
  · intro h
    have h1 := either_path h
    refine ⟨⟨p, (both_mem a b p).2 ?_, h⟩, h1.1⟩
    rcases h1.2 with q | q
    · exact .inl ⟨s, q, h1.1⟩
    · exact .inr ⟨s, q, h1.1⟩
  · rintro ⟨⟨q, _, hq⟩, rfl⟩
    rw [← (either_path hq).1] at hq
    exact hq
theorem filterMap_rises {g : ByteArray → Option Setting} (hg : ∀ p s, g p = some s → s.path = p) : ∀ l : List ByteArray, Rises l → SRises (l.filterMap g)
  | [], _ => List.Pairwise.nil
  | p :: l, h => by
    obtain ⟨h1, h2⟩ := List.pairwise_cons.1 h
    rw [List.filterMap_cons]
    have ih := filterMap_rises hg l h2
    cases hp : g p with
    | none => exact ih
    | some s =>
      refine List.pairwise_cons.2 ⟨fun t ht => ?_, ih⟩
      obtain ⟨q, hq, hqt⟩ := List.mem_filterMap.1 ht
      rw [hg p s hp, hg q t hqt]
      exact h1 q hq
theorem union_rises (a b : List Setting) : SRises (unionS a b) := filterMap_rises (fun p s h => (either_path h).1) _ (sortB_rises _)
theorem map_filterMap {g : ByteArray → Option Setting} (hg : ∀ p s, g p = some s → s.path = p) : ∀ l : List ByteArray, (∀ p ∈ l, ∃ s, g p = some s) → (l.filterMap g).map Setting.path = l
  | [], _ => rfl
  | p :: l, h => by
    obtain ⟨s, hs⟩ := h p (List.mem_cons_self ..)
    rw [List.filterMap_cons, hs, List.map_cons, hg p s hs, map_filterMap hg l (fun q hq => h q (List.mem_cons_of_mem _ hq))]
theorem union_paths {a b : List Setting} (ha : SRises a) (hb : SRises b) : (unionS a b).map Setting.path = bothPaths a b :=
  map_filterMap (fun p s h => (either_path h).1) _ (fun p hp => either_some ha hb hp)
/-- The changes, told along the row of both. -/
theorem changes_union {a b : List Setting} (ha : SRises a) (hb : SRises b) (paths : List ByteArray) : changesF a b paths = (unionS a b).filterMap (fun s => chg a b paths s.path) := by
  unfold changesF
  rw [← union_paths ha hb, List.filterMap_map]
  rfl
theorem union_len (a b : List Setting) : (unionS a b).length ≤ a.length + b.length := by
  have h1 := filterMap_len (eitherS a b) (bothPaths a b)
  have h2 := both_len a b
  unfold unionS
  omega
theorem union_mem {a b : List Setting} {s : Setting} (h : s ∈ unionS a b) : s ∈ a ∨ s ∈ b := by
  obtain ⟨p, _, hp⟩ := List.mem_filterMap.1 h
  exact (either_path hp).2
end Go.Proofs.YtoopdcbgnccmiaaGreatDoor
