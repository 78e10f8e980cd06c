/-
  Settings that rise by path; layers in their order: plain facts. No statement of the seat is proved here.
-/
import Derived.Test.YtnlakebhkfbpfaaGreatDoorH5a
import Derived.Test.YtnlakebhkfbpfaaGreatDoorJ0
namespace Go.Proofs.YtnlakebhkfbpfaaGreatDoor
open Go.ChangeShapes Go.WideShapes Go.ChangeAt Go.RowKit
set_option linter.unusedVariables false

/-- Settings that rise by path. -/
def SRises (l : List Setting) : Prop := l.Pairwise fun x y => lessB x.path y.path = true
theorem SRises.eq {a b : List Setting} (ha : SRises a) (hb : SRises b) (h : ∀ x, x ∈ a ↔ x ∈ b) : a = b :=
  pw_eq (r := fun x y : Setting => lessB x.path y.path = true) (fun _ _ _ h1 h2 => lessB_trans h1 h2) (fun x h => by rw [lessB_irrefl] at h; cases h) ha hb h
theorem within_self (p : ByteArray) : withinB p p = true := by unfold withinB; simp
theorem hits_same {o : Setting} {e : Entry} (h : o.path = e.path) : hits o e = true := by unfold hits; rw [h, within_self]; rfl
def tilde (e : Entry) : Bool := e.text.toList == [126]

structure RestInv (out : List Setting) (e : Entry) (nm : ByteArray) (j : Nat) (r : List Setting) (p : Bool) : Prop where
  rises : SRises r
  mem : ∀ x, x ∈ r ↔ (∃ i, i < j ∧ out[i]? = some x ∧ hits x e = false) ∨ (p = true ∧ tilde e = false ∧ x = newS e nm)
  low : p = false → ∀ x ∈ r, lessB x.path e.path = true
  high : p = true → tilde e = false → ∀ i o, j ≤ i → out[i]? = some o → lessB e.path o.path = true
  til : tilde e = true → p = true
theorem rises_at {out : List Setting} (h : SRises out) {i j : Nat} {x y : Setting} (hij : i < j) (hx : out[i]? = some x) (hy : out[j]? = some y) : lessB x.path y.path = true := by
  obtain ⟨h1, rfl⟩ := List.getElem?_eq_some_iff.1 hx
  obtain ⟨h2, rfl⟩ := List.getElem?_eq_some_iff.1 hy
  exact List.pairwise_iff_getElem.1 h i j h1 h2 hij
theorem restInv {out : List Setting} {e : Entry} {nm : ByteArray} (h : SRises out) : ∀ j, j ≤ out.length → RestInv out e nm j (restUp out e nm j).1 (restUp out e nm j).2
  | 0, _ => by
    unfold restUp
    refine ⟨List.Pairwise.nil, fun x => ⟨fun hx => (by simp at hx), ?_⟩, fun _ x hx => (by simp at hx), fun h1 h2 => ?_, fun h => h⟩
    · rintro (⟨i, hi, _⟩ | ⟨h1, h2, _⟩)
      · omega
      · unfold tilde at h2; simp only at h1; rw [h1] at h2; cases h2
    · unfold tilde at h2; simp only at h1; rw [h1] at h2; cases h2
  | j + 1, hj => by
    have ih := restInv (e := e) (nm := nm) h j (by omega)
    obtain ⟨r, p, hr⟩ : ∃ r p, restUp out e nm j = (r, p) := ⟨_, _, rfl⟩
    rw [hr] at ih
    dsimp only at ih
    have hjl : j < out.length := by omega
    have ho : out[j]? = some out[j] := List.getElem?_eq_getElem hjl
    generalize out[j] = o at ho
    cases hh : hits o e
    · cases hq : (!p && Go.Op.bytesLess e.path.toList o.path.toList)
      · rw [restUp_keep hr ho hh hq]
        dsimp only
        refine ⟨?_, fun x => ?_, fun hp x hx => ?_, fun hp ht i o2 hi hoi => ih.high hp ht i o2 (by omega) hoi, ih.til⟩
        · unfold SRises
          rw [List.pairwise_append]
          refine ⟨ih.rises, by simp, fun x hx y hy => ?_⟩
          simp at hy
          subst hy
          rcases (ih.mem x).1 hx with ⟨i, hi, hxi, _⟩ | ⟨h1, h2, rfl⟩
          · exact rises_at h hi hxi ho
          · exact ih.high h1 h2 j _ (Nat.le_refl _) ho
        · rw [List.mem_append, ih.mem, List.mem_singleton]
          constructor
          · rintro ((⟨i, hi, h1, h2⟩ | h1) | rfl)
            · exact .inl ⟨i, by omega, h1, h2⟩
            · exact .inr h1
            · exact .inl ⟨j, by omega, ho, hh⟩
          · rintro (⟨i, hi, h1, h2⟩ | h1)
            · by_cases e1 : i = j
              · subst e1; rw [ho] at h1; cases h1; exact .inr rfl
              · exact .inl (.inl ⟨i, by omega, h1, h2⟩)
            · exact .inl (.inr h1)
        · rcases List.mem_append.1 hx with hx | hx
          · exact ih.low hp x hx
          · simp at hx
            subst hx
            subst hp
            have hl : lessB e.path x.path = false := by simpa [lessB] using hq
            rcases lessB_total (x := x.path) (y := e.path) (fun e1 => by rw [hits_same e1] at hh; cases hh) with q | q
            · exact q
            · rw [hl] at q; cases q
      · have hp : p = false := by cases p <;> simp_all
        subst hp
        have hl : lessB e.path o.path = true := by simpa [lessB] using hq
        have htl : tilde e = false := by
          cases ht : tilde e
          · rfl
          · have := ih.til ht; cases this
        rw [restUp_put hr ho hh hl]
        dsimp only
        refine ⟨?_, fun x => ?_, fun hp => (by cases hp), fun _ _ i o2 hi hoi => lessB_trans hl (rises_at h (by omega) ho hoi), fun _ => rfl⟩
        · unfold SRises
          rw [List.pairwise_append, List.pairwise_append]
          refine ⟨⟨ih.rises, by simp, fun x hx y hy => ?_⟩, by simp, fun x hx y hy => ?_⟩
          · simp at hy; subst hy; exact ih.low rfl x hx
          · simp at hy
            subst hy
            rcases List.mem_append.1 hx with hx | hx
            · exact lessB_trans (ih.low rfl x hx) hl
            · simp at hx; subst hx; exact hl
        · rw [List.mem_append, List.mem_append, ih.mem, List.mem_singleton, List.mem_singleton]
          constructor
          · rintro (((⟨i, hi, h1, h2⟩ | ⟨h1, _⟩) | h1) | rfl)
            · exact .inl ⟨i, by omega, h1, h2⟩
            · cases h1
            · exact .inr ⟨rfl, htl, h1⟩
            · exact .inl ⟨j, by omega, ho, hh⟩
          · rintro (⟨i, hi, h1, h2⟩ | ⟨_, _, h1⟩)
            · by_cases e1 : i = j
              · subst e1; rw [ho] at h1; cases h1; exact .inr rfl
              · exact .inl (.inl (.inl ⟨i, by omega, h1, h2⟩))
            · exact .inl (.inr h1)
    · rw [restUp_hit hr ho hh]
      dsimp only
      refine ⟨ih.rises, fun x => ?_, ih.low, fun hp ht i o2 hi hoi => ih.high hp ht i o2 (by omega) hoi, ih.til⟩
      rw [ih.mem]
      constructor
      · rintro (⟨i, hi, h1, h2⟩ | h1)
        · exact .inl ⟨i, by omega, h1, h2⟩
        · exact .inr h1
      · rintro (⟨i, hi, h1, h2⟩ | h1)
        · by_cases e1 : i = j
          · subst e1; rw [ho] at h1; cases h1; rw [hh] at h2; cases h2
          · exact .inl ⟨i, by omega, h1, h2⟩
        · exact .inr h1
theorem layStep_ok {out : List Setting} {e : Entry} {nm : ByteArray} (h : SRises out) : SRises (layStep nm out e) ∧ ∀ x, x ∈ layStep nm out e ↔ (x ∈ out ∧ hits x e = false) ∨ (tilde e = false ∧ x = newS e nm) := by
  have ih := restInv (e := e) (nm := nm) h out.length (Nat.le_refl _)
  obtain ⟨r, p, hr⟩ : ∃ r p, restUp out e nm out.length = (r, p) := ⟨_, _, rfl⟩
  rw [hr] at ih
  dsimp only at ih
  have hm : ∀ x, (∃ i, i < out.length ∧ out[i]? = some x ∧ hits x e = false) ↔ (x ∈ out ∧ hits x e = false) := fun x => by
    constructor
    · rintro ⟨i, _, h1, h2⟩; exact ⟨List.mem_of_getElem? h1, h2⟩
    · rintro ⟨h1, h2⟩
      obtain ⟨i, hi, rfl⟩ := List.getElem_of_mem h1
      exact ⟨i, hi, List.getElem?_eq_getElem hi, h2⟩
  cases p
  · have htl : tilde e = false := by
      cases ht : tilde e
      · rfl
      · have := ih.til ht; cases this
    rw [layStep_end hr]
    refine ⟨?_, fun x => ?_⟩
    · unfold SRises
      rw [List.pairwise_append]
      refine ⟨ih.rises, by simp, fun x hx y hy => ?_⟩
      simp at hy; subst hy; exact ih.low rfl x hx
    · rw [List.mem_append, ih.mem, hm, List.mem_singleton]
      constructor
      · rintro ((h1 | ⟨h1, _⟩) | h1)
        · exact .inl h1
        · cases h1
        · exact .inr ⟨htl, h1⟩
      · rintro (h1 | ⟨_, h1⟩)
        · exact .inl (.inl h1)
        · exact .inr h1
  · rw [layStep_put hr]
    refine ⟨ih.rises, fun x => ?_⟩
    rw [ih.mem, hm]
    constructor
    · rintro (h1 | ⟨_, h1, h2⟩)
      · exact .inl h1
      · exact .inr ⟨h1, h2⟩
    · rintro (h1 | ⟨h1, h2⟩)
      · exact .inl h1
      · exact .inr ⟨rfl, h1, h2⟩

/-! Layers in their order. -/
theorem lessL_iff (x y : LayV) : lessL x y = true ↔ x.x.rank < y.x.rank ∨ (x.x.rank = y.x.rank ∧ lessB x.x.name y.x.name = true) := by
  unfold lessL lessB; simp
theorem lessL_irrefl (x : LayV) : ¬ lessL x x = true := by
  rw [lessL_iff, lessB_irrefl]; simp
theorem lessL_trans {x y z : LayV} (h : lessL x y = true) (k : lessL y z = true) : lessL x z = true := by
  rw [lessL_iff] at *
  rcases h with h | ⟨h1, h2⟩ <;> rcases k with k | ⟨k1, k2⟩
  · exact .inl (by omega)
  · exact .inl (by omega)
  · exact .inl (by omega)
  · exact .inr ⟨by omega, lessB_trans h2 k2⟩
theorem lessL_total {x y : LayV} (h : x.x.name ≠ y.x.name) : lessL x y = true ∨ lessL y x = true := by
  rw [lessL_iff, lessL_iff]
  rcases Int.lt_trichotomy x.x.rank y.x.rank with q | q | q
  · exact .inl (.inl q)
  · rcases lessB_total h with r | r
    · exact .inl (.inr ⟨q, r⟩)
    · exact .inr (.inr ⟨q.symm, r⟩)
  · exact .inr (.inl q)
def LRises (l : List LayV) : Prop := l.Pairwise fun x y => lessL x y = true
theorem posUp_ok (out : List LayV) (y : LayV) : ∀ k, k ≤ out.length → (∀ i (hi : i < out.length), k ≤ i → lessL y out[i] = true) →
    posUp out y k ≤ k ∧ (∀ i (hi : i < out.length), posUp out y k ≤ i → lessL y out[i] = true) ∧ (0 < posUp out y k → ∃ hq : posUp out y k - 1 < out.length, lessL y out[posUp out y k - 1] = false)
  | 0, _, h => ⟨Nat.le_refl _, fun i hi _ => h i hi (Nat.zero_le _), fun h0 => (by unfold posUp at h0; omega)⟩
  | k + 1, hk, h => by
    have hkl : k < out.length := by omega
    cases hl : lessL y out[k]
    · have hp : posUp out y (k + 1) = k + 1 := by
        conv => lhs; unfold posUp
        rw [List.getElem?_eq_getElem hkl]
        simp [hl]
      rw [hp]
      exact ⟨Nat.le_refl _, h, fun _ => ⟨by omega, by simpa using hl⟩⟩
    · have hp : posUp out y (k + 1) = posUp out y k := by
        conv => lhs; unfold posUp
        rw [List.getElem?_eq_getElem hkl]
        simp [hl]
      rw [hp]
      obtain ⟨h1, h2, h3⟩ := posUp_ok out y k (by omega) (fun i hi hki => by
        by_cases e : i = k
        · subst e; exact hl
        · exact h i hi (by omega))
      exact ⟨by omega, h2, h3⟩
theorem overStep_ok {out : List LayV} {y : LayV} (h : LRises out) (hd : ∀ z ∈ out, z.x.name ≠ y.x.name) : LRises (overStep out y) ∧ ∀ x, x ∈ overStep out y ↔ x ∈ out ∨ x = y := by
  obtain ⟨h1, h2, h3⟩ := posUp_ok out y out.length (Nat.le_refl _) (fun i hi hki => by omega)
  unfold overStep posN
  generalize posUp out y out.length = q at h1 h2 h3
  have hsp : out = out.take q ++ out.drop q := (List.take_append_drop _ _).symm
  have hlow : ∀ x ∈ out.take q, lessL x y = true := fun x hx => by
    obtain ⟨i, hi, rfl⟩ := List.mem_take_iff_getElem.1 hx
    have hi2 : i < out.length := by omega
    obtain ⟨hq, hb⟩ := h3 (by omega)
    have hlast : lessL out[q - 1] y = true := by
      rcases lessL_total (hd _ (List.getElem_mem hq)) with r | r
      · exact r
      · rw [hb] at r; cases r
    by_cases e : i = q - 1
    · subst e; exact hlast
    · exact lessL_trans (List.pairwise_iff_getElem.1 h i (q - 1) hi2 hq (by omega)) hlast
  have hhigh : ∀ x ∈ out.drop q, lessL y x = true := fun x hx => by
    obtain ⟨i, hi, rfl⟩ := List.getElem_of_mem hx
    rw [List.getElem_drop]
    exact h2 _ _ (by omega)
  have hp := h
  unfold LRises at hp
  rw [hsp, List.pairwise_append] at hp
  obtain ⟨p1, p2, p3⟩ := hp
  refine ⟨?_, fun x => ?_⟩
  · unfold LRises
    rw [List.pairwise_append, List.pairwise_append]
    refine ⟨⟨p1, by simp, fun a ha b hb => by simp at hb; subst hb; exact hlow a ha⟩, p2, fun a ha b hb => ?_⟩
    rcases List.mem_append.1 ha with ha | ha
    · exact p3 a ha b hb
    · simp at ha; subst ha; exact hhigh b hb
  · conv => rhs; rw [hsp]
    simp only [List.mem_append, List.mem_singleton]
    constructor
    · rintro ((h | h) | h)
      · exact .inl (.inl h)
      · exact .inr h
      · exact .inl (.inr h)
    · rintro ((h | h) | h)
      · exact .inl (.inl h)
      · exact .inr h
      · exact .inl (.inr h)
def Named (l : List LayV) : Prop := l.Pairwise fun x y => x.x.name ≠ y.x.name
theorem overFold_ok : ∀ (lv out : List LayV), LRises out → Named lv → (∀ z ∈ out, ∀ y ∈ lv, z.x.name ≠ y.x.name) → LRises (lv.foldl overStep out) ∧ ∀ x, x ∈ lv.foldl overStep out ↔ x ∈ out ∨ x ∈ lv
  | [], out, h, _, _ => ⟨h, fun x => by simp⟩
  | y :: lv, out, h, hn, hd => by
    obtain ⟨n1, n2⟩ := List.pairwise_cons.1 hn
    obtain ⟨h1, h2⟩ := overStep_ok (y := y) h (fun z hz => hd z hz y (List.mem_cons_self ..))
    obtain ⟨h3, h4⟩ := overFold_ok lv _ h1 n2 (fun z hz y2 hy2 => by
      rcases (h2 z).1 hz with q | q
      · exact hd z q y2 (List.mem_cons_of_mem _ hy2)
      · subst q; exact n1 y2 hy2)
    rw [List.foldl_cons]
    refine ⟨h3, fun x => ?_⟩
    rw [h4, h2, List.mem_cons]
    constructor
    · rintro ((h | h) | h)
      · exact .inl h
      · exact .inr (.inl h)
      · exact .inr (.inr h)
    · rintro (h | h | h)
      · exact .inl (.inl h)
      · exact .inl (.inr h)
      · exact .inr h
/-- The row that a sort leaves is the row that an insertion makes. -/
theorem over_is {lv l : List LayV} (hn : Named lv) (hp : l.Perm lv) (hs : l.Pairwise fun x y => lessL y x = false) : l = overF lv := by
  obtain ⟨h1, h2⟩ := overFold_ok lv [] List.Pairwise.nil hn (fun z hz => by cases hz)
  have hn2 : Named l := (hp.pairwise_iff (fun {_ _} h => Ne.symm h)).2 hn
  refine pw_eq (r := fun x y : LayV => lessL x y = true) (fun _ _ _ a b => lessL_trans a b) lessL_irrefl ?_ h1 (fun x => ?_)
  · rw [List.pairwise_iff_getElem] at *
    intro i j hi hj hij
    rcases lessL_total (List.pairwise_iff_getElem.1 hn2 i j hi hj hij) with q | q
    · exact q
    · rw [hs i j hi hj hij] at q; cases q
  · unfold overF at *
    rw [h2, hp.mem_iff]
    simp
end Go.Proofs.YtnlakebhkfbpfaaGreatDoor
