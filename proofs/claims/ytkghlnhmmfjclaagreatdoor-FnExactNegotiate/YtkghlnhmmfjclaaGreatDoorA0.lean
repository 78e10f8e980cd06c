/-
  What is right in offers and asks, and what they come to, plainly. No statement of the seat is proved here.
-/
import Derived.Test.YtkghlnhmmfjclaaGreatDoorS0
import Derived.Test.YtkghlnhmmfjclaaGreatDoorNameWalks
namespace Go.Proofs.YtkghlnhmmfjclaaGreatDoor
open Go.ChangeShapes Go.WideShapes Go.ChangeAt Go.RowKit
set_option linter.unusedVariables false

/-- A need is right. -/
def needB (nameB : ByteArray → Bool) (x : Imp) : Bool := nameB x.name && decide (1 ≤ x.mn) && decide (x.mn ≤ x.mx) && decide (x.mx ≤ 999999)
/-- Needs from a place on, behind names that stood ahead. -/
def wishesFrom (nameB : ByteArray → Bool) : List Imp → List ByteArray → Bool
  | [], _ => true
  | x :: l, seen => if needB nameB x && !hasB seen x.name then wishesFrom nameB l (seen ++ [x.name]) else false
def wishesB (nameB : ByteArray → Bool) (l : List Imp) : Bool := if 20 < l.length then false else wishesFrom nameB l []
theorem wishes_split (nameB : ByteArray → Bool) : ∀ (l : List Imp) (seen : List ByteArray), wishesFrom nameB l seen = (l.all (needB nameB) && !dupFrom (l.map Imp.name) seen)
  | [], seen => by simp [wishesFrom, dupFrom]
  | x :: l, seen => by
    simp only [wishesFrom, List.all_cons, List.map_cons, dupFrom]
    rw [wishes_split nameB l]
    cases needB nameB x <;> cases hasB seen x.name <;> simp

/-- An offer by itself. -/
def offB (nameB : ByteArray → Bool) (x : Off) : Bool := nameB x.right && decide (1 ≤ x.ver) && decide (x.ver ≤ 999999) && decide (0 ≤ x.lim)
/-- An offer's right and version. -/
def offKey (x : Off) : Pk := ⟨x.right, x.ver⟩
def sameK (q p : Pk) : Bool := q.name.toList == p.name.toList && q.ver == p.ver
/-- One of these stands behind another one alike, or behind one of seen. -/
def dupK : List Pk → List Pk → Bool
  | [], _ => false
  | x :: l, seen => if seen.any (fun q => sameK q x) then true else dupK l (seen ++ [x])
/-- Offers from a place on, behind those that stood ahead. -/
def offersFrom (nameB : ByteArray → Bool) : List Off → List Off → Bool
  | [], _ => true
  | x :: l, pre => if offB nameB x && !(pre.any fun q => sameK (offKey q) (offKey x)) then offersFrom nameB l (pre ++ [x]) else false
def offersB (nameB : ByteArray → Bool) (l : List Off) : Bool := if 40 < l.length then false else offersFrom nameB l []
theorem offers_split (nameB : ByteArray → Bool) : ∀ (l pre : List Off), offersFrom nameB l pre = (l.all (offB nameB) && !dupK (l.map offKey) (pre.map offKey))
  | [], pre => by simp [offersFrom, dupK]
  | x :: l, pre => by
    simp only [offersFrom, List.all_cons, List.map_cons, dupK]
    rw [offers_split nameB l]
    have e : (pre.map offKey).any (fun q => sameK q (offKey x)) = pre.any fun q => sameK (offKey q) (offKey x) := by rw [List.any_map]; rfl
    rw [e]
    cases offB nameB x <;> cases (pre.any fun q => sameK (offKey q) (offKey x)) <;> simp
theorem offersFrom_no (nameB : ByteArray → Bool) (l pre : List Off) (k : Nat) (hk : k < l.length) (h : offB nameB l[k] = false ∨ ((pre ++ l.take k).any fun q => sameK (offKey q) (offKey l[k])) = true) : offersFrom nameB l pre = false := by
  induction l generalizing pre k with
  | nil => simp at hk
  | cons x l ih =>
    unfold offersFrom
    cases k with
    | zero =>
      simp only [List.getElem_cons_zero, List.take_zero, List.append_nil] at h
      rw [if_neg]
      rcases h with h | h <;> simp [h]
    | succ k =>
      split
      · refine ih (pre ++ [x]) k (by simpa using hk) ?_
        simpa using h
      · rfl
theorem offersFrom_yes (nameB : ByteArray → Bool) (l pre : List Off) (h : ∀ k (hk : k < l.length), offB nameB l[k] = true ∧ ((pre ++ l.take k).any fun q => sameK (offKey q) (offKey l[k])) = false) : offersFrom nameB l pre = true := by
  induction l generalizing pre with
  | nil => rfl
  | cons x l ih =>
    unfold offersFrom
    have h0 := h 0 (by simp)
    simp only [List.getElem_cons_zero, List.take_zero, List.append_nil] at h0
    rw [if_pos (by simp [h0.1, h0.2])]
    refine ih (pre ++ [x]) (fun k hk => ?_)
    have := h (k + 1) (by simpa using hk)
    simpa using this

/-- The offer meets the ask. -/
def fitsB (a : Imp) (o : Off) : Bool := o.right.toList == a.name.toList && decide (a.mn ≤ o.ver) && decide (o.ver ≤ a.mx)
/-- The greatest version that meets an ask, 0 where there is none. -/
def verOf (offs : List Off) (a : Imp) : Int := offs.foldl (fun v o => if fitsB a o then max v o.ver else v) 0
theorem ver_fold (a : Imp) : ∀ (offs : List Off) (v : Int), v ≤ offs.foldl (fun v o => if fitsB a o then max v o.ver else v) v ∧ (∀ o ∈ offs, fitsB a o = true → o.ver ≤ offs.foldl (fun v o => if fitsB a o then max v o.ver else v) v) ∧
    (offs.foldl (fun v o => if fitsB a o then max v o.ver else v) v = v ∨ ∃ o ∈ offs, fitsB a o = true ∧ offs.foldl (fun v o => if fitsB a o then max v o.ver else v) v = o.ver)
  | [], v => by simp
  | x :: l, v => by
    rw [List.foldl_cons]
    cases hx : fitsB a x
    · rw [if_neg (by simp)]
      obtain ⟨h1, h2, h3⟩ := ver_fold a l v
      refine ⟨h1, fun o ho hf => ?_, ?_⟩
      · rcases List.mem_cons.1 ho with rfl | ho
        · rw [hx] at hf; cases hf
        · exact h2 o ho hf
      · rcases h3 with h3 | ⟨o, ho, hf, he⟩
        · exact .inl h3
        · exact .inr ⟨o, List.mem_cons_of_mem _ ho, hf, he⟩
    · rw [if_pos rfl]
      obtain ⟨h1, h2, h3⟩ := ver_fold a l (max v x.ver)
      refine ⟨by omega, fun o ho hf => ?_, ?_⟩
      · rcases List.mem_cons.1 ho with rfl | ho
        · omega
        · exact h2 o ho hf
      · rcases h3 with h3 | ⟨o, ho, hf, he⟩
        · by_cases hm : v ≤ x.ver
          · exact .inr ⟨x, List.mem_cons_self .., hx, by omega⟩
          · exact .inl (by omega)
        · exact .inr ⟨o, List.mem_cons_of_mem _ ho, hf, he⟩
/-- A number that is that of an offer that meets the ask best, -1 where there is none. -/
def BestAt (offs : List Off) (a : Imp) (r : Int) : Prop := (r = -1 ∧ ∀ o ∈ offs, fitsB a o = false) ∨ ∃ (b : Nat) (hb : b < offs.length), r = (b : Int) ∧ fitsB a offs[b] = true ∧ ∀ o ∈ offs, fitsB a o = true → o.ver ≤ offs[b].ver
theorem best_none {offs : List Off} {a : Imp} (h : ∀ o ∈ offs, fitsB a o = false) : verOf offs a = 0 := by
  obtain ⟨_, _, h3⟩ := ver_fold a offs 0
  rcases h3 with h3 | ⟨o, ho, hf, _⟩
  · exact h3
  · rw [h o ho] at hf; cases hf
theorem best_some {offs : List Off} {a : Imp} (hv : ∀ o ∈ offs, 1 ≤ o.ver) {b : Nat} (hb : b < offs.length) (hf : fitsB a offs[b] = true) (hm : ∀ o ∈ offs, fitsB a o = true → o.ver ≤ offs[b].ver) : verOf offs a = offs[b].ver := by
  obtain ⟨h1, h2, h3⟩ := ver_fold a offs 0
  have h4 := h2 offs[b] (List.getElem_mem hb) hf
  have h5 := hv offs[b] (List.getElem_mem hb)
  unfold verOf
  rcases h3 with h3 | ⟨o, ho, hfo, he⟩
  · rw [h3] at h4; omega
  · have := hm o ho hfo
    rw [he] at h4 ⊢
    omega
theorem offers_ver {nameB : ByteArray → Bool} {offs : List Off} (h : offersB nameB offs = true) : ∀ o ∈ offs, 1 ≤ o.ver := by
  unfold offersB at h
  split at h
  · cases h
  · rw [offers_split] at h
    simp only [Bool.and_eq_true, List.all_eq_true] at h
    intro o ho
    have := h.1 o ho
    unfold offB at this
    simp at this
    exact this.1.1.2

def pickOf (offs : List Off) (a : Imp) : Option Pk := if 0 < verOf offs a then some ⟨a.name, verOf offs a⟩ else none
def lostOf (offs : List Off) (a : Imp) : Option ByteArray := if 0 < verOf offs a then none else some a.name
/-- Of the asks of this name. -/
def picksAt (offs : List Off) (asks : List Imp) (n : ByteArray) : List Pk := asks.filterMap fun a => if a.name = n then pickOf offs a else none
def lostAt (offs : List Off) (asks : List Imp) (n : ByteArray) : List ByteArray := asks.filterMap fun a => if a.name = n then lostOf offs a else none
def negP (offs : List Off) (asks : List Imp) : List Pk := (sortB (asks.map Imp.name)).flatMap (picksAt offs asks)
def negL (offs : List Off) (asks : List Imp) : List ByteArray := (sortB (asks.map Imp.name)).flatMap (lostAt offs asks)
/-- The code of a Negotiate. -/
def negC (offs : List Off) (asks : List Imp) : Int := if 4096 < offs.length ∨ 4096 < asks.length then 2 else if offersB nameOK offs && wishesB nameOK asks then 0 else 1
def negC0 (offs : List Off) (asks : List Imp) : List Pk := if negC offs asks = 0 then negP offs asks else []
def negC1 (offs : List Off) (asks : List Imp) : List ByteArray := if negC offs asks = 0 then negL offs asks else []

theorem flat_bound {α β : Type} (f : α → List β) (m : Nat) : ∀ l : List α, (∀ x ∈ l, (f x).length ≤ m) → (l.flatMap f).length ≤ l.length * m
  | [], _ => by simp
  | x :: l, h => by
    rw [List.flatMap_cons, List.length_append, List.length_cons, Nat.add_mul, Nat.one_mul]
    have h1 := h x (List.mem_cons_self ..)
    have h2 := flat_bound f m l (fun y hy => h y (List.mem_cons_of_mem _ hy))
    omega
theorem sortStep_len (ss : List ByteArray) (t : ByteArray) : (sortStep ss t).length ≤ ss.length + 1 := by
  unfold sortStep
  split
  · omega
  · simp; omega
theorem sort_len (l : List ByteArray) : ∀ ss, (l.foldl sortStep ss).length ≤ ss.length + l.length := by
  induction l with
  | nil => intro ss; simp
  | cons a r ih =>
    intro ss
    rw [List.foldl_cons, List.length_cons]
    have := ih (sortStep ss a)
    have := sortStep_len ss a
    omega
theorem sortB_len (l : List ByteArray) : (sortB l).length ≤ l.length := by
  have := sort_len l []
  simpa [sortB] using this
theorem wishes_len {nameB : ByteArray → Bool} {l : List Imp} (h : wishesB nameB l = true) : l.length ≤ 20 := by
  unfold wishesB at h
  split at h
  · cases h
  · omega
theorem neg_ok {offs : List Off} {asks : List Imp} (h : negC offs asks = 0) : offersB nameOK offs = true ∧ wishesB nameOK asks = true := by
  unfold negC at h
  split at h
  · cases h
  · split at h
    · rename_i h2
      simpa using h2
    · cases h
theorem neg_len0 (offs : List Off) (asks : List Imp) : (negC0 offs asks).length ≤ 1000000 := by
  unfold negC0
  split
  · rename_i h
    have hl := wishes_len (neg_ok h).2
    have h1 := flat_bound (picksAt offs asks) 20 (sortB (asks.map Imp.name)) (fun x _ => by
      have := List.length_filterMap_le (fun a : Imp => if a.name = x then pickOf offs a else none) asks
      unfold picksAt; omega)
    have h2 := sortB_len (asks.map Imp.name)
    rw [List.length_map] at h2
    unfold negP
    omega
  · simp
theorem neg_len1 (offs : List Off) (asks : List Imp) : (negC1 offs asks).length ≤ 1000000 := by
  unfold negC1
  split
  · rename_i h
    have hl := wishes_len (neg_ok h).2
    have h1 := flat_bound (lostAt offs asks) 20 (sortB (asks.map Imp.name)) (fun x _ => by
      have := List.length_filterMap_le (fun a : Imp => if a.name = x then lostOf offs a else none) asks
      unfold lostAt; omega)
    have h2 := sortB_len (asks.map Imp.name)
    rw [List.length_map] at h2
    unfold negL
    omega
  · simp

/-! Names that stand there once. -/
theorem dup_nodup : ∀ (ss seen : List ByteArray), dupFrom ss seen = false → ss.Nodup ∧ ∀ x ∈ ss, hasB seen x = false
  | [], seen, _ => by simp
  | x :: l, seen, h => by
    unfold dupFrom at h
    cases hx : hasB seen x
    · rw [hx, if_neg (by simp)] at h
      obtain ⟨h1, h2⟩ := dup_nodup l _ h
      refine ⟨List.nodup_cons.2 ⟨fun hm => ?_, h1⟩, fun y hy => ?_⟩
      · have := h2 x hm
        rw [hasB_snoc] at this
        simp at this
      · rcases List.mem_cons.1 hy with rfl | hy
        · exact hx
        · have := h2 y hy
          rw [hasB_snoc] at this
          simp at this
          exact this.1
    · rw [hx, if_pos rfl] at h; cases h
theorem wishes_nodup {nameB : ByteArray → Bool} {l : List Imp} (h : wishesB nameB l = true) : (l.map Imp.name).Nodup := by
  unfold wishesB at h
  split at h
  · cases h
  · rw [wishes_split] at h
    simp at h
    exact (dup_nodup _ _ h.2).1
theorem at_one {β : Type} (g : Imp → Option β) (R : β → β → Prop) (n : ByteArray) : ∀ l : List Imp, (l.map Imp.name).Nodup → (l.filterMap fun a => if a.name = n then g a else none).Pairwise R
  | [], _ => by simp
  | x :: l, h => by
    rw [List.map_cons, List.nodup_cons] at h
    by_cases hx : x.name = n
    · have hn : (l.filterMap fun a => if a.name = n then g a else none) = [] := by
        rw [List.filterMap_eq_nil_iff]
        intro a ha
        rw [if_neg]
        intro e
        exact h.1 (by rw [hx, ← e]; exact List.mem_map_of_mem ha)
      rw [List.filterMap_cons]
      split
      · rw [hn]; exact List.Pairwise.nil
      · rw [hn]; simp
    · rw [List.filterMap_cons, if_neg hx]
      exact at_one g R n l h.2

/-- The order of releases: by name, then by version. -/
def pkLess (x y : Pk) : Bool := lessB x.name y.name || (decide (x.name = y.name) && decide (x.ver < y.ver))
theorem pkLess_irrefl (x : Pk) : pkLess x x = false := by simp [pkLess, lessB_irrefl]
theorem pkLess_iff (x y : Pk) : pkLess x y = true ↔ lessB x.name y.name = true ∨ (x.name = y.name ∧ x.ver < y.ver) := by simp [pkLess]
theorem pkLess_trans {x y z : Pk} (h : pkLess x y = true) (k : pkLess y z = true) : pkLess x z = true := by
  rw [pkLess_iff] at *
  rcases h with h | ⟨h1, h2⟩ <;> rcases k with k | ⟨k1, k2⟩
  · exact .inl (lessB_trans h k)
  · exact .inl (k1 ▸ h)
  · exact .inl (h1 ▸ k)
  · exact .inr ⟨h1.trans k1, by omega⟩
theorem pkLess_total {x y : Pk} (h : x ≠ y) : pkLess x y = true ∨ pkLess y x = true := by
  rw [pkLess_iff, pkLess_iff]
  by_cases hn : x.name = y.name
  · have hv : x.ver ≠ y.ver := fun e => h (by cases x; cases y; simp_all)
    rcases Int.lt_or_gt_of_ne hv with q | q
    · exact .inl (.inr ⟨hn, q⟩)
    · exact .inr (.inr ⟨hn.symm, q⟩)
  · rcases lessB_total hn with q | q
    · exact .inl (.inl q)
    · exact .inr (.inl q)
theorem mem_picksAt {offs : List Off} {asks : List Imp} {n : ByteArray} {x : Pk} : x ∈ picksAt offs asks n ↔ ∃ a ∈ asks, a.name = n ∧ pickOf offs a = some x := by
  unfold picksAt
  rw [List.mem_filterMap]
  constructor
  · rintro ⟨a, ha, h⟩
    split at h
    · exact ⟨a, ha, by assumption, h⟩
    · cases h
  · rintro ⟨a, ha, hn, h⟩
    exact ⟨a, ha, by rw [if_pos hn]; exact h⟩
theorem mem_lostAt {offs : List Off} {asks : List Imp} {n x : ByteArray} : x ∈ lostAt offs asks n ↔ ∃ a ∈ asks, a.name = n ∧ lostOf offs a = some x := by
  unfold lostAt
  rw [List.mem_filterMap]
  constructor
  · rintro ⟨a, ha, h⟩
    split at h
    · exact ⟨a, ha, by assumption, h⟩
    · cases h
  · rintro ⟨a, ha, hn, h⟩
    exact ⟨a, ha, by rw [if_pos hn]; exact h⟩
theorem pickOf_name {offs : List Off} {a : Imp} {x : Pk} (h : pickOf offs a = some x) : x.name = a.name := by
  unfold pickOf at h
  split at h
  · cases h; rfl
  · cases h
theorem lostOf_name {offs : List Off} {a : Imp} {x : ByteArray} (h : lostOf offs a = some x) : x = a.name := by
  unfold lostOf at h
  split at h
  · cases h
  · cases h; rfl
theorem picks_eq {offs : List Off} {asks : List Imp} (h : (asks.map Imp.name).Nodup) {l : List Pk} (hp : l.Perm (asks.filterMap (pickOf offs))) (hs : l.Pairwise fun x y => pkLess y x = false) : l = negP offs asks := by
  have hnd : (asks.filterMap (pickOf offs)).Pairwise fun x y => x.name ≠ y.name := by
    rw [List.pairwise_filterMap]
    rw [List.Nodup, List.pairwise_map] at h
    refine h.imp ?_
    intro a b hab x hx y hy e
    rw [pickOf_name hx, pickOf_name hy] at e
    exact hab e
  have hnl : l.Pairwise fun x y => x.name ≠ y.name := (hp.pairwise_iff (fun {a b} hab e => hab e.symm)).2 hnd
  refine pw_eq (r := fun x y => pkLess x y = true) (fun x y z h1 h2 => pkLess_trans h1 h2) (fun x hx => by rw [pkLess_irrefl] at hx; cases hx) ?_ ?_ (fun x => ?_)
  · refine (hs.and hnl).imp ?_
    rintro a b ⟨h1, h2⟩
    rcases pkLess_total (x := a) (y := b) (fun e => h2 (by rw [e])) with q | q
    · exact q
    · rw [h1] at q; cases q
  · unfold negP
    rw [List.pairwise_flatMap]
    refine ⟨fun n _ => at_one _ _ n asks h, (sortB_rises (asks.map Imp.name)).imp ?_⟩
    intro a b hab x hx y hy
    obtain ⟨p, _, hpn, hpx⟩ := mem_picksAt.1 hx
    obtain ⟨q, _, hqn, hqy⟩ := mem_picksAt.1 hy
    rw [pkLess_iff]
    left
    rw [pickOf_name hpx, pickOf_name hqy, hpn, hqn]
    exact hab
  · rw [hp.mem_iff, List.mem_filterMap]
    unfold negP
    rw [List.mem_flatMap]
    constructor
    · rintro ⟨a, ha, hx⟩
      exact ⟨a.name, (sortB_mem _ _).2 (List.mem_map_of_mem ha), mem_picksAt.2 ⟨a, ha, rfl, hx⟩⟩
    · rintro ⟨n, _, hx⟩
      obtain ⟨a, ha, _, hx⟩ := mem_picksAt.1 hx
      exact ⟨a, ha, hx⟩
theorem lost_eq {offs : List Off} {asks : List Imp} (h : (asks.map Imp.name).Nodup) {l : List ByteArray} (hp : l.Perm (asks.filterMap (lostOf offs))) (hs : l.Pairwise fun x y => lessB y x = false) : l = negL offs asks := by
  have hnd : (asks.filterMap (lostOf offs)).Pairwise fun x y => x ≠ y := by
    rw [List.pairwise_filterMap]
    rw [List.Nodup, List.pairwise_map] at h
    refine h.imp ?_
    intro a b hab x hx y hy e
    rw [lostOf_name hx, lostOf_name hy] at e
    exact hab e
  have hnl : l.Pairwise fun x y => x ≠ y := (hp.pairwise_iff (fun {a b} hab e => hab e.symm)).2 hnd
  refine pw_eq (r := fun x y => lessB x y = true) (fun x y z h1 h2 => lessB_trans h1 h2) (fun x hx => by rw [lessB_irrefl] at hx; cases hx) ?_ ?_ (fun x => ?_)
  · refine (hs.and hnl).imp ?_
    rintro a b ⟨h1, h2⟩
    rcases lessB_total h2 with q | q
    · exact q
    · rw [h1] at q; cases q
  · unfold negL
    rw [List.pairwise_flatMap]
    refine ⟨fun n _ => at_one _ _ n asks h, (sortB_rises (asks.map Imp.name)).imp ?_⟩
    intro a b hab x hx y hy
    obtain ⟨p, _, hpn, hpx⟩ := mem_lostAt.1 hx
    obtain ⟨q, _, hqn, hqy⟩ := mem_lostAt.1 hy
    rw [lostOf_name hpx, lostOf_name hqy, hpn, hqn]
    exact hab
  · rw [hp.mem_iff, List.mem_filterMap]
    unfold negL
    rw [List.mem_flatMap]
    constructor
    · rintro ⟨a, ha, hx⟩
      exact ⟨a.name, (sortB_mem _ _).2 (List.mem_map_of_mem ha), mem_lostAt.2 ⟨a, ha, rfl, hx⟩⟩
    · rintro ⟨n, _, hx⟩
      obtain ⟨a, ha, _, hx⟩ := mem_lostAt.1 hx
      exact ⟨a, ha, hx⟩
end Go.Proofs.YtkghlnhmmfjclaaGreatDoor
