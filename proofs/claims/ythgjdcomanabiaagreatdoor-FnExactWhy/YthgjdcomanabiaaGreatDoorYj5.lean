/-
  The least need that is passed: impl's claims in order, and the document's search. Why: rows in order (the shorter one first, then element by element); what a search keeps of its rows. Why: a search comes to each item by the least shortest row; the document's row is that one too. Plain arithmetic: the model's decoder of UTF-8, in the words of spec.l01Rune, a class of first bytes at a time. The contract of spec.l01Tail: it tells whether n bytes from a place on go on with an encoding. The contract of spec.l01Rune: at every place of a text of at most 65536 bytes it answers as the model's own decoder of UTF-8. The contracts of spec.RuneAt and impl.RuneAt: both answer 'runeAt', the model's decoder at the place, (0, 0) outside. impl.RuneAt under the two tables of unicode/utf8 as they are laid. The contracts of the small tests on runes: spec.IsLetter, impl.IsLetter, spec.l01Digit, impl.isDigit, impl.isNameRune, impl.isBlank and impl.isWrong. Where a run of runes ends, as plain data; the contracts of impl.runEnd and spec.l01Word. The contracts of spec.NameOK and impl.NameOK: both answer 'nameOK'. impl.NameOK under the two tables of unicode/utf8 as they are laid. What impl.isNeed, isBetween, the question whether a need is of a release's own name, slices.IndexFunc and slices.ContainsFunc with it answer. impl.Why's look-up of a pick by its name: slices.IndexFunc over picks with its closure. No statement of the seat is proved here.
-/
import Derived.Test.YthgjdcomanabiaaGreatDoorYj4
import Derived.Lib.DecodeN
import Derived.WalkKit
import Derived.WalkSpells
import Derived.ProofKit
import Derived.Below
import Derived.Lib.RuneCountTail
import Derived.Test.YthgjdcomanabiaaGreatDoorRows
import Derived.OpenShut
namespace Go.Proofs.YthgjdcomanabiaaGreatDoor
open Go.ChangeShapes Go.WideShapes Go.ChangeAt Go.RowKit
set_option linter.unusedVariables false

/-- A need whose end counts, with the name of the release whose it is. -/
structure Cl where
  owner : ByteArray
  need : Imp
def clLess (c d : Cl) : Bool := lessB c.owner d.owner || (decide (c.owner = d.owner) && lessB c.need.name d.need.name)
theorem clLess_iff (c d : Cl) : clLess c d = true ↔ lessB c.owner d.owner = true ∨ (c.owner = d.owner ∧ lessB c.need.name d.need.name = true) := by simp [clLess]
theorem clLess_irrefl (c : Cl) : clLess c c = false := by simp [clLess, lessB_irrefl]
def claimsOf (nf : Pk → List Imp) (ws : List Imp) (P : List Pk) : List Cl := ws.map (fun m => ⟨⟨#[]⟩, m⟩) ++ P.flatMap fun p => (nf p).map fun m => ⟨p.name, m⟩
structure SortedC (l l' : List Cl) : Prop where
  perm : l'.Perm l
  rises : l'.Pairwise fun x y => clLess y x = false
/-- The version that is picked of a name, 0 if there is none. -/
def verF (P : List Pk) (t : ByteArray) : Int := P.foldl (fun v p => if p.name = t then p.ver else v) 0
theorem verF_snoc (P : List Pk) (p : Pk) (t : ByteArray) : verF (P ++ [p]) t = if p.name = t then p.ver else verF P t := by
  unfold verF; rw [List.foldl_append]; rfl
theorem ver_none {t : ByteArray} : ∀ (P : List Pk) (v : Int), (∀ p ∈ P, p.name ≠ t) → P.foldl (fun v p => if p.name = t then p.ver else v) v = v
  | [], v, _ => rfl
  | p :: P, v, h => by
    rw [List.foldl_cons, if_neg (h p (by simp))]
    exact ver_none P v (fun q hq => h q (by simp [hq]))
theorem ver_some {P : List Pk} (h : P.Pairwise fun x y => lessB x.name y.name = true) : ∀ p ∈ P, ∀ v : Int, P.foldl (fun v q => if q.name = p.name then q.ver else v) v = p.ver := by
  induction P with
  | nil => intro p hp; cases hp
  | cons a r ih =>
    obtain ⟨h1, h2⟩ := List.pairwise_cons.1 h
    intro p hp v
    rw [List.foldl_cons]
    rcases List.mem_cons.1 hp with rfl | hp
    · rw [if_pos rfl]
      exact ver_none r _ (fun q hq e => by have := h1 q hq; rw [e, lessB_irrefl] at this; cases this)
    · exact ih h2 p hp _
theorem above_iff (P : List Pk) (m : Imp) : aboveB P m = true ↔ ∃ p ∈ P, p.name = m.name ∧ m.mx < p.ver := by
  unfold aboveB
  simp only [List.any_eq_true, Bool.and_eq_true, decide_eq_true_eq, beq_bytes]
theorem bad_above {P : List Pk} (h : P.Pairwise fun x y => lessB x.name y.name = true) {m : Imp} (hm : 0 ≤ m.mx) : decide (m.mx < verF P m.name) = aboveB P m := by
  cases ha : aboveB P m
  · rw [decide_eq_false_iff_not]
    intro hv
    by_cases hex : ∃ p ∈ P, p.name = m.name
    · obtain ⟨p, hp, e⟩ := hex
      have := ver_some h p hp 0
      rw [e] at this
      unfold verF at hv
      rw [this] at hv
      rw [(above_iff P m).2 ⟨p, hp, e, hv⟩] at ha
      cases ha
    · have := ver_none (t := m.name) P 0 (fun p hp e => hex ⟨p, hp, e⟩)
      unfold verF at hv
      rw [this] at hv
      omega
  · obtain ⟨p, hp, e, hv⟩ := (above_iff P m).1 ha
    have := ver_some h p hp 0
    rw [e] at this
    unfold verF
    rw [this]
    simpa using hv
theorem over_none {P : List Pk} {ns : List Imp} (h : overB P ns = none) : ∀ m ∈ ns, aboveB P m = false := by
  intro m hm
  cases ha : aboveB P m
  · rfl
  · unfold overB at h
    rw [List.head?_eq_none_iff] at h
    have : m.name ∈ sortB (overL P ns) := (sortB_mem _ _).2 (List.mem_map.2 ⟨m, List.mem_filter.2 ⟨hm, ha⟩, rfl⟩)
    rw [h] at this; cases this
theorem over_some {P : List Pk} {ns : List Imp} {t : ByteArray} (h : overB P ns = some t) : (∃ m ∈ ns, aboveB P m = true ∧ m.name = t) ∧ ∀ m ∈ ns, aboveB P m = true → lessB m.name t = false := by
  unfold overB at h
  obtain ⟨r, hr⟩ := List.head?_eq_some_iff.1 h
  have hrise := sortB_rises (overL P ns)
  refine ⟨?_, fun m hm ha => ?_⟩
  · have : t ∈ overL P ns := (sortB_mem _ _).1 (by rw [hr]; simp)
    obtain ⟨m, hm, e⟩ := List.mem_map.1 this
    rw [List.mem_filter] at hm
    exact ⟨m, hm.1, hm.2, e⟩
  · have hin : m.name ∈ sortB (overL P ns) := (sortB_mem _ _).2 (List.mem_map.2 ⟨m, List.mem_filter.2 ⟨hm, ha⟩, rfl⟩)
    rw [hr] at hin
    unfold Rises at hrise
    rw [hr] at hrise
    rcases List.mem_cons.1 hin with e | e
    · rw [e]; exact lessB_irrefl _
    · exact lessB_asymm ((List.pairwise_cons.1 hrise).1 _ e)
theorem firstOver_none {l : List Rel} {P : List Pk} : ∀ {NS : List Nat}, firstOver l P NS = none → ∀ n ∈ NS, ∀ x, l[n]? = some x → overB P x.needs = none
  | [], _, n, hn, _, _ => by cases hn
  | a :: r, h, n, hn, x, hx => by
    unfold firstOver at h
    cases ha : l[a]? with
    | none =>
      rw [ha] at h
      rcases List.mem_cons.1 hn with rfl | hn
      · rw [ha] at hx; cases hx
      · exact firstOver_none h n hn x hx
    | some y =>
      rw [ha] at h
      dsimp only at h
      cases ho : overB P y.needs with
      | some t => rw [ho] at h; cases h
      | none =>
        rw [ho] at h
        rcases List.mem_cons.1 hn with rfl | hn
        · rw [ha] at hx; cases hx; exact ho
        · exact firstOver_none h n hn x hx
theorem firstOver_some {l : List Rel} {P : List Pk} {a t : ByteArray} : ∀ {NS : List Nat}, firstOver l P NS = some (a, t) → ∃ pre n post x, NS = pre ++ n :: post ∧ l[n]? = some x ∧ overB P x.needs = some t ∧ x.name = a ∧ ∀ n' ∈ pre, ∀ x', l[n']? = some x' → overB P x'.needs = none
  | [], h => by cases h
  | b :: r, h => by
    unfold firstOver at h
    cases ha : l[b]? with
    | none =>
      rw [ha] at h
      obtain ⟨pre, n, post, x, h1, h2, h3, h4, h5⟩ := firstOver_some h
      refine ⟨b :: pre, n, post, x, by rw [h1]; rfl, h2, h3, h4, fun n' hn' x' hx' => ?_⟩
      rcases List.mem_cons.1 hn' with rfl | hn'
      · rw [ha] at hx'; cases hx'
      · exact h5 n' hn' x' hx'
    | some y =>
      rw [ha] at h
      dsimp only at h
      cases ho : overB P y.needs with
      | some s =>
        rw [ho] at h
        simp only [Option.some.injEq, Prod.mk.injEq] at h
        exact ⟨[], b, r, y, rfl, ha, by rw [ho, h.2], h.1, fun n' hn' => by cases hn'⟩
      | none =>
        rw [ho] at h
        obtain ⟨pre, n, post, x, h1, h2, h3, h4, h5⟩ := firstOver_some h
        refine ⟨b :: pre, n, post, x, by rw [h1]; rfl, h2, h3, h4, fun n' hn' x' hx' => ?_⟩
        rcases List.mem_cons.1 hn' with rfl | hn'
        · rw [ha] at hx'; cases hx'; exact ho
        · exact h5 n' hn' x' hx'
theorem find_least {f : Cl → Bool} {c : Cl} : ∀ {CL : List Cl}, CL.Pairwise (fun x y => clLess y x = false) → CL.find? f = some c → c ∈ CL ∧ f c = true ∧ ∀ d ∈ CL, f d = true → clLess d c = false
  | [], _, h => by cases h
  | b :: r, hp, h => by
    obtain ⟨h1, h2⟩ := List.pairwise_cons.1 hp
    cases hb : f b
    · rw [List.find?_cons_of_neg (by simp [hb])] at h
      obtain ⟨k1, k2, k3⟩ := find_least h2 h
      refine ⟨List.mem_cons_of_mem _ k1, k2, fun d hd hfd => ?_⟩
      rcases List.mem_cons.1 hd with rfl | hd
      · rw [hb] at hfd; cases hfd
      · exact k3 d hd hfd
    · rw [List.find?_cons_of_pos (by exact hb)] at h
      cases h
      refine ⟨by simp, hb, fun d hd _ => ?_⟩
      rcases List.mem_cons.1 hd with rfl | hd
      · exact clLess_irrefl _
      · exact h1 d hd
theorem empty_less {x : ByteArray} (h : x ≠ ⟨#[]⟩) : lessB ⟨#[]⟩ x = true := by
  rcases lessB_total (Ne.symm h) with q | q
  · exact q
  · rw [lessB_eq, decide_eq_true_eq] at q
    exact absurd q (by simp [List.not_lt_nil])
def badB (P : List Pk) (c : Cl) : Bool := decide (c.need.mx < verF P c.need.name)
theorem broken_same {l : List Rel} {nf : Pk → List Imp} {ws : List Imp} {NS : List Nat} {CL : List Cl} (hneeds : ∀ r ∈ l, nf (relPk r) = r.needs) (hNS : ∀ n ∈ NS, n < l.length)
    (hrise : (picksOf l NS).Pairwise fun x y => lessB x.name y.name = true) (hne : ∀ p ∈ picksOf l NS, p.name ≠ ⟨#[]⟩) (hws : ∀ m ∈ ws, 0 ≤ m.mx) (hns : ∀ r ∈ l, ∀ m ∈ r.needs, 0 ≤ m.mx)
    (hC : SortedC (claimsOf nf ws (picksOf l NS)) CL) :
    (CL.find? (badB (picksOf l NS))).map (fun c => (c.owner, c.need.name)) = match overB (picksOf l NS) ws with | some t => some (⟨#[]⟩, t) | none => firstOver l (picksOf l NS) NS := by
  have hP : ∀ p ∈ picksOf l NS, ∃ n ∈ NS, ∃ x, l[n]? = some x ∧ relPk x = p := fun p hp => by
    obtain ⟨n, hn, rfl⟩ := List.mem_map.1 hp
    have hl := hNS n hn
    exact ⟨n, hn, l[n], List.getElem?_eq_getElem hl, (pick_at (List.getElem?_eq_getElem hl)).symm⟩
  have hin : ∀ n ∈ NS, ∀ x, l[n]? = some x → relPk x ∈ picksOf l NS := fun n hn x hx => List.mem_map.2 ⟨n, hn, pick_at hx⟩
  have hmem : ∀ c, c ∈ CL ↔ (∃ m ∈ ws, c = ⟨⟨#[]⟩, m⟩) ∨ ∃ n ∈ NS, ∃ x, l[n]? = some x ∧ ∃ m ∈ x.needs, c = ⟨x.name, m⟩ := fun c => by
    rw [hC.perm.mem_iff]
    unfold claimsOf
    rw [List.mem_append, List.mem_map, List.mem_flatMap]
    constructor
    · rintro (⟨m, hm, rfl⟩ | ⟨p, hp, hm⟩)
      · exact .inl ⟨m, hm, rfl⟩
      · obtain ⟨m, hm', rfl⟩ := List.mem_map.1 hm
        obtain ⟨n, hn, x, hx, rfl⟩ := hP p hp
        rw [hneeds x (List.mem_of_getElem? hx)] at hm'
        exact .inr ⟨n, hn, x, hx, m, hm', rfl⟩
    · rintro (⟨m, hm, rfl⟩ | ⟨n, hn, x, hx, m, hm, rfl⟩)
      · exact .inl ⟨m, hm, rfl⟩
      · refine .inr ⟨relPk x, hin n hn x hx, List.mem_map.2 ⟨m, ?_, rfl⟩⟩
        rw [hneeds x (List.mem_of_getElem? hx)]; exact hm
  have hbw : ∀ m ∈ ws, badB (picksOf l NS) ⟨⟨#[]⟩, m⟩ = aboveB (picksOf l NS) m := fun m hm => bad_above hrise (hws m hm)
  have hbn : ∀ (n : Nat) x, l[n]? = some x → ∀ m ∈ x.needs, badB (picksOf l NS) ⟨x.name, m⟩ = aboveB (picksOf l NS) m := fun n x hx m hm => bad_above hrise (hns x (List.mem_of_getElem? hx) m hm)
  cases ho : overB (picksOf l NS) ws with
  | some t =>
    obtain ⟨⟨m, hm, ha, hmt⟩, hmin⟩ := over_some ho
    have hd : (⟨⟨#[]⟩, m⟩ : Cl) ∈ CL := (hmem _).2 (.inl ⟨m, hm, rfl⟩)
    have hdb : badB (picksOf l NS) ⟨⟨#[]⟩, m⟩ = true := by rw [hbw m hm]; exact ha
    cases hf : CL.find? (badB (picksOf l NS)) with
    | none =>
      have := List.find?_eq_none.1 hf _ hd
      exact absurd hdb this
    | some c =>
      obtain ⟨c1, c2, c3⟩ := find_least hC.rises hf
      have c4 := c3 _ hd hdb
      rcases (hmem c).1 c1 with ⟨m', hm', rfl⟩ | ⟨n, hn, x, hx, m', hm', rfl⟩
      · rw [hbw m' hm'] at c2
        have k1 := hmin m' hm' c2
        simp only [Option.map_some, Option.some.injEq, Prod.mk.injEq, true_and]
        by_cases e : m'.name = t
        · exact e
        · rcases lessB_total e with q | q
          · rw [k1] at q; cases q
          · rw [(clLess_iff ⟨⟨#[]⟩, m⟩ ⟨⟨#[]⟩, m'⟩).2 (.inr ⟨rfl, by rw [hmt]; exact q⟩)] at c4; cases c4
      · have := empty_less (hne _ (hin n hn x hx))
        rw [(clLess_iff ⟨⟨#[]⟩, m⟩ ⟨x.name, m'⟩).2 (.inl this)] at c4; cases c4
  | none =>
    have hnow := over_none ho
    dsimp only
    cases hfo : firstOver l (picksOf l NS) NS with
    | none =>
      have hno := firstOver_none hfo
      have : CL.find? (badB (picksOf l NS)) = none := by
        rw [List.find?_eq_none]
        intro c hc hb
        rcases (hmem c).1 hc with ⟨m', hm', rfl⟩ | ⟨n, hn, x, hx, m', hm', rfl⟩
        · rw [hbw m' hm', hnow m' hm'] at hb; cases hb
        · rw [hbn n x hx m' hm', over_none (hno n hn x hx) m' hm'] at hb; cases hb
      rw [this]; rfl
    | some at' =>
      obtain ⟨a, t⟩ := at'
      obtain ⟨pre, n, post, x, h1, h2, h3, h4, h5⟩ := firstOver_some hfo
      obtain ⟨⟨m, hm, ha, hmt⟩, hmin⟩ := over_some h3
      have hnN : n ∈ NS := by rw [h1]; simp
      have hd : (⟨x.name, m⟩ : Cl) ∈ CL := (hmem _).2 (.inr ⟨n, hnN, x, h2, m, hm, rfl⟩)
      have hdb : badB (picksOf l NS) ⟨x.name, m⟩ = true := by rw [hbn n x h2 m hm]; exact ha
      cases hf : CL.find? (badB (picksOf l NS)) with
      | none =>
        have := List.find?_eq_none.1 hf _ hd
        exact absurd hdb this
      | some c =>
        obtain ⟨c1, c2, c3⟩ := find_least hC.rises hf
        have c4 := c3 _ hd hdb
        rcases (hmem c).1 c1 with ⟨m', hm', rfl⟩ | ⟨n', hn', x', hx', m', hm', rfl⟩
        · rw [hbw m' hm', hnow m' hm'] at c2; cases c2
        · rw [hbn n' x' hx' m' hm'] at c2
          have hnl : lessB x.name x'.name = false := by
            cases hq : lessB x.name x'.name
            · rfl
            · rw [(clLess_iff ⟨x.name, m⟩ ⟨x'.name, m'⟩).2 (.inl hq)] at c4; cases c4
          -- x' is not ahead, nor behind
          have hsplit : picksOf l NS = picksOf l pre ++ relPk x :: picksOf l post := by
            rw [h1]
            simp only [picksOf, List.map_append, List.map_cons]
            rw [pick_at h2]
          have hxx : x'.name = x.name := by
            have hn'' : n' ∈ pre ++ n :: post := by rw [← h1]; exact hn'
            rcases List.mem_append.1 hn'' with q | q
            · have := over_none (h5 n' q x' hx') m' hm'
              rw [this] at c2; cases c2
            · rcases List.mem_cons.1 q with q | q
              · subst q; rw [h2] at hx'; cases hx'; rfl
              · rw [hsplit] at hrise
                have hr2 := (List.pairwise_append.1 hrise).2.1
                have := (List.pairwise_cons.1 hr2).1 (relPk x') (List.mem_map.2 ⟨n', q, pick_at hx'⟩)
                have : lessB x.name x'.name = true := this
                rw [hnl] at this; cases this
          have hxe : relPk x' = relPk x := by
            have hi1 := hin n' hn' x' hx'
            have hi2 := hin n hnN x h2
            have v1 := ver_some hrise _ hi1 0
            have v2 := ver_some hrise _ hi2 0
            have e : (relPk x').name = (relPk x).name := hxx
            rw [e] at v1
            rw [v1] at v2
            have v3 : x'.ver = x.ver := v2
            simp [relPk, hxx, v3]
          have hnx : x'.needs = x.needs := by
            rw [← hneeds x' (List.mem_of_getElem? hx'), hxe, hneeds x (List.mem_of_getElem? h2)]
          rw [hnx] at hm'
          have k1 := hmin m' hm' c2
          simp only [Option.map_some, Option.some.injEq, Prod.mk.injEq]
          refine ⟨hxx.trans h4, ?_⟩
          by_cases e : m'.name = t
          · exact e
          · rcases lessB_total e with q | q
            · rw [k1] at q; cases q
            · rw [(clLess_iff ⟨x.name, m⟩ ⟨x'.name, m'⟩).2 (.inr ⟨hxx.symm, by rw [hmt]; exact q⟩)] at c4; cases c4
end Go.Proofs.YthgjdcomanabiaaGreatDoor

namespace Go.Proofs.YthgjdcomanabiaaGreatDoor
open Go.ChangeShapes Go.WideShapes Go.ChangeAt Go.RowKit
set_option linter.unusedVariables false

/-- Rows of one length, element by element. -/
def lexLess : List Pk → List Pk → Prop
  | x :: a, y :: b => pkLess x y = true ∨ (x = y ∧ lexLess a b)
  | _, _ => False
/-- The shorter one first, of those as long the lesser one. -/
def sl (p q : List Pk) : Prop := p.length < q.length ∨ (p.length = q.length ∧ lexLess p q)
theorem lexLess_irrefl : ∀ p, ¬ lexLess p p
  | [], h => h
  | x :: a, h => by
    rcases h with h | ⟨_, h⟩
    · rw [pkLess_irrefl] at h; cases h
    · exact lexLess_irrefl a h
theorem lexLess_trans : ∀ {p q r}, lexLess p q → lexLess q r → lexLess p r
  | [], _, _, h, _ => by cases h
  | _ :: _, [], _, h, _ => by cases h
  | _ :: _, _ :: _, [], _, h => by cases h
  | x :: a, y :: b, z :: c, h, k => by
    rcases h with h | ⟨rfl, h⟩ <;> rcases k with k | ⟨rfl, k⟩
    · exact .inl (pkLess_trans h k)
    · exact .inl h
    · exact .inl k
    · exact .inr ⟨rfl, lexLess_trans h k⟩
theorem lexLess_total : ∀ {p q : List Pk}, p.length = q.length → p ≠ q → lexLess p q ∨ lexLess q p
  | [], [], _, h => absurd rfl h
  | [], _ :: _, h, _ => by simp at h
  | _ :: _, [], h, _ => by simp at h
  | x :: a, y :: b, hl, h => by
    by_cases e : x = y
    · subst e
      have hne : a ≠ b := fun e => h (by rw [e])
      rcases lexLess_total (by simpa using hl) hne with q | q
      · exact .inl (.inr ⟨rfl, q⟩)
      · exact .inr (.inr ⟨rfl, q⟩)
    · rcases pkLess_total e with q | q
      · exact .inl (.inl q)
      · exact .inr (.inl q)
theorem sl_irrefl (p : List Pk) : ¬ sl p p := fun h => h.elim (fun h => Nat.lt_irrefl _ h) (fun h => lexLess_irrefl p h.2)
theorem sl_trans {p q r : List Pk} (h : sl p q) (k : sl q r) : sl p r := by
  rcases h with h | ⟨h1, h2⟩ <;> rcases k with k | ⟨k1, k2⟩
  · exact .inl (by omega)
  · exact .inl (by omega)
  · exact .inl (by omega)
  · exact .inr ⟨h1.trans k1, lexLess_trans h2 k2⟩
theorem lexLess_ext : ∀ {p q : List Pk} (a b : List Pk), p.length = q.length → lexLess p q → lexLess (p ++ a) (q ++ b)
  | [], _, _, _, _, h => by cases h
  | _ :: _, [], _, _, _, h => by cases h
  | x :: p, y :: q, a, b, hl, h => by
    rcases h with h | ⟨rfl, h⟩
    · exact .inl h
    · exact .inr ⟨rfl, lexLess_ext a b (by simpa using hl) h⟩
theorem sl_snoc {p q : List Pk} (x y : Pk) (h : sl p q) : sl (p ++ [x]) (q ++ [y]) := by
  rcases h with h | ⟨h1, h2⟩
  · exact .inl (by simp; omega)
  · exact .inr ⟨by simp [h1], lexLess_ext _ _ h1 h2⟩
theorem lexLess_last : ∀ (p : List Pk) {x y : Pk}, pkLess x y = true → lexLess (p ++ [x]) (p ++ [y])
  | [], x, y, h => .inl h
  | z :: p, x, y, h => .inr ⟨rfl, lexLess_last p h⟩
theorem sl_last (p : List Pk) {x y : Pk} (h : pkLess x y = true) : sl (p ++ [x]) (p ++ [y]) := .inr ⟨by simp, lexLess_last p h⟩

/-- The row by which a search has come to the item at a place. -/
inductive PathAt (T : List Sd) : Nat → List Pk → Prop
  | start {i : Nat} {s : Sd} : T[i]? = some s → s.from' = -1 → PathAt T i [s.item]
  | step {i j : Nat} {s : Sd} {p : List Pk} : T[i]? = some s → s.from' = (j : Int) → j < i → PathAt T j p → PathAt T i (p ++ [s.item])
theorem PathAt.lt {T : List Sd} {i : Nat} {p : List Pk} (h : PathAt T i p) : i < T.length := by
  cases h with
  | start h _ => exact (List.getElem?_eq_some_iff.1 h).1
  | step h _ _ _ => exact (List.getElem?_eq_some_iff.1 h).1
theorem PathAt.pos {T : List Sd} {i : Nat} {p : List Pk} (h : PathAt T i p) : 0 < p.length := by
  cases h with
  | start h _ => simp
  | step h _ _ _ => simp
theorem PathAt.uniq {T : List Sd} {i : Nat} {p q : List Pk} (h : PathAt T i p) (k : PathAt T i q) : p = q := by
  induction h generalizing q with
  | start h1 h2 =>
    cases k with
    | start k1 k2 => rw [h1] at k1; cases k1; rfl
    | step k1 k2 _ _ => rw [h1] at k1; cases k1; rw [h2] at k2; omega
  | step h1 h2 h3 h4 ih =>
    cases k with
    | start k1 k2 => rw [h1] at k1; cases k1; rw [h2] at k2; omega
    | step k1 k2 k3 k4 =>
      rw [h1] at k1; cases k1
      rw [h2] at k2
      have : _ = _ := Int.ofNat.inj k2
      subst this
      rw [ih k4]
theorem PathAt.more {T : List Sd} (E : List Sd) {i : Nat} {p : List Pk} (h : PathAt T i p) : PathAt (T ++ E) i p := by
  induction h with
  | start h1 h2 => exact .start (by rw [List.getElem?_append_left (List.getElem?_eq_some_iff.1 h1).1]; exact h1) h2
  | step h1 h2 h3 h4 ih => exact .step (by rw [List.getElem?_append_left (List.getElem?_eq_some_iff.1 h1).1]; exact h1) h2 h3 ih
theorem PathAt.less {T E : List Sd} {i : Nat} {p : List Pk} (h : PathAt (T ++ E) i p) (hi : i < T.length) : PathAt T i p := by
  induction h with
  | start h1 h2 => exact .start (by rw [List.getElem?_append_left hi] at h1; exact h1) h2
  | step h1 h2 h3 h4 ih => exact .step (by rw [List.getElem?_append_left hi] at h1; exact h1) h2 h3 (ih (by omega))
theorem enter_sub : ∀ (items : List Pk) (T : List Sd) (fr : Int), ∃ E, enterF T items fr = T ++ E ∧ (E.map Sd.item).Sublist items ∧ (∀ e ∈ E, e.from' = fr) ∧ (∀ e ∈ E, e.item ∉ T.map Sd.item)
  | [], T, fr => ⟨[], by unfold enterF; simp, by simp, by simp, by simp⟩
  | y :: r, T, fr => by
    by_cases hy : y ∈ T.map Sd.item
    · obtain ⟨E, h1, h2, h3, h4⟩ := enter_sub r T fr
      exact ⟨E, by rw [enter_old hy]; exact h1, h2.cons y, h3, h4⟩
    · obtain ⟨E, h1, h2, h3, h4⟩ := enter_sub r (T ++ [⟨y, fr⟩]) fr
      refine ⟨⟨y, fr⟩ :: E, by rw [enter_new hy, h1]; simp, ?_, ?_, ?_⟩
      · exact h2.cons_cons y
      · intro e he
        rcases List.mem_cons.1 he with rfl | he
        · rfl
        · exact h3 e he
      · intro e he
        rcases List.mem_cons.1 he with rfl | he
        · exact hy
        · intro hm
          exact h4 e he (by rw [List.map_append, List.mem_append]; exact .inl hm)
/-- What a search keeps: parents stand ahead, rows rise. -/
structure Inv (nx : Pk → List Pk) (starts : List Pk) (T : List Sd) (k : Nat) : Prop where
  once : (T.map Sd.item).Nodup
  kle : k ≤ T.length
  par : ∀ (i : Nat) (s : Sd), T[i]? = some s → (s.from' = -1 ∧ s.item ∈ starts) ∨ ∃ j : Nat, s.from' = (j : Int) ∧ j < i ∧ j < k ∧ ∃ t : Sd, T[j]? = some t ∧ s.item ∈ nx t.item
  rise : ∀ i j p q, i < j → PathAt T i p → PathAt T j q → sl p q
  first : ∀ (i : Nat) (s : Sd), T[i]? = some s → (s.item ∈ starts → s.from' = -1) ∧ ∀ (j : Nat) (t : Sd), j < k → T[j]? = some t → s.item ∈ nx t.item → s.from' = -1 ∨ ∃ j' : Nat, s.from' = (j' : Int) ∧ j' ≤ j
  cl1 : ∀ x ∈ starts, x ∈ T.map Sd.item
  cl2 : ∀ (j : Nat) (t : Sd), j < k → T[j]? = some t → ∀ y ∈ nx t.item, y ∈ T.map Sd.item
theorem Inv.path {nx : Pk → List Pk} {starts : List Pk} {T : List Sd} {k : Nat} (h : Inv nx starts T k) : ∀ i, i < T.length → ∃ p, PathAt T i p := by
  intro i
  induction i using Nat.strongRecOn with
  | ind i ih =>
    intro hi
    have hs := List.getElem?_eq_getElem hi
    rcases h.par i _ hs with ⟨h1, _⟩ | ⟨j, h1, h2, _, t, h3, _⟩
    · exact ⟨_, .start hs h1⟩
    · obtain ⟨p, hp⟩ := ih j h2 (by omega)
      exact ⟨_, .step hs h1 h2 hp⟩
theorem sub_less {items : List Pk} (hs : items.Pairwise fun x y => pkLess y x = false) {E : List Sd} (hE : (E.map Sd.item).Sublist items) (hn : (E.map Sd.item).Nodup) {i j : Nat} (hij : i < j) {s t : Sd} (hi : E[i]? = some s) (hj : E[j]? = some t) : pkLess s.item t.item = true := by
  have hp := hs.sublist hE
  have h1 : (E.map Sd.item)[i]? = some s.item := by rw [List.getElem?_map, hi]; rfl
  have h2 : (E.map Sd.item)[j]? = some t.item := by rw [List.getElem?_map, hj]; rfl
  obtain ⟨l1, e1⟩ := List.getElem?_eq_some_iff.1 h1
  obtain ⟨l2, e2⟩ := List.getElem?_eq_some_iff.1 h2
  have a := List.pairwise_iff_getElem.1 hp i j l1 l2 hij
  have b := List.pairwise_iff_getElem.1 hn i j l1 l2 hij
  rw [e1, e2] at a b
  rcases pkLess_total b with q | q
  · exact q
  · rw [a] at q; cases q
theorem Inv.start {nx : Pk → List Pk} {starts : List Pk} (hs : starts.Pairwise fun x y => pkLess y x = false) (hn : ((enterF [] starts (-1)).map Sd.item).Nodup) : Inv nx starts (enterF [] starts (-1)) 0 := by
  obtain ⟨E, h1, h2, h3, _⟩ := enter_sub starts [] (-1)
  rw [List.nil_append] at h1
  rw [h1] at hn ⊢
  have hone : ∀ i p, PathAt E i p → ∃ s, E[i]? = some s ∧ p = [s.item] := fun i p h => by
    cases h with
    | start k1 k2 => exact ⟨_, k1, rfl⟩
    | step k1 k2 _ _ =>
      have := h3 _ (List.mem_of_getElem? k1)
      rw [k2] at this; omega
  refine ⟨hn, Nat.zero_le _, fun i s hi => .inl ⟨h3 s (List.mem_of_getElem? hi), h2.subset (List.mem_map.2 ⟨s, List.mem_of_getElem? hi, rfl⟩)⟩, fun i j p q hij hp hq => ?_, fun i s hi => ⟨fun _ => h3 s (List.mem_of_getElem? hi), fun j t hj => by omega⟩, fun x hx => ?_, fun j t hj => by omega⟩
  · obtain ⟨s, k1, rfl⟩ := hone i p hp
    obtain ⟨t, k2, rfl⟩ := hone j q hq
    exact .inr ⟨rfl, .inl (sub_less hs h2 hn hij k1 k2)⟩
  · have := (enter_mem starts [] (-1) x).2 (.inr hx)
    rwa [h1] at this
theorem Inv.step {nx : Pk → List Pk} {starts : List Pk} {T : List Sd} {k : Nat} (h : Inv nx starts T k) (hk : k < T.length) (hs : (nx T[k].item).Pairwise fun x y => pkLess y x = false) (hn : ((enterF T (nx T[k].item) (k : Int)).map Sd.item).Nodup) : Inv nx starts (enterF T (nx T[k].item) (k : Int)) (k + 1) := by
  obtain ⟨E, h1, h2, h3, h4⟩ := enter_sub (nx T[k].item) T (k : Int)
  rw [h1] at hn ⊢
  have hTk : (T ++ E)[k]? = some T[k] := by rw [List.getElem?_append_left hk, List.getElem?_eq_getElem hk]
  have hnE : (E.map Sd.item).Nodup := by rw [List.map_append] at hn; exact (List.nodup_append.1 hn).2.1
  obtain ⟨pk, hpk⟩ := h.path k hk
  have hnew : ∀ i s, T.length ≤ i → (T ++ E)[i]? = some s → E[i - T.length]? = some s := fun i s hi hh => by rwa [List.getElem?_append_right hi] at hh
  have hpn : ∀ i q, T.length ≤ i → PathAt (T ++ E) i q → ∃ s, E[i - T.length]? = some s ∧ q = pk ++ [s.item] := fun i q hi hq => by
    cases hq with
    | start k1 k2 =>
      have := h3 _ (List.mem_of_getElem? (hnew i _ hi k1))
      rw [k2] at this; omega
    | step k1 k2 k3 k4 =>
      rename_i j s p
      have e := h3 _ (List.mem_of_getElem? (hnew i _ hi k1))
      rw [k2] at e
      have : j = k := Int.ofNat.inj e
      subst this
      exact ⟨s, hnew i _ hi k1, by rw [(k4.less hk).uniq hpk]⟩
  refine ⟨hn, by simp; omega, fun i s hi => ?_, fun i j p q hij hp hq => ?_, fun i s hi => ⟨fun hm => ?_, fun j t hj ht hm => ?_⟩, fun x hx => ?_, fun j t hj ht y hy => ?_⟩
  · by_cases hiT : i < T.length
    · rw [List.getElem?_append_left hiT] at hi
      rcases h.par i s hi with q | ⟨j, a1, a2, a3, t, a4, a5⟩
      · exact .inl q
      · exact .inr ⟨j, a1, a2, by omega, t, by rw [List.getElem?_append_left (by omega)]; exact a4, a5⟩
    · have hE := hnew i s (by omega) hi
      refine .inr ⟨k, h3 s (List.mem_of_getElem? hE), by omega, by omega, T[k], hTk, ?_⟩
      exact h2.subset (List.mem_map.2 ⟨s, List.mem_of_getElem? hE, rfl⟩)
  · by_cases hjT : j < T.length
    · exact h.rise i j p q hij (hp.less (by omega)) (hq.less hjT)
    · obtain ⟨t, ht, rfl⟩ := hpn j q (by omega) hq
      by_cases hiT : i < T.length
      · have hp' := hp.less hiT
        cases hp' with
        | start a1 a2 =>
          have := hpk.pos
          exact .inl (by simp; omega)
        | step a1 a2 a3 a4 =>
          rename_i j' s' p'
          rcases h.par i _ a1 with ⟨b1, _⟩ | ⟨j2, b1, b2, b3, _⟩
          · rw [a2] at b1; omega
          · rw [a2] at b1
            have : j' = j2 := Int.ofNat.inj b1
            subst this
            exact sl_snoc _ _ (h.rise j' k _ _ b3 a4 hpk)
      · obtain ⟨s, hs', rfl⟩ := hpn i p (by omega) hp
        exact sl_last pk (sub_less hs h2 hnE (by omega) hs' ht)
  · by_cases hiT : i < T.length
    · rw [List.getElem?_append_left hiT] at hi
      exact (h.first i s hi).1 hm
    · exact absurd (h.cl1 _ hm) (h4 s (List.mem_of_getElem? (hnew i s (by omega) hi)))
  · by_cases hiT : i < T.length
    · rw [List.getElem?_append_left hiT] at hi
      by_cases hjk : j < k
      · exact (h.first i s hi).2 j t hjk (by rw [List.getElem?_append_left (by omega)] at ht; exact ht) hm
      · rcases h.par i s hi with ⟨b1, _⟩ | ⟨j2, b1, b2, b3, _⟩
        · exact .inl b1
        · exact .inr ⟨j2, b1, by omega⟩
    · have hE := hnew i s (by omega) hi
      refine .inr ⟨k, h3 s (List.mem_of_getElem? hE), ?_⟩
      by_cases hjk : k ≤ j
      · exact hjk
      · rw [List.getElem?_append_left (by omega)] at ht
        exact absurd (h.cl2 j t (by omega) ht _ hm) (h4 s (List.mem_of_getElem? hE))
  · rw [List.map_append, List.mem_append]; exact .inl (h.cl1 x hx)
  · by_cases hjk : j < k
    · rw [List.getElem?_append_left (by omega)] at ht
      rw [List.map_append, List.mem_append]; exact .inl (h.cl2 j t hjk ht y hy)
    · have : j = k := by omega
      subst this
      rw [hTk] at ht
      cases ht
      have := (enter_mem (nx T[j].item) T (j : Int) y).2 (.inr hy)
      rwa [h1] at this
end Go.Proofs.YthgjdcomanabiaaGreatDoor

namespace Go.Proofs.YthgjdcomanabiaaGreatDoor
open Go.ChangeShapes Go.WideShapes Go.ChangeAt Go.RowKit
set_option linter.unusedVariables false

theorem enter_nodup {T : List Sd} (h : (T.map Sd.item).Nodup) (items : List Pk) (fr : Int) : ((enterF T items fr).map Sd.item).Nodup :=
  (enter_keep (R := T.map Sd.item ++ items) items T fr (fun x hx => List.mem_append.2 (.inr hx)) (fun x hx => List.mem_append.2 (.inl (List.mem_map.2 ⟨x, hx, rfl⟩))) h).2
theorem SI_inv {nx : Pk → List Pk} {starts : List Pk} (hst : starts.Pairwise fun x y => pkLess y x = false) (hnx : ∀ x, (nx x).Pairwise fun x y => pkLess y x = false) {T : List Sd} {k : Nat} (h : SI nx starts T k) : Inv nx starts T k := by
  induction h with
  | start => exact Inv.start hst (enter_nodup (by simp) _ _)
  | step h hk ih => exact ih.step hk (hnx _) (enter_nodup ih.once _ _)
/-- A row from one of C on, each next one being led to. -/
inductive From (nx : Pk → List Pk) : List Pk → List Pk → Pk → Prop
  | one {C : List Pk} {x : Pk} : x ∈ C → From nx C [x] x
  | cons {C : List Pk} {x z : Pk} {r : List Pk} : x ∈ C → From nx (nx x) r z → From nx C (x :: r) z
theorem From.snoc {nx : Pk → List Pk} {C q : List Pk} {y x : Pk} (h : From nx C q y) (hx : x ∈ nx y) : From nx C (q ++ [x]) x := by
  induction h with
  | one h => exact .cons h (.one hx)
  | cons h _ ih => exact .cons h (ih hx)
theorem From.split {nx : Pk → List Pk} {C q : List Pk} {x : Pk} (h : From nx C q x) : (q = [x] ∧ x ∈ C) ∨ ∃ q' y, q = q' ++ [x] ∧ From nx C q' y ∧ x ∈ nx y := by
  induction h with
  | one h => exact .inl ⟨rfl, h⟩
  | cons h k ih =>
    rename_i C x z r
    rcases ih with ⟨rfl, hz⟩ | ⟨q', y, rfl, h1, h2⟩
    · exact .inr ⟨[x], x, rfl, .one h, hz⟩
    · exact .inr ⟨x :: q', y, rfl, .cons h h1, h2⟩
theorem From.pos {nx : Pk → List Pk} {C q : List Pk} {x : Pk} (h : From nx C q x) : 0 < q.length := by
  cases h <;> simp
theorem mem_at {T : List Sd} {x : Pk} (h : x ∈ T.map Sd.item) : ∃ (i : Nat) (s : Sd), T[i]? = some s ∧ s.item = x := by
  obtain ⟨s, hs, rfl⟩ := List.mem_map.1 h
  obtain ⟨i, hi, rfl⟩ := List.getElem_of_mem hs
  exact ⟨i, _, List.getElem?_eq_getElem hi, rfl⟩
theorem bfs_least {nx : Pk → List Pk} {starts : List Pk} {T : List Sd} (h : Inv nx starts T T.length) : ∀ (m : Nat) (q : List Pk) (x : Pk), q.length ≤ m → From nx starts q x → ∃ (i : Nat) (s : Sd) (p : List Pk), T[i]? = some s ∧ s.item = x ∧ PathAt T i p ∧ (p = q ∨ sl p q)
  | 0, q, x, hm, hq => absurd hq.pos (by omega)
  | m + 1, q, x, hm, hq => by
    rcases hq.split with ⟨rfl, hx⟩ | ⟨q', y, rfl, h1, h2⟩
    · obtain ⟨i, s, hi, rfl⟩ := mem_at (h.cl1 x hx)
      exact ⟨i, s, _, hi, rfl, .start hi ((h.first i s hi).1 hx), .inl rfl⟩
    · obtain ⟨j, t, pj, hj, rfl, hpj, hle⟩ := bfs_least h m q' y (by simp at hm; omega) h1
      have hjl := hpj.lt
      obtain ⟨i, s, hi, rfl⟩ := mem_at (h.cl2 j t hjl hj x h2)
      have hpos := h1.pos
      rcases (h.first i s hi).2 j t hjl hj h2 with e | ⟨j', e, hle'⟩
      · exact ⟨i, s, _, hi, rfl, .start hi e, .inr (.inl (by simp; omega))⟩
      · obtain ⟨p', hp'⟩ := h.path j' (by omega)
        have hj'i : j' < i := by
          rcases h.par i s hi with ⟨a, _⟩ | ⟨j2, a, b, _⟩
          · rw [e] at a; omega
          · rw [e] at a
            have : j' = j2 := Int.ofNat.inj a
            omega
        refine ⟨i, s, _, hi, rfl, .step hi e hj'i hp', ?_⟩
        by_cases hjj : j' = j
        · subst hjj
          rw [hp'.uniq hpj]
          rcases hle with rfl | hle
          · exact .inl rfl
          · exact .inr (sl_snoc _ _ hle)
        · have hr := h.rise j' j p' pj (by omega) hp' hpj
          rcases hle with rfl | hle
          · exact .inr (sl_snoc _ _ hr)
          · exact .inr (sl_snoc _ _ (sl_trans hr hle))
theorem path_from {nx : Pk → List Pk} {starts : List Pk} {T : List Sd} {k : Nat} (h : Inv nx starts T k) {i : Nat} {p : List Pk} (hp : PathAt T i p) : ∀ s, T[i]? = some s → From nx starts p s.item := by
  induction hp with
  | start h1 h2 =>
    intro s hs
    rw [h1] at hs; cases hs
    rcases h.par _ _ h1 with ⟨_, a⟩ | ⟨j, a, _⟩
    · exact .one a
    · rw [h2] at a; omega
  | step h1 h2 h3 h4 ih =>
    intro s hs
    rw [h1] at hs; cases hs
    rcases h.par _ _ h1 with ⟨a, _⟩ | ⟨j2, a, _, _, t, b1, b2⟩
    · rw [h2] at a; omega
    · rw [h2] at a
      have : _ = j2 := Int.ofNat.inj a
      subst this
      exact (ih t b1).snoc b2
/-- The least shortest row to x. -/
def Least (nx : Pk → List Pk) (C : List Pk) (p : List Pk) (x : Pk) : Prop := From nx C p x ∧ ∀ q, From nx C q x → p = q ∨ sl p q
theorem Least.uniq {nx : Pk → List Pk} {C p q : List Pk} {x : Pk} (h : Least nx C p x) (k : Least nx C q x) : p = q := by
  rcases h.2 q k.1 with e | e
  · exact e
  · rcases k.2 p h.1 with e2 | e2
    · exact e2.symm
    · exact absurd (sl_trans e e2) (sl_irrefl p)
theorem bfs_is {nx : Pk → List Pk} {starts : List Pk} {T : List Sd} (h : Inv nx starts T T.length) {i : Nat} {s : Sd} (hi : T[i]? = some s) {p : List Pk} (hp : PathAt T i p) : Least nx starts p s.item := by
  refine ⟨path_from h hp s hi, fun q hq => ?_⟩
  obtain ⟨j, t, p', hj, he, hp', hle⟩ := bfs_least h q.length q s.item (Nat.le_refl _) hq
  have hij : i = j := by
    have hn := h.once
    have a : (T.map Sd.item)[i]? = some s.item := by rw [List.getElem?_map, hi]; rfl
    have b : (T.map Sd.item)[j]? = some s.item := by rw [List.getElem?_map, hj, ← he]; rfl
    obtain ⟨l1, e1⟩ := List.getElem?_eq_some_iff.1 a
    obtain ⟨l2, e2⟩ := List.getElem?_eq_some_iff.1 b
    rcases Nat.lt_trichotomy i j with q | q | q
    · exact absurd (e1.trans e2.symm) (List.pairwise_iff_getElem.1 hn i j l1 l2 q)
    · exact q
    · exact absurd (e2.trans e1.symm) (List.pairwise_iff_getElem.1 hn j i l2 l1 q)
  subst hij
  rw [hp.uniq hp']
  exact hle
/-- e is come to from x by so many steps. -/
inductive To (nx : Pk → List Pk) (e : Pk) : Pk → Nat → Prop
  | zero : To nx e e 0
  | succ {x y : Pk} {n : Nat} : y ∈ nx x → To nx e y n → To nx e x (n + 1)
def IsDist (nx : Pk → List Pk) (e x : Pk) (n : Nat) : Prop := To nx e x n ∧ ∀ m, To nx e x m → n ≤ m
/-- The document's row: of the candidates that are nearest the least one, and so on. -/
inductive Row (nx : Pk → List Pk) (e : Pk) : List Pk → Nat → List Pk → Prop
  | last {C : List Pk} : e ∈ C → Row nx e C 0 [e]
  | more {C : List Pk} {x : Pk} {n : Nat} {r : List Pk} : x ∈ C → IsDist nx e x (n + 1) → (∀ y ∈ C, IsDist nx e y (n + 1) → y = x ∨ pkLess x y = true) → Row nx e (nx x) n r → Row nx e C (n + 1) (x :: r)
theorem From.to {nx : Pk → List Pk} {C q : List Pk} {e : Pk} (h : From nx C q e) : ∃ x r n, q = x :: r ∧ x ∈ C ∧ r.length = n ∧ To nx e x n := by
  induction h with
  | one h => exact ⟨_, [], 0, rfl, h, rfl, .zero⟩
  | cons h _ ih =>
    obtain ⟨y, r, n, rfl, h1, h2, h3⟩ := ih
    exact ⟨_, _, n + 1, rfl, h, by simp [h2], .succ h1 h3⟩
theorem row_least {nx : Pk → List Pk} {e : Pk} {C : List Pk} {n : Nat} {r : List Pk} (h : Row nx e C n r) (hmin : ∀ y ∈ C, ∀ m, To nx e y m → n ≤ m) : r.length = n + 1 ∧ Least nx C r e := by
  induction h with
  | last he =>
    refine ⟨rfl, .one he, fun q hq => ?_⟩
    obtain ⟨x, r, n, rfl, h1, h2, h3⟩ := hq.to
    by_cases hn : n = 0
    · subst hn
      cases h3 with
      | zero => rw [List.length_eq_zero_iff.1 h2]; exact .inl rfl
    · exact .inr (.inl (by simp; omega))
  | more hx hd hl hrow ih =>
    rename_i C x n r
    have hmin' : ∀ y ∈ nx x, ∀ m, To nx e y m → n ≤ m := fun y hy m hm => by
      have := hd.2 (m + 1) (.succ hy hm)
      omega
    obtain ⟨i1, i2, i3⟩ := ih hmin'
    refine ⟨by simp [i1], .cons hx i2, fun q hq => ?_⟩
    obtain ⟨y, r', n', rfl, h1, h2, h3⟩ := hq.to
    have hge := hmin y h1 n' h3
    by_cases hn : n' = n + 1
    · subst hn
      have hdy : IsDist nx e y (n + 1) := ⟨h3, fun m hm => hmin y h1 m hm⟩
      rcases hl y h1 hdy with rfl | hlt
      · cases hq with
        | one _ => simp at h2
        | cons _ hq' =>
          rcases i3 r' hq' with rfl | hs
          · exact .inl rfl
          · rcases hs with hs | ⟨hs1, hs2⟩
            · exact .inr (.inl (by simp; omega))
            · exact .inr (.inr ⟨by simp [hs1], .inr ⟨rfl, hs2⟩⟩)
      · exact .inr (.inr ⟨by simp [i1, h2], .inl hlt⟩)
    · exact .inr (.inl (by simp; omega))
end Go.Proofs.YthgjdcomanabiaaGreatDoor

namespace Go.Proofs.YthgjdcomanabiaaGreatDoor
open Go.Lib
set_option linter.unusedVariables false
/-! How the model's decoder answers, a class of first bytes at a time, in the words of the law's own decoder. -/
theorem dec_none {n b0 b1 b2 b3 : Nat} (h : (128 ≤ b0 ∧ b0 < 194) ∨ 245 ≤ b0) (h0 : b0 < 256) (h1 : b1 < 256) (h2 : b2 < 256) (h3 : b3 < 256) : decodeN n b0 b1 b2 b3 = (65533, 1) := by
  unfold decodeN
  repeat' split
  all_goals first | rfl | (exfalso; omega)
theorem dec_1no {n b0 b1 b2 b3 : Nat} (h : 194 ≤ b0 ∧ b0 ≤ 223) (h1 : b1 < 256) (hc : ¬ (1 < n ∧ 128 ≤ b1 ∧ b1 ≤ 191)) : decodeN n b0 b1 b2 b3 = (65533, 1) := by
  unfold decodeN
  repeat' split
  all_goals first | rfl | (exfalso; omega)
theorem dec_1yes {n b0 b1 b2 b3 : Nat} (h : 194 ≤ b0 ∧ b0 ≤ 223) (hc : 1 < n ∧ 128 ≤ b1 ∧ b1 ≤ 191) : decodeN n b0 b1 b2 b3 = ((b0 - 192) * 64 + b1 - 128, 2) := by
  unfold decodeN
  repeat' split
  all_goals first | (exfalso; omega) | (apply Prod.ext <;> simp only <;> omega)
theorem dec_2no {n b0 b1 b2 b3 : Nat} (h : 224 ≤ b0 ∧ b0 ≤ 239) (h1 : b1 < 256) (h2 : b2 < 256) (hc : ¬ ((1 < n ∧ 128 ≤ b1 ∧ b1 ≤ 191) ∧ (2 < n ∧ 128 ≤ b2 ∧ b2 ≤ 191))) : decodeN n b0 b1 b2 b3 = (65533, 1) := by
  unfold decodeN
  repeat' split
  all_goals first | rfl | (exfalso; omega)
theorem dec_2bad {n b0 b1 b2 b3 : Nat} (h : 224 ≤ b0 ∧ b0 ≤ 239) (h1 : 128 ≤ b1 ∧ b1 ≤ 191) (h2 : 128 ≤ b2 ∧ b2 ≤ 191)
    (hr : ((b0 - 224) * 64 + b1 - 128) * 64 + b2 - 128 < 2048 ∨ (55296 ≤ ((b0 - 224) * 64 + b1 - 128) * 64 + b2 - 128 ∧ ((b0 - 224) * 64 + b1 - 128) * 64 + b2 - 128 ≤ 57343)) : decodeN n b0 b1 b2 b3 = (65533, 1) := by
  unfold decodeN
  repeat' split
  all_goals first | rfl | (exfalso; omega)
theorem dec_2yes {n b0 b1 b2 b3 : Nat} (h : 224 ≤ b0 ∧ b0 ≤ 239) (hn : 2 < n) (h1 : 128 ≤ b1 ∧ b1 ≤ 191) (h2 : 128 ≤ b2 ∧ b2 ≤ 191)
    (hr : ¬ (((b0 - 224) * 64 + b1 - 128) * 64 + b2 - 128 < 2048 ∨ (55296 ≤ ((b0 - 224) * 64 + b1 - 128) * 64 + b2 - 128 ∧ ((b0 - 224) * 64 + b1 - 128) * 64 + b2 - 128 ≤ 57343))) :
    decodeN n b0 b1 b2 b3 = (((b0 - 224) * 64 + b1 - 128) * 64 + b2 - 128, 3) := by
  unfold decodeN
  repeat' split
  all_goals first | (exfalso; omega) | (apply Prod.ext <;> simp only <;> omega)
theorem dec_3no {n b0 b1 b2 b3 : Nat} (h : 240 ≤ b0 ∧ b0 ≤ 244) (h1 : b1 < 256) (h2 : b2 < 256) (h3 : b3 < 256) (hc : ¬ ((1 < n ∧ 128 ≤ b1 ∧ b1 ≤ 191) ∧ (2 < n ∧ 128 ≤ b2 ∧ b2 ≤ 191) ∧ (3 < n ∧ 128 ≤ b3 ∧ b3 ≤ 191))) : decodeN n b0 b1 b2 b3 = (65533, 1) := by
  unfold decodeN
  repeat' split
  all_goals first | rfl | (exfalso; omega)
theorem dec_3bad {n b0 b1 b2 b3 : Nat} (h : 240 ≤ b0 ∧ b0 ≤ 244) (h1 : 128 ≤ b1 ∧ b1 ≤ 191) (h2 : 128 ≤ b2 ∧ b2 ≤ 191) (h3 : 128 ≤ b3 ∧ b3 ≤ 191)
    (hr : (((b0 - 240) * 64 + b1 - 128) * 64 + b2 - 128) * 64 + b3 - 128 < 65536 ∨ 1114111 < (((b0 - 240) * 64 + b1 - 128) * 64 + b2 - 128) * 64 + b3 - 128) : decodeN n b0 b1 b2 b3 = (65533, 1) := by
  unfold decodeN
  repeat' split
  all_goals first | rfl | (exfalso; omega)
theorem dec_3yes {n b0 b1 b2 b3 : Nat} (h : 240 ≤ b0 ∧ b0 ≤ 244) (hn : 3 < n) (h1 : 128 ≤ b1 ∧ b1 ≤ 191) (h2 : 128 ≤ b2 ∧ b2 ≤ 191) (h3 : 128 ≤ b3 ∧ b3 ≤ 191)
    (hr : ¬ ((((b0 - 240) * 64 + b1 - 128) * 64 + b2 - 128) * 64 + b3 - 128 < 65536 ∨ 1114111 < (((b0 - 240) * 64 + b1 - 128) * 64 + b2 - 128) * 64 + b3 - 128)) :
    decodeN n b0 b1 b2 b3 = ((((b0 - 240) * 64 + b1 - 128) * 64 + b2 - 128) * 64 + b3 - 128, 4) := by
  unfold decodeN
  repeat' split
  all_goals first | (exfalso; omega) | (apply Prod.ext <;> simp only <;> omega)
end Go.Proofs.YthgjdcomanabiaaGreatDoor

namespace Go.Proofs.YthgjdcomanabiaaGreatDoor
open Go.ChangeShapes Go.WideShapes Go.ChangeAt Go.RowKit

/-- The byte at a place, as a number (0 beyond the end). -/
def byt (s : ByteArray) (i : Nat) : Nat := (s.get! i).toNat
theorem byt_lt (s : ByteArray) (i : Nat) : byt s i < 256 := (s.get! i).toNat_lt
theorem byt_eq (s : ByteArray) (i : Nat) (h : i < s.size) : s[i].toNat = byt s i := by
  unfold byt; rw [Utf8W.get!_of_lt s i h]

/-- A byte that goes on with an encoding stands there. -/
def contAt (s : ByteArray) (i : Nat) : Bool := decide (i < s.size) && decide (128 ≤ byt s i) && decide (byt s i ≤ 191)
def tailB (s : ByteArray) (a : Nat) : Nat → Bool
  | 0 => true
  | n + 1 => tailB s a n && contAt s (a + n)
theorem tailB_false (s : ByteArray) (a k : Nat) (h : contAt s (a + k) = false) : ∀ n, k < n → tailB s a n = false
  | 0, hk => by omega
  | n + 1, hk => by
    unfold tailB
    by_cases e : k = n
    · subst e; rw [h]; simp
    · rw [tailB_false s a k h n (by omega)]; rfl
theorem contAt_true {s : ByteArray} {i : Nat} (h : i < s.size) (h1 : (128 : Int) ≤ (s[i].toNat : Int)) (h2 : (s[i].toNat : Int) ≤ 191) : contAt s i = true := by
  rw [byt_eq s i h] at h1 h2
  simp [contAt, h]; omega
theorem contAt_low {s : ByteArray} {i : Nat} (h : i < s.size) (h1 : (s[i].toNat : Int) < 128) : contAt s i = false := by
  rw [byt_eq s i h] at h1
  simp [contAt, h]; omega
theorem contAt_high {s : ByteArray} {i : Nat} (h : i < s.size) (h1 : 191 < (s[i].toNat : Int)) : contAt s i = false := by
  rw [byt_eq s i h] at h1
  simp [contAt, h]; omega
theorem contAt_out {s : ByteArray} {i : Nat} (h : ¬ i < s.size) : contAt s i = false := by
  simp [contAt, h]

set_option maxRecDepth 100000 in
set_option maxHeartbeats 400000 in
theorem specTail (s : ByteArray) (a n : Nat) (hs : s.size ≤ 65536) (ha : a ≤ 65536) (hn : n ≤ 3) (w : World) :
    Calls Tryz.prog 145 #[.string s, .int .i64 a, .int .i64 n] w fun e w' => e = .returned (.bool (tailB s a n)) ∧ w = w' := by
  go_enter Tryz.func145, Tryz.ntmps145
  go_wp2
  go_loop [7] (fun i => ∃ k : Nat, k ≤ n ∧ i = .int .i64 ((a + k : Nat) : Int) ∧ tailB s a k = true) (fun i => a + n - (intOf i).toNat)
  case atStart => exact ⟨0, by omega, by simp, rfl⟩
  case round =>
    obtain ⟨k, hk, rfl, ht0⟩ := hrel
    have HT : Hid (tailB s a k = true) := ht0
    clear ht0
    go_wp2
    · have h1 : (a : Int) + k < s.size := by assumption
      have h0 : k < n := by assumption
      have h2 : 191 < (s[a + k].toNat : Int) := by
        rename_i h; omega
      go_ret
      exact ⟨by rw [tailB_false s a k (contAt_high (by omega) h2) n h0]; rfl, rfl⟩
    · have h1 : (a : Int) + k < s.size := by assumption
      have h0 : k < n := by assumption
      have h3 : (128 : Int) ≤ (s[a + k].toNat : Int) := by assumption
      have h4 : (s[a + k].toNat : Int) ≤ 191 := by rename_i h _; omega
      go_round
      case rel =>
        refine ⟨k + 1, by omega, by go_num, ?_⟩
        unfold tailB
        rw [HT.out, contAt_true (s := s) (i := a + k) (by omega) h3 h4]; rfl
      case measure => simp [intOf]; omega
    · have h1 : (a : Int) + k < s.size := by assumption
      have h0 : k < n := by assumption
      have h2 : (s[a + k].toNat : Int) < 128 := by assumption
      go_ret
      exact ⟨by rw [tailB_false s a k (contAt_low (by omega) h2) n h0]; rfl, rfl⟩
    · have h1 : (s.size : Int) ≤ (a : Int) + k := by assumption
      have h0 : k < n := by assumption
      go_ret
      exact ⟨by rw [tailB_false s a k (contAt_out (by omega)) n h0]; rfl, rfl⟩
    · have h0 : ¬ k < n := by assumption
      have e : k = n := by omega
      subst e
      go_ret
      exact ⟨by rw [HT.out]; rfl, rfl⟩
end Go.Proofs.YthgjdcomanabiaaGreatDoor

namespace Go.Proofs.YthgjdcomanabiaaGreatDoor
open Go.ChangeShapes Go.WideShapes Go.ChangeAt Go.RowKit
set_option linter.unusedVariables false

theorem decode_byt (s : ByteArray) (i : Nat) : Utf8.decode s i = Lib.decodeN (s.size - i) (byt s i) (byt s (i + 1)) (byt s (i + 2)) (byt s (i + 3)) := Lib.decode_at s i
theorem get_byt (s : ByteArray) (i : Nat) (h : i < s.size) (x : UInt8) (hx : s.get! i = x) : s[i]'h = x := by
  rw [← hx]; exact (Utf8W.get!_of_lt s i h).symm

set_option maxRecDepth 100000 in
set_option maxHeartbeats 400000 in
/-- a first byte below 128 -/
theorem rune0 (s : ByteArray) (i : Nat) (hs : s.size ≤ 65536) (hi : i < s.size) (h : byt s i < 128) (w : World) :
    Calls Tryz.prog 107 #[.string s, .int .i64 i] w fun e w' => e = .returned (.tuple #[.int .i64 (Utf8.decode s i).1, .int .i64 (Utf8.decode s i).2]) ∧ Below w.heap.size w w' := by
  have hd : Utf8.decode s i = (byt s i, 1) := by rw [decode_byt]; unfold Lib.decodeN; rw [if_pos h]
  rw [hd]
  have hb := byt_eq s i hi
  have h' : ((byt s i : Nat) : Int) < 128 := by omega
  obtain ⟨b, hbb⟩ : ∃ b, byt s i = b := ⟨_, rfl⟩
  rw [hbb] at hb h' ⊢
  clear hbb hd h
  go_enter Tryz.func107, Tryz.ntmps107
  go_wp2
  go_ret2
  exact ⟨rfl, Below.refl _ _⟩

set_option maxRecDepth 100000 in
set_option maxHeartbeats 400000 in
/-- a first byte that begins no encoding -/
theorem runeNone (s : ByteArray) (i : Nat) (hs : s.size ≤ 65536) (hi : i < s.size) (h : (128 ≤ byt s i ∧ byt s i < 194) ∨ 245 ≤ byt s i) (w : World) :
    Calls Tryz.prog 107 #[.string s, .int .i64 i] w fun e w' => e = .returned (.tuple #[.int .i64 (Utf8.decode s i).1, .int .i64 (Utf8.decode s i).2]) ∧ Below w.heap.size w w' := by
  have hd : Utf8.decode s i = (65533, 1) := by rw [decode_byt]; exact dec_none h (byt_lt _ _) (byt_lt _ _) (byt_lt _ _) (byt_lt _ _)
  rw [hd]
  have hb := byt_eq s i hi
  obtain ⟨b, hbb⟩ : ∃ b, byt s i = b := ⟨_, rfl⟩
  have hlt : b < 256 := by rw [← hbb]; exact byt_lt s i
  rw [hbb] at hb h
  clear hbb hd
  rcases h with ⟨h1, h2⟩ | h1
  · have h1' : ¬ ((b : Int) < 128) := by omega
    have h2' : ¬ ((194 : Int) ≤ (b : Int)) := by omega
    go_enter Tryz.func107, Tryz.ntmps107
    go_wp2
    go_ret2
    exact ⟨rfl, Below.refl _ _⟩
  · have h1' : (245 : Int) ≤ (b : Int) := by omega
    have h2' : (b : Int) < 256 := by omega
    go_enter Tryz.func107, Tryz.ntmps107
    go_wp2
    go_ret2
    exact ⟨rfl, Below.refl _ _⟩

set_option maxRecDepth 100000 in
set_option maxHeartbeats 1000000 in
/-- an encoding of two bytes -/
theorem core1 (s : ByteArray) (i b c : Nat) (hs : s.size ≤ 65536) (hi : i < s.size) (hi1 : i + 1 < s.size) (hb : s[i].toNat = b) (hc1 : s[i + 1].toNat = c)
    (h1 : (194 : Int) ≤ (b : Int)) (h2 : (b : Int) ≤ 223) (h3 : (128 : Int) ≤ (c : Int)) (h4 : (c : Int) ≤ 191)
    (ct : ∀ w, Calls Tryz.prog 145 #[.string s, .int .i64 ((i + 1 : Nat) : Int), .int .i64 ((1 : Nat) : Int)] w fun e w' => e = .returned (.bool true) ∧ w = w') (w : World) :
    Calls Tryz.prog 107 #[.string s, .int .i64 i] w fun e w' => e = .returned (.tuple #[.int .i64 (((b : Int) - 192) * 64 + (c : Int) - 128), .int .i64 2]) ∧ Below w.heap.size w w' := by
  go_enter Tryz.func107, Tryz.ntmps107
  go_wp2_with (go_at_call 145; go_must (refine (ct _).mono ?_; rintro e w' ⟨rfl, rfl⟩))
  clear ct
  refine wp_loop_rounds 2 ?_
  rw [rounds_succ]
  go_wp2
  rw [rounds_succ]
  go_wp2
  go_ret2
  exact ⟨rfl, by exact (Below.refl _ w).alloc (Nat.le_refl _) _⟩

set_option maxRecDepth 100000 in
set_option maxHeartbeats 2000000 in
/-- an encoding of 3 bytes -/
theorem core2 (s : ByteArray) (i b c d : Nat) (hs : s.size ≤ 65536) (hi : i < s.size) (hi1 : i + 1 < s.size) (hi2 : i + 2 < s.size) (hb : s[i].toNat = b) (hx1 : s[i + 1].toNat = c) (hx2 : s[i + 2].toNat = d)
    (hb1 : (224 : Int) ≤ (b : Int)) (hb2 : (b : Int) ≤ 239) (hl1 : (128 : Int) ≤ (c : Int)) (hu1 : (c : Int) ≤ 191) (hl2 : (128 : Int) ≤ (d : Int)) (hu2 : (d : Int) ≤ 191)
    (ct : ∀ w, Calls Tryz.prog 145 #[.string s, .int .i64 ((i + 1 : Nat) : Int), .int .i64 ((2 : Nat) : Int)] w fun e w' => e = .returned (.bool true) ∧ w = w') (w : World) :
    Calls Tryz.prog 107 #[.string s, .int .i64 i] w fun e w' => (∃ R K : Int, e = .returned (.tuple #[.int .i64 R, .int .i64 K]) ∧ (((((((b : Int) - 224) * 64 + (c : Int) - 128) * 64 + (d : Int) - 128) < 2048 ∨ (55296 ≤ ((((b : Int) - 224) * 64 + (c : Int) - 128) * 64 + (d : Int) - 128) ∧ ((((b : Int) - 224) * 64 + (c : Int) - 128) * 64 + (d : Int) - 128) ≤ 57343)) ∧ R = 65533 ∧ K = 1) ∨ (¬ (((((b : Int) - 224) * 64 + (c : Int) - 128) * 64 + (d : Int) - 128) < 2048 ∨ (55296 ≤ ((((b : Int) - 224) * 64 + (c : Int) - 128) * 64 + (d : Int) - 128) ∧ ((((b : Int) - 224) * 64 + (c : Int) - 128) * 64 + (d : Int) - 128) ≤ 57343)) ∧ R = ((((b : Int) - 224) * 64 + (c : Int) - 128) * 64 + (d : Int) - 128) ∧ K = 3))) ∧ Below w.heap.size w w' := by
  go_enter Tryz.func107, Tryz.ntmps107
  go_wp2_with (go_at_call 145; go_must (refine (ct _).mono ?_; rintro e w' ⟨rfl, rfl⟩))
  clear ct
  refine wp_loop_rounds 3 ?_
  rw [rounds_succ]
  go_wp2
  rw [rounds_succ]
  go_wp2
  rw [rounds_succ]
  go_wp2
  all_goals
    go_ret2
    first
    | exact ⟨rfl, (Below.refl _ w).alloc (Nat.le_refl _) _⟩
    | (refine ⟨⟨_, _, rfl, ?_⟩, (Below.refl _ w).alloc (Nat.le_refl _) _⟩
       omega)

set_option maxRecDepth 100000 in
set_option maxHeartbeats 2000000 in
/-- an encoding of 4 bytes -/
theorem core3 (s : ByteArray) (i b c d f : Nat) (hs : s.size ≤ 65536) (hi : i < s.size) (hi1 : i + 1 < s.size) (hi2 : i + 2 < s.size) (hi3 : i + 3 < s.size) (hb : s[i].toNat = b) (hx1 : s[i + 1].toNat = c) (hx2 : s[i + 2].toNat = d) (hx3 : s[i + 3].toNat = f)
    (hb1 : (240 : Int) ≤ (b : Int)) (hb2 : (b : Int) ≤ 244) (hl1 : (128 : Int) ≤ (c : Int)) (hu1 : (c : Int) ≤ 191) (hl2 : (128 : Int) ≤ (d : Int)) (hu2 : (d : Int) ≤ 191) (hl3 : (128 : Int) ≤ (f : Int)) (hu3 : (f : Int) ≤ 191)
    (ct : ∀ w, Calls Tryz.prog 145 #[.string s, .int .i64 ((i + 1 : Nat) : Int), .int .i64 ((3 : Nat) : Int)] w fun e w' => e = .returned (.bool true) ∧ w = w') (w : World) :
    Calls Tryz.prog 107 #[.string s, .int .i64 i] w fun e w' => (∃ R K : Int, e = .returned (.tuple #[.int .i64 R, .int .i64 K]) ∧ ((((((((b : Int) - 240) * 64 + (c : Int) - 128) * 64 + (d : Int) - 128) * 64 + (f : Int) - 128) < 65536 ∨ 1114111 < (((((b : Int) - 240) * 64 + (c : Int) - 128) * 64 + (d : Int) - 128) * 64 + (f : Int) - 128)) ∧ R = 65533 ∧ K = 1) ∨ (¬ ((((((b : Int) - 240) * 64 + (c : Int) - 128) * 64 + (d : Int) - 128) * 64 + (f : Int) - 128) < 65536 ∨ 1114111 < (((((b : Int) - 240) * 64 + (c : Int) - 128) * 64 + (d : Int) - 128) * 64 + (f : Int) - 128)) ∧ R = (((((b : Int) - 240) * 64 + (c : Int) - 128) * 64 + (d : Int) - 128) * 64 + (f : Int) - 128) ∧ K = 4))) ∧ Below w.heap.size w w' := by
  go_enter Tryz.func107, Tryz.ntmps107
  go_wp2_with (go_at_call 145; go_must (refine (ct _).mono ?_; rintro e w' ⟨rfl, rfl⟩))
  clear ct
  refine wp_loop_rounds 4 ?_
  rw [rounds_succ]
  go_wp2
  rw [rounds_succ]
  go_wp2
  rw [rounds_succ]
  go_wp2
  rw [rounds_succ]
  go_wp2
  all_goals
    go_ret2
    first
    | exact ⟨rfl, (Below.refl _ w).alloc (Nat.le_refl _) _⟩
    | (refine ⟨⟨_, _, rfl, ?_⟩, (Below.refl _ w).alloc (Nat.le_refl _) _⟩
       omega)

set_option maxRecDepth 100000 in
set_option maxHeartbeats 400000 in
/-- a first byte of a longer encoding, and what must stand behind it does not -/
theorem coreNo (s : ByteArray) (i b n : Nat) (hs : s.size ≤ 65536) (hi : i < s.size) (hb : s[i].toNat = b)
    (h : ((194 : Int) ≤ (b : Int) ∧ (b : Int) ≤ 223 ∧ n = 1) ∨ ((224 : Int) ≤ (b : Int) ∧ (b : Int) ≤ 239 ∧ n = 2) ∨ ((240 : Int) ≤ (b : Int) ∧ (b : Int) ≤ 244 ∧ n = 3))
    (ct : ∀ w, Calls Tryz.prog 145 #[.string s, .int .i64 ((i + 1 : Nat) : Int), .int .i64 (n : Int)] w fun e w' => e = .returned (.bool false) ∧ w = w') (w : World) :
    Calls Tryz.prog 107 #[.string s, .int .i64 i] w fun e w' => e = .returned (.tuple #[.int .i64 65533, .int .i64 1]) ∧ Below w.heap.size w w' := by
  rcases h with ⟨h1, h2, rfl⟩ | ⟨h1, h2, rfl⟩ | ⟨h1, h2, rfl⟩
  all_goals
    go_enter Tryz.func107, Tryz.ntmps107
    go_wp2_with (go_at_call 145; go_must (refine (ct _).mono ?_; rintro e w' ⟨rfl, rfl⟩))
    go_ret2
    exact ⟨rfl, Below.refl _ _⟩

/-- spec.l01Rune, at every place of a text of at most 65536 bytes: the model's own decoder. -/
theorem specRune (s : ByteArray) (i : Nat) (hs : s.size ≤ 65536) (hi : i < s.size) (w : World) :
    Calls Tryz.prog 107 #[.string s, .int .i64 i] w fun e w' => e = .returned (.tuple #[.int .i64 (Utf8.decode s i).1, .int .i64 (Utf8.decode s i).2]) ∧ Below w.heap.size w w' := by
  have l0 := byt_lt s i
  have l1 := byt_lt s (i + 1)
  have l2 := byt_lt s (i + 2)
  have l3 := byt_lt s (i + 3)
  have hb := byt_eq s i hi
  by_cases c0 : byt s i < 128
  · exact rune0 s i hs hi c0 w
  by_cases cn : byt s i < 194 ∨ 245 ≤ byt s i
  · exact runeNone s i hs hi (by omega) w
  by_cases c1 : byt s i ≤ 223
  · have ct := specTail s (i + 1) 1 hs (by omega) (by omega)
    by_cases t : tailB s (i + 1) 1 = true
    · have hk : i + 1 < s.size ∧ 128 ≤ byt s (i + 1) ∧ byt s (i + 1) ≤ 191 := by simp [tailB, contAt] at t; omega
      have hd : Utf8.decode s i = ((byt s i - 192) * 64 + byt s (i + 1) - 128, 2) := by
        rw [decode_byt]; exact dec_1yes ⟨by omega, c1⟩ ⟨by omega, hk.2⟩
      rw [hd]
      rw [t] at ct
      refine (core1 s i (byt s i) (byt s (i + 1)) hs hi hk.1 hb (byt_eq s (i + 1) hk.1) (by omega) (by omega) (by omega) (by omega) ct w).mono ?_
      rintro e w' ⟨rfl, hB⟩
      refine ⟨?_, hB⟩
      rw [show (((byt s i - 192) * 64 + byt s (i + 1) - 128 : Nat) : Int) = ((byt s i : Int) - 192) * 64 + (byt s (i + 1) : Int) - 128 from by omega]
      rfl
    · rw [Bool.not_eq_true] at t
      have hd : Utf8.decode s i = (65533, 1) := by
        rw [decode_byt]
        refine dec_1no ⟨by omega, c1⟩ l1 fun a => ?_
        simp [tailB, contAt] at t
        omega
      rw [hd]
      rw [t] at ct
      exact coreNo s i _ 1 hs hi hb (by omega) ct w
  by_cases c2 : byt s i ≤ 239
  · have ct := specTail s (i + 1) 2 hs (by omega) (by omega)
    by_cases t : tailB s (i + 1) 2 = true
    · have hk : (i + 1 < s.size ∧ 128 ≤ byt s (i + 1) ∧ byt s (i + 1) ≤ 191) ∧ (i + 2 < s.size ∧ 128 ≤ byt s (i + 2) ∧ byt s (i + 2) ≤ 191) := by
        simp [tailB, contAt, Nat.add_assoc] at t; omega
      rw [t] at ct
      refine (core2 s i (byt s i) (byt s (i + 1)) (byt s (i + 2)) hs hi hk.1.1 hk.2.1 hb (byt_eq s (i + 1) hk.1.1) (byt_eq s (i + 2) hk.2.1) (by omega) (by omega) (by omega) (by omega) (by omega) (by omega) ct w).mono ?_
      rintro e w' ⟨⟨R, K, rfl, hRK⟩, hB⟩
      refine ⟨?_, hB⟩
      rcases hRK with ⟨hbad, rfl, rfl⟩ | ⟨hgood, rfl, rfl⟩
      · have hd : Utf8.decode s i = (65533, 1) := by
          rw [decode_byt]; exact dec_2bad ⟨by omega, c2⟩ hk.1.2 hk.2.2 (by omega)
        rw [hd]
        rfl
      · have hd : Utf8.decode s i = (((byt s i - 224) * 64 + byt s (i + 1) - 128) * 64 + byt s (i + 2) - 128, 3) := by
          rw [decode_byt]; exact dec_2yes ⟨by omega, c2⟩ (by omega) hk.1.2 hk.2.2 (by omega)
        rw [hd]
        rw [show (((((byt s i - 224) * 64 + byt s (i + 1) - 128) * 64 + byt s (i + 2) - 128 : Nat)) : Int) = (((byt s i : Int) - 224) * 64 + (byt s (i + 1) : Int) - 128) * 64 + (byt s (i + 2) : Int) - 128 from by omega]
        rfl
    · rw [Bool.not_eq_true] at t
      have hd : Utf8.decode s i = (65533, 1) := by
        rw [decode_byt]
        refine dec_2no ⟨by omega, c2⟩ l1 l2 fun a => ?_
        simp [tailB, contAt, Nat.add_assoc] at t
        omega
      rw [hd]
      rw [t] at ct
      exact coreNo s i _ 2 hs hi hb (by omega) ct w
  · have ct := specTail s (i + 1) 3 hs (by omega) (by omega)
    by_cases t : tailB s (i + 1) 3 = true
    · have hk : (i + 1 < s.size ∧ 128 ≤ byt s (i + 1) ∧ byt s (i + 1) ≤ 191) ∧ (i + 2 < s.size ∧ 128 ≤ byt s (i + 2) ∧ byt s (i + 2) ≤ 191) ∧ (i + 3 < s.size ∧ 128 ≤ byt s (i + 3) ∧ byt s (i + 3) ≤ 191) := by
        simp [tailB, contAt, Nat.add_assoc] at t; omega
      rw [t] at ct
      refine (core3 s i (byt s i) (byt s (i + 1)) (byt s (i + 2)) (byt s (i + 3)) hs hi hk.1.1 hk.2.1.1 hk.2.2.1 hb (byt_eq s (i + 1) hk.1.1) (byt_eq s (i + 2) hk.2.1.1) (byt_eq s (i + 3) hk.2.2.1) (by omega) (by omega) (by omega) (by omega) (by omega) (by omega) (by omega) (by omega) ct w).mono ?_
      rintro e w' ⟨⟨R, K, rfl, hRK⟩, hB⟩
      refine ⟨?_, hB⟩
      rcases hRK with ⟨hbad, rfl, rfl⟩ | ⟨hgood, rfl, rfl⟩
      · have hd : Utf8.decode s i = (65533, 1) := by
          rw [decode_byt]; exact dec_3bad ⟨by omega, by omega⟩ hk.1.2 hk.2.1.2 hk.2.2.2 (by omega)
        rw [hd]
        rfl
      · have hd : Utf8.decode s i = ((((byt s i - 240) * 64 + byt s (i + 1) - 128) * 64 + byt s (i + 2) - 128) * 64 + byt s (i + 3) - 128, 4) := by
          rw [decode_byt]; exact dec_3yes ⟨by omega, by omega⟩ (by omega) hk.1.2 hk.2.1.2 hk.2.2.2 (by omega)
        rw [hd]
        rw [show ((((((byt s i - 240) * 64 + byt s (i + 1) - 128) * 64 + byt s (i + 2) - 128) * 64 + byt s (i + 3) - 128 : Nat)) : Int) = ((((byt s i : Int) - 240) * 64 + (byt s (i + 1) : Int) - 128) * 64 + (byt s (i + 2) : Int) - 128) * 64 + (byt s (i + 3) : Int) - 128 from by omega]
        rfl
    · rw [Bool.not_eq_true] at t
      have hd : Utf8.decode s i = (65533, 1) := by
        rw [decode_byt]
        refine dec_3no ⟨by omega, by omega⟩ l1 l2 l3 fun a => ?_
        simp [tailB, contAt, Nat.add_assoc] at t
        omega
      rw [hd]
      rw [t] at ct
      exact coreNo s i _ 3 hs hi hb (by omega) ct w
end Go.Proofs.YthgjdcomanabiaaGreatDoor

namespace Go.Proofs.YthgjdcomanabiaaGreatDoor
open Go.ChangeShapes Go.WideShapes Go.ChangeAt Go.RowKit
set_option linter.unusedVariables false

theorem decodeN_le (n b0 b1 b2 b3 : Nat) (h0 : b0 < 256) (h1 : b1 < 256) (h2 : b2 < 256) (h3 : b3 < 256) : (Lib.decodeN n b0 b1 b2 b3).1 ≤ 1114111 ∧ 1 ≤ (Lib.decodeN n b0 b1 b2 b3).2 ∧ (Lib.decodeN n b0 b1 b2 b3).2 ≤ 4 := by
  unfold Lib.decodeN
  repeat' split
  all_goals simp only
  all_goals omega
theorem decode_le (s : ByteArray) (i : Nat) : (Utf8.decode s i).1 ≤ 1114111 ∧ 1 ≤ (Utf8.decode s i).2 ∧ (Utf8.decode s i).2 ≤ 4 := by
  rw [decode_byt]; exact decodeN_le _ _ _ _ _ (byt_lt _ _) (byt_lt _ _) (byt_lt _ _) (byt_lt _ _)

/-- The rune at a place and its length; (0, 0) of a text that is too long, and outside of it. -/
def runeAt (s : ByteArray) (p : Int) : Int × Int :=
  if 65536 < s.size ∨ p < 0 ∨ (s.size : Int) ≤ p then (0, 0) else (((Utf8.decode s p.toNat).1 : Int), ((Utf8.decode s p.toNat).2 : Int))
theorem runeAt_out {s : ByteArray} {p : Int} (h : 65536 < s.size ∨ p < 0 ∨ (s.size : Int) ≤ p) : runeAt s p = (0, 0) := if_pos h
theorem runeAt_in {s : ByteArray} {i : Nat} (hs : s.size ≤ 65536) (h : i < s.size) : runeAt s (i : Int) = (((Utf8.decode s i).1 : Int), ((Utf8.decode s i).2 : Int)) := by
  unfold runeAt; rw [if_neg (by omega)]; rfl

set_option maxRecDepth 100000 in
set_option maxHeartbeats 400000 in
theorem implRuneAt (s : ByteArray) (p : Int) (w : World) (hT : Lib.Utf8Tabs 0 1 w) :
    Calls Tryz.prog 111 #[.string s, .int .i64 p] w fun e w' => e = .returned (.tuple #[.int .i64 (runeAt s p).1, .int .i64 (runeAt s p).2]) ∧ Below w.heap.size w w' := by
  by_cases h : 65536 < s.size ∨ p < 0 ∨ (s.size : Int) ≤ p
  · rw [runeAt_out h]
    clear hT
    by_cases h1 : (65536 : Int) < (s.size : Int)
    · clear h
      go_enter Tryz.func111, Tryz.ntmps111
      go_wp2_with fail
      go_ret2
      exact ⟨rfl, Below.refl _ _⟩
    by_cases h2 : p < 0
    · clear h
      go_enter Tryz.func111, Tryz.ntmps111
      go_wp2_with fail
      go_ret2
      exact ⟨rfl, Below.refl _ _⟩
    have h3 : (s.size : Int) ≤ p := by omega
    clear h
    go_enter Tryz.func111, Tryz.ntmps111
    go_wp2_with fail
    go_ret2
    exact ⟨rfl, Below.refl _ _⟩
  · have hs : s.size ≤ 65536 := by omega
    obtain ⟨i, rfl⟩ : ∃ i : Nat, p = (i : Int) := ⟨p.toNat, by omega⟩
    have hi : i < s.size := by omega
    rw [runeAt_in hs hi]
    have hd : Lib.decodeGo (s.extract i s.size) = Utf8.decode s i := by
      have : ¬ (s.extract i s.size).size = 0 := by simp; omega
      simp only [Lib.decodeGo, if_neg this]
      exact Lib.tail_decode s i 0
    have c := Tryz.utf8_DecodeRuneInString (s.extract i s.size) w hT
    have hle := (decode_le s i).1
    clear h hT
    have h1 : ¬ ((65536 : Int) < (s.size : Int)) := by omega
    have h3 : ¬ ((s.size : Int) ≤ (i : Int)) := by omega
    rw [hd] at c
    obtain ⟨R, hR⟩ : ∃ R, (Utf8.decode s i).1 = R := ⟨_, rfl⟩
    obtain ⟨K, hK⟩ : ∃ K, (Utf8.decode s i).2 = K := ⟨_, rfl⟩
    rw [hR, hK] at c
    rw [hR] at hle
    rw [hR, hK]
    clear hR hK hd
    have hle' : (R : Int) ≤ 1114111 := by omega
    go_enter Tryz.func111, Tryz.ntmps111
    go_wp2_with (go_at_call 146; go_must (refine c.mono ?_; rintro e w' ⟨rfl, hB⟩))
    go_ret2
    exact ⟨rfl, hB⟩
end Go.Proofs.YthgjdcomanabiaaGreatDoor

namespace Go.Proofs.YthgjdcomanabiaaGreatDoor
open Go.ChangeShapes Go.WideShapes Go.ChangeAt Go.RowKit
set_option linter.unusedVariables false

def isLet (r : Int) : Bool := (decide (97 ≤ r) && decide (r ≤ 122)) || (decide (65 ≤ r) && decide (r ≤ 90)) || (r == 95) || (decide (192 ≤ r) && decide (r ≤ 591) && r != 215 && r != 247) || (decide (913 ≤ r) && decide (r ≤ 937) && r != 930) || (decide (945 ≤ r) && decide (r ≤ 969)) || (decide (1040 ≤ r) && decide (r ≤ 1103))

set_option maxHeartbeats 400000 in
theorem specLetter (r : Int) (w : World) :
    Calls Tryz.prog 108 #[.int .i64 r] w fun e w' => e = .returned (.bool (isLet r)) ∧ w = w' := by
  go_enter Tryz.func108, Tryz.ntmps108
  go_wp2
  all_goals
    go_ret
    refine ⟨congrArg (fun b => Ending.returned (Value.bool b)) ?_, rfl⟩
    rw [Bool.eq_iff_iff]
    simp only [isLet, Bool.or_eq_true, Bool.and_eq_true, decide_eq_true_eq, beq_iff_eq, bne_iff_ne, beq_eq_false_iff_ne, Bool.false_eq_true, true_iff, false_iff, ne_eq] at *
    first | omega | decide

set_option maxHeartbeats 400000 in
theorem implLetter (r : Int) (w : World) :
    Calls Tryz.prog 112 #[.int .i64 r] w fun e w' => e = .returned (.bool (isLet r)) ∧ w = w' := by
  go_enter Tryz.func112, Tryz.ntmps112
  go_wp2
  all_goals
    go_ret
    refine ⟨congrArg (fun b => Ending.returned (Value.bool b)) ?_, rfl⟩
    rw [Bool.eq_iff_iff]
    simp only [isLet, Bool.or_eq_true, Bool.and_eq_true, decide_eq_true_eq, beq_iff_eq, bne_iff_ne, beq_eq_false_iff_ne, Bool.false_eq_true, true_iff, false_iff, ne_eq] at *
    first | omega | decide


def isDig (r : Int) : Bool := decide (48 ≤ r) && decide (r ≤ 57)
def isNam (r : Int) : Bool := isLet r || isDig r

theorem specDigit (r : Int) (w : World) :
    Calls Tryz.prog 109 #[.int .i64 r] w fun e w' => e = .returned (.bool (isDig r)) ∧ w = w' := by
  go_enter Tryz.func109, Tryz.ntmps109
  go_wp2
  all_goals
    go_ret
    refine ⟨congrArg (fun b => Ending.returned (Value.bool b)) ?_, rfl⟩
    rw [Bool.eq_iff_iff]
    simp only [isDig, Bool.and_eq_true, decide_eq_true_eq, Bool.false_eq_true, false_iff] at *
    omega
theorem implDigit (r : Int) (w : World) :
    Calls Tryz.prog 147 #[.int .i64 r] w fun e w' => e = .returned (.bool (isDig r)) ∧ w = w' := by
  go_enter Tryz.func147, Tryz.ntmps147
  go_wp2
  all_goals
    go_ret
    refine ⟨congrArg (fun b => Ending.returned (Value.bool b)) ?_, rfl⟩
    rw [Bool.eq_iff_iff]
    simp only [isDig, Bool.and_eq_true, decide_eq_true_eq, Bool.false_eq_true, false_iff] at *
    omega
theorem implNam (r : Int) (w : World) :
    Calls Tryz.prog 114 #[.int .i64 r] w fun e w' => e = .returned (.bool (isNam r)) ∧ w = w' := by
  unfold isNam
  have c1 := implLetter r
  have c2 := implDigit r
  obtain ⟨L, hL⟩ : ∃ L, isLet r = L := ⟨_, rfl⟩
  obtain ⟨D, hD⟩ : ∃ D, isDig r = D := ⟨_, rfl⟩
  rw [hL] at c1 ⊢
  rw [hD] at c2 ⊢
  cases L
  · go_enter Tryz.func114, Tryz.ntmps114
    go_wp2_with (first | (go_at_call 112; go_must (refine (c1 _).mono ?_; rintro e w' ⟨rfl, rfl⟩)) | (go_at_call 147; go_must (refine (c2 _).mono ?_; rintro e w' ⟨rfl, rfl⟩)))
    go_ret
    exact ⟨rfl, rfl⟩
  · go_enter Tryz.func114, Tryz.ntmps114
    go_wp2_with (first | (go_at_call 112; go_must (refine (c1 _).mono ?_; rintro e w' ⟨rfl, rfl⟩)) | (go_at_call 147; go_must (refine (c2 _).mono ?_; rintro e w' ⟨rfl, rfl⟩)))
    go_ret
    exact ⟨rfl, rfl⟩
end Go.Proofs.YthgjdcomanabiaaGreatDoor

namespace Go.Proofs.YthgjdcomanabiaaGreatDoor
open Go.ChangeShapes Go.WideShapes Go.ChangeAt Go.RowKit
set_option linter.unusedVariables false

theorem decodeN_fits (n b0 b1 b2 b3 : Nat) (hn : 1 ≤ n) : (Lib.decodeN n b0 b1 b2 b3).2 ≤ n := by
  unfold Lib.decodeN
  repeat' split
  all_goals simp only
  all_goals omega
theorem decode_fits (s : ByteArray) (i : Nat) (h : i < s.size) : i + (Utf8.decode s i).2 ≤ s.size := by
  have := decodeN_fits (s.size - i) (byt s i) (byt s (i + 1)) (byt s (i + 2)) (byt s (i + 3)) (by omega)
  rw [decode_byt]
  omega

/-- Where the run of runes that f takes ends, from a place on. -/
def endOf (f : Int → Bool) (s : ByteArray) (pos : Nat) : Nat :=
  if h : pos < s.size then
    if f ((Utf8.decode s pos).1 : Int) then endOf f s (pos + (Utf8.decode s pos).2) else pos
  else s.size
termination_by s.size - pos
decreasing_by
  have := (decode_le s pos).2.1
  omega
theorem endOf_on {f : Int → Bool} {s : ByteArray} {pos : Nat} (h : pos < s.size) (hf : f ((Utf8.decode s pos).1 : Int) = true) : endOf f s pos = endOf f s (pos + (Utf8.decode s pos).2) := by
  rw [endOf, dif_pos h, if_pos hf]
theorem endOf_stop {f : Int → Bool} {s : ByteArray} {pos : Nat} (h : pos < s.size) (hf : f ((Utf8.decode s pos).1 : Int) = false) : endOf f s pos = pos := by
  rw [endOf, dif_pos h, if_neg (by simp [hf])]
theorem endOf_out {f : Int → Bool} {s : ByteArray} {pos : Nat} (h : ¬ pos < s.size) : endOf f s pos = s.size := by
  rw [endOf, dif_neg h]
theorem endOf_ge (f : Int → Bool) (s : ByteArray) (pos : Nat) (h : pos ≤ s.size) : pos ≤ endOf f s pos ∧ endOf f s pos ≤ s.size := by
  by_cases hp : pos < s.size
  · by_cases hf : f ((Utf8.decode s pos).1 : Int) = true
    · rw [endOf_on hp hf]
      have h1 := (decode_le s pos).2.1
      have h2 := decode_fits s pos hp
      have := endOf_ge f s (pos + (Utf8.decode s pos).2) h2
      omega
    · rw [endOf_stop hp (by simpa using hf)]; omega
  · rw [endOf_out hp]; omega
termination_by s.size - pos
decreasing_by
  have := (decode_le s pos).2.1
  omega

set_option maxRecDepth 1000000 in
set_option maxHeartbeats 400000 in
theorem runEndNam (s : ByteArray) (a : Nat) (hs : s.size ≤ 65536) (ha : a ≤ s.size) (w : World) :
    Calls Tryz.prog 113 #[.string s, .int .i64 a, .func (.func 114) #[] #[]] w fun e w' => e = .returned (.int .i64 (endOf isNam s a)) ∧ Below w.heap.size w w' := by
  obtain ⟨E, hE⟩ : ∃ E, endOf isNam s a = E := ⟨_, rfl⟩
  rw [hE]
  have hTs : (s.extract a s.size).size = s.size - a := by simp
  have hdec : ∀ pos, Utf8.decode (s.extract a s.size) pos = Utf8.decode s (a + pos) := fun pos => Lib.tail_decode s a pos
  go_enter Tryz.func113, Tryz.ntmps113
  go_wp2
  generalize s.extract a s.size = T at hTs hdec ⊢
  have HD : Hid (∀ pos, Utf8.decode T pos = Utf8.decode s (a + pos)) := hdec
  have HE : Hid (endOf isNam s a = E) := hE
  clear hdec hE
  go_loopw [7] (fun _ wr => ∃ pos : Nat, pos ≤ T.size ∧ wr = w.iter T pos ∧ endOf isNam s (a + pos) = E) (fun _ wr => T.size - wr.iterPos w.heap.size)
  case atStart => exact ⟨0, by omega, rfl, HE⟩
  case round =>
    obtain ⟨pos, hpos, rfl, hen⟩ := hrel
    have HN : Hid (endOf isNam s (a + pos) = E) := hen
    clear hen HE
    by_cases hp : pos < T.size
    · have hnx : ∀ ty, (Instr.next (.pointer (some ⟨w.heap.size, 0, none⟩)) true ty).run Tryz.prog (w.iter T pos) = _ := fun ty => run_next_any w T pos ty hp
      have c := implNam ((Utf8.decode T pos).1 : Int)
      have hle := (decode_le T pos).1
      have hg1 := (decode_le T pos).2.1
      have hft := decode_fits T pos hp
      obtain ⟨b, hb⟩ : ∃ b, isNam ((Utf8.decode T pos).1 : Int) = b := ⟨_, rfl⟩
      rw [hb] at c
      have HB : Hid (isNam ((Utf8.decode T pos).1 : Int) = b) := hb
      clear hb
      obtain ⟨R, hR⟩ : ∃ R, (Utf8.decode T pos).1 = R := ⟨_, rfl⟩
      obtain ⟨K, hK⟩ : ∃ K, (Utf8.decode T pos).2 = K := ⟨_, rfl⟩
      have HK : Hid ((Utf8.decode T pos).2 = K) := hK
      rw [hR] at c hle hnx
      rw [hK] at hnx hg1 hft
      clear hR hK
      have hle' : (R : Int) ≤ 1114111 := by omega
      cases b
      · go_wp2_with (go_at_call 114; go_must (refine (c _).mono ?_; rintro e w' ⟨rfl, rfl⟩))
        go_ret
        refine ⟨?_, (Below.refl _ w).alloc (Nat.le_refl _) _⟩
        have h1 := HN.out
        rw [endOf_stop (by omega) (by rw [← HD.out]; exact HB)] at h1
        rw [← h1]
        go_num
      · go_wp2_with (go_at_call 114; go_must (refine (c _).mono ?_; rintro e w' ⟨rfl, rfl⟩))
        go_roundw
        case rel =>
          refine ⟨pos + K, by omega, rfl, ?_⟩
          have h1 := HN.out
          rw [endOf_on (by omega) (by rw [← HD.out]; exact HB), ← HD.out, HK.out] at h1
          rw [← Nat.add_assoc]; exact h1
        case measure => simp; omega
    · have hnx : ∀ ty, (Instr.next (.pointer (some ⟨w.heap.size, 0, none⟩)) true ty).run Tryz.prog (w.iter T pos) = _ := fun ty => run_next_end w T pos ty hp
      go_wp2
      go_ret
      refine ⟨?_, (Below.refl _ w).alloc (Nat.le_refl _) _⟩
      have h1 := HN.out
      rw [endOf_out (by omega)] at h1
      rw [← h1]
      rfl

set_option maxRecDepth 1000000 in
set_option maxHeartbeats 400000 in
theorem runEndDig (s : ByteArray) (a : Nat) (hs : s.size ≤ 65536) (ha : a ≤ s.size) (w : World) :
    Calls Tryz.prog 113 #[.string s, .int .i64 a, .func (.func 147) #[] #[]] w fun e w' => e = .returned (.int .i64 (endOf isDig s a)) ∧ Below w.heap.size w w' := by
  obtain ⟨E, hE⟩ : ∃ E, endOf isDig s a = E := ⟨_, rfl⟩
  rw [hE]
  have hTs : (s.extract a s.size).size = s.size - a := by simp
  have hdec : ∀ pos, Utf8.decode (s.extract a s.size) pos = Utf8.decode s (a + pos) := fun pos => Lib.tail_decode s a pos
  go_enter Tryz.func113, Tryz.ntmps113
  go_wp2
  generalize s.extract a s.size = T at hTs hdec ⊢
  have HD : Hid (∀ pos, Utf8.decode T pos = Utf8.decode s (a + pos)) := hdec
  have HE : Hid (endOf isDig s a = E) := hE
  clear hdec hE
  go_loopw [7] (fun _ wr => ∃ pos : Nat, pos ≤ T.size ∧ wr = w.iter T pos ∧ endOf isDig s (a + pos) = E) (fun _ wr => T.size - wr.iterPos w.heap.size)
  case atStart => exact ⟨0, by omega, rfl, HE⟩
  case round =>
    obtain ⟨pos, hpos, rfl, hen⟩ := hrel
    have HN : Hid (endOf isDig s (a + pos) = E) := hen
    clear hen HE
    by_cases hp : pos < T.size
    · have hnx : ∀ ty, (Instr.next (.pointer (some ⟨w.heap.size, 0, none⟩)) true ty).run Tryz.prog (w.iter T pos) = _ := fun ty => run_next_any w T pos ty hp
      have c := implDigit ((Utf8.decode T pos).1 : Int)
      have hle := (decode_le T pos).1
      have hg1 := (decode_le T pos).2.1
      have hft := decode_fits T pos hp
      obtain ⟨b, hb⟩ : ∃ b, isDig ((Utf8.decode T pos).1 : Int) = b := ⟨_, rfl⟩
      rw [hb] at c
      have HB : Hid (isDig ((Utf8.decode T pos).1 : Int) = b) := hb
      clear hb
      obtain ⟨R, hR⟩ : ∃ R, (Utf8.decode T pos).1 = R := ⟨_, rfl⟩
      obtain ⟨K, hK⟩ : ∃ K, (Utf8.decode T pos).2 = K := ⟨_, rfl⟩
      have HK : Hid ((Utf8.decode T pos).2 = K) := hK
      rw [hR] at c hle hnx
      rw [hK] at hnx hg1 hft
      clear hR hK
      have hle' : (R : Int) ≤ 1114111 := by omega
      cases b
      · go_wp2_with (go_at_call 147; go_must (refine (c _).mono ?_; rintro e w' ⟨rfl, rfl⟩))
        go_ret
        refine ⟨?_, (Below.refl _ w).alloc (Nat.le_refl _) _⟩
        have h1 := HN.out
        rw [endOf_stop (by omega) (by rw [← HD.out]; exact HB)] at h1
        rw [← h1]
        go_num
      · go_wp2_with (go_at_call 147; go_must (refine (c _).mono ?_; rintro e w' ⟨rfl, rfl⟩))
        go_roundw
        case rel =>
          refine ⟨pos + K, by omega, rfl, ?_⟩
          have h1 := HN.out
          rw [endOf_on (by omega) (by rw [← HD.out]; exact HB), ← HD.out, HK.out] at h1
          rw [← Nat.add_assoc]; exact h1
        case measure => simp; omega
    · have hnx : ∀ ty, (Instr.next (.pointer (some ⟨w.heap.size, 0, none⟩)) true ty).run Tryz.prog (w.iter T pos) = _ := fun ty => run_next_end w T pos ty hp
      go_wp2
      go_ret
      refine ⟨?_, (Below.refl _ w).alloc (Nat.le_refl _) _⟩
      have h1 := HN.out
      rw [endOf_out (by omega)] at h1
      rw [← h1]
      rfl

/-- Where a name ends that begins at a place: at the place itself if no letter stands there. -/
def wordEnd (s : ByteArray) (a : Nat) : Nat :=
  if a < s.size ∧ isLet ((Utf8.decode s a).1 : Int) = true then endOf isNam s (a + (Utf8.decode s a).2) else a
theorem wordEnd_ge (s : ByteArray) (a : Nat) (h : a ≤ s.size) : a ≤ wordEnd s a ∧ wordEnd s a ≤ s.size := by
  unfold wordEnd
  split
  · rename_i hc
    have h1 := endOf_ge isNam s (a + (Utf8.decode s a).2) (decode_fits s a hc.1)
    omega
  · omega
/-- What the search for a name's end keeps. -/
def AtWord (s : ByteArray) (a i W : Nat) : Prop := (i = a ∧ wordEnd s a = W) ∨ (a < i ∧ endOf isNam s i = W)
theorem AtWord.stop {s : ByteArray} {a i W : Nat} (h : AtWord s a i W) (hi : i < s.size) (h1 : isLet ((Utf8.decode s i).1 : Int) = false) (h2 : a < i → isDig ((Utf8.decode s i).1 : Int) = false) : W = i := by
  rcases h with ⟨rfl, rfl⟩ | ⟨hl, rfl⟩
  · unfold wordEnd; rw [if_neg]; simp [h1]
  · exact endOf_stop hi (by simp [isNam, h1, h2 hl])
theorem AtWord.end {s : ByteArray} {a i W : Nat} (h : AtWord s a i W) (hi : ¬ i < s.size) (hle : i ≤ s.size) : W = i := by
  rcases h with ⟨rfl, rfl⟩ | ⟨hl, rfl⟩
  · unfold wordEnd; rw [if_neg]; simp [hi]
  · rw [endOf_out hi]; omega
theorem AtWord.on {s : ByteArray} {a i W : Nat} (h : AtWord s a i W) (hi : i < s.size) (h1 : isLet ((Utf8.decode s i).1 : Int) = true ∨ (a < i ∧ isDig ((Utf8.decode s i).1 : Int) = true)) : AtWord s a (i + (Utf8.decode s i).2) W := by
  have hk := (decode_le s i).2.1
  rcases h with ⟨rfl, rfl⟩ | ⟨hl, rfl⟩
  · refine .inr ⟨by omega, ?_⟩
    unfold wordEnd; rw [if_pos ⟨hi, by rcases h1 with h | ⟨h, _⟩; exact h; omega⟩]
  · refine .inr ⟨by omega, ?_⟩
    rw [endOf_on hi]
    rcases h1 with h | ⟨_, h⟩ <;> simp [isNam, h]

set_option maxRecDepth 1000000 in
set_option maxHeartbeats 1000000 in
theorem specWord (s : ByteArray) (a : Nat) (hs : s.size ≤ 65536) (ha : a ≤ s.size) (w : World) :
    Calls Tryz.prog 92 #[.string s, .int .i64 a] w fun e w' => e = .returned (.int .i64 ((wordEnd s a : Int) - (a : Int))) ∧ Below w.heap.size w w' := by
  obtain ⟨W, hW⟩ : ∃ W, wordEnd s a = W := ⟨_, rfl⟩
  have hAW : AtWord s a a W := .inl ⟨rfl, hW⟩
  rw [hW]
  clear hW
  go_enter Tryz.func92, Tryz.ntmps92
  go_wp2
  go_loopw [5] (fun i wr => ∃ k : Nat, a ≤ k ∧ k ≤ s.size ∧ i = .int .i64 (k : Int) ∧ AtWord s a k W ∧ Below w.heap.size w wr) (fun i _ => s.size - (intOf i).toNat)
  case atStart => exact ⟨a, by omega, by omega, rfl, hAW, Below.refl _ _⟩
  case round =>
    obtain ⟨k, hk1, hk2, rfl, hkW, hB⟩ := hrel
    clear hAW
    by_cases hk : k < s.size
    · have c := specRune s k hs hk
      have c1 := specLetter ((Utf8.decode s k).1 : Int)
      have c2 := specDigit ((Utf8.decode s k).1 : Int)
      have hle := (decode_le s k).1
      have hg1 := (decode_le s k).2.1
      have hft := decode_fits s k hk
      have hst := AtWord.stop hkW hk
      have hon := AtWord.on hkW hk
      obtain ⟨R, hR⟩ : ∃ R, (Utf8.decode s k).1 = R := ⟨_, rfl⟩
      obtain ⟨K, hK⟩ : ∃ K, (Utf8.decode s k).2 = K := ⟨_, rfl⟩
      rw [hR, hK] at c
      rw [hR] at c1 c2 hst hon hle
      rw [hK] at hg1 hft hon
      clear hR hK hkW
      obtain ⟨bl, hbl⟩ : ∃ b, isLet (R : Int) = b := ⟨_, rfl⟩
      obtain ⟨bd, hbd⟩ : ∃ b, isDig (R : Int) = b := ⟨_, rfl⟩
      rw [hbl] at c1 hst hon
      rw [hbd] at c2 hst hon
      clear hbl hbd
      have hkz : (k : Int) < (s.size : Int) := by omega
      cases bl
      · by_cases hak : (a : Int) < (k : Int)
        · cases bd
          · have e := hst rfl fun _ => rfl
            subst e
            clear hst hon
            go_wp2_with (first | (go_at_call 107; go_must (refine (c _).mono ?_; rintro e w1 ⟨rfl, hB1⟩)) | (go_at_call 108; go_must (refine (c1 _).mono ?_; rintro e w' ⟨rfl, rfl⟩)) | (go_at_call 109; go_must (refine (c2 _).mono ?_; rintro e w' ⟨rfl, rfl⟩)))
            go_ret
            exact ⟨rfl, hB.trans (hB1.mono hB.size)⟩
          · have hn := hon (.inr ⟨by omega, rfl⟩)
            clear hst hon
            go_wp2_with (first | (go_at_call 107; go_must (refine (c _).mono ?_; rintro e w1 ⟨rfl, hB1⟩)) | (go_at_call 108; go_must (refine (c1 _).mono ?_; rintro e w' ⟨rfl, rfl⟩)) | (go_at_call 109; go_must (refine (c2 _).mono ?_; rintro e w' ⟨rfl, rfl⟩)))
            go_roundw
            case rel => exact ⟨k + K, by omega, by omega, by go_num, hn, hB.trans (hB1.mono hB.size)⟩
            case measure => simp [intOf]; omega
        · have e := hst rfl (fun h => absurd h (by omega))
          subst e
          clear hst hon
          go_wp2_with (first | (go_at_call 107; go_must (refine (c _).mono ?_; rintro e w1 ⟨rfl, hB1⟩)) | (go_at_call 108; go_must (refine (c1 _).mono ?_; rintro e w' ⟨rfl, rfl⟩)) | (go_at_call 109; go_must (refine (c2 _).mono ?_; rintro e w' ⟨rfl, rfl⟩)))
          go_ret
          exact ⟨rfl, hB.trans (hB1.mono hB.size)⟩
      · have hn := hon (.inl rfl)
        clear hst hon c2
        go_wp2_with (first | (go_at_call 107; go_must (refine (c _).mono ?_; rintro e w1 ⟨rfl, hB1⟩)) | (go_at_call 108; go_must (refine (c1 _).mono ?_; rintro e w' ⟨rfl, rfl⟩)))
        go_roundw
        case rel => exact ⟨k + K, by omega, by omega, by go_num, hn, hB.trans (hB1.mono hB.size)⟩
        case measure => simp [intOf]; omega
    · have e := AtWord.end hkW hk hk2
      subst e
      have hkz : ¬ ((W : Int) < (s.size : Int)) := by omega
      go_wp2
      go_ret
      exact ⟨rfl, hB⟩
end Go.Proofs.YthgjdcomanabiaaGreatDoor

namespace Go.Proofs.YthgjdcomanabiaaGreatDoor
open Go.ChangeShapes Go.WideShapes Go.ChangeAt Go.RowKit
set_option linter.unusedVariables false

def nameOK (s : ByteArray) : Bool := decide (0 < s.size) && decide (s.size ≤ 40) && decide (wordEnd s 0 = s.size) && !hasB resList s

set_option maxRecDepth 100000 in
set_option maxHeartbeats 400000 in
theorem specNameOK (s : ByteArray) (w : World) :
    Calls Tryz.prog 75 #[.string s] w fun e w' => e = .returned (.bool (nameOK s)) ∧ Below w.heap.size w w' := by
  by_cases h0 : s.size = 0
  · have e : nameOK s = false := by simp [nameOK, h0]
    rw [e]
    have h1 : (s.size : Int) = 0 := by omega
    go_enter Tryz.func75, Tryz.ntmps75
    go_wp2_with fail
    go_ret
    exact ⟨rfl, Below.refl _ _⟩
  by_cases h1 : 40 < s.size
  · have e : nameOK s = false := by
      have : decide (s.size ≤ 40) = false := by simp; omega
      simp [nameOK, this]
    rw [e]
    have h2 : (40 : Int) < (s.size : Int) := by omega
    go_enter Tryz.func75, Tryz.ntmps75
    go_wp2_with fail
    go_ret
    exact ⟨rfl, Below.refl _ _⟩
  obtain ⟨E, hE⟩ : ∃ E, wordEnd s 0 = E := ⟨_, rfl⟩
  obtain ⟨B, hB⟩ : ∃ B, hasB resList s = B := ⟨_, rfl⟩
  have c1 : ∀ w, Calls Tryz.prog 92 #[.string s, .int .i64 0] w fun e w' => e = .returned (.int .i64 (E : Int)) ∧ Below w.heap.size w w' := by
    intro w
    have := specWord s 0 (by omega) (by omega) w
    rw [hE] at this
    simpa using this
  have c2 := specReserved s
  rw [hB] at c2
  have e : nameOK s = (decide (E = s.size) && !B) := by
    have a1 : decide (0 < s.size) = true := by simp; omega
    have a2 : decide (s.size ≤ 40) = true := by simp; omega
    simp [nameOK, a1, a2, hE, hB]
  rw [e]
  clear hE hB e
  have p1 : (0 : Int) < (s.size : Int) := by omega
  have p2 : (s.size : Int) ≤ 40 := by omega
  by_cases hEs : (E : Int) = (s.size : Int)
  · have e2 : E = s.size := by omega
    have e3 : decide (E = s.size) = true := by simp [e2]
    have q : ((E : Int) == (s.size : Int)) = true := by simp [e2]
    rw [e3]
    clear e2 e3 hEs
    go_enter Tryz.func75, Tryz.ntmps75
    go_wp2_with (first | (go_at_call 92; go_must (refine (c1 _).mono ?_; rintro e w1 ⟨rfl, hB1⟩)) | (go_at_call 93; go_must (refine (c2 _).mono ?_; rintro e w2 ⟨rfl, hB2⟩)))
    go_ret
    refine ⟨?_, hB1.trans (hB2.mono hB1.size)⟩
    cases B <;> rfl
  · have e3 : decide (E = s.size) = false := by simp; omega
    have q : ((E : Int) == (s.size : Int)) = false := by simp; omega
    rw [e3]
    clear e3 hEs
    go_enter Tryz.func75, Tryz.ntmps75
    go_wp2_with (first | (go_at_call 92; go_must (refine (c1 _).mono ?_; rintro e w1 ⟨rfl, hB1⟩)) | (go_at_call 93; go_must (refine (c2 _).mono ?_; rintro e w2 ⟨rfl, hB2⟩)))
    go_ret
    exact ⟨rfl, hB1⟩

theorem word_of_end (s : ByteArray) (h : 0 < s.size) : decide (wordEnd s 0 = s.size) = (isLet ((Utf8.decode s 0).1 : Int) && decide (endOf isNam s 0 = s.size)) := by
  unfold wordEnd
  cases hl : isLet ((Utf8.decode s 0).1 : Int)
  · rw [if_neg (by simp)]; simp; omega
  · rw [if_pos ⟨h, rfl⟩, endOf_on (f := isNam) h (by simp [isNam, hl])]
    simp

set_option maxRecDepth 100000 in
set_option maxHeartbeats 400000 in
theorem implNameOK (s : ByteArray) (w : World) (hT : Lib.Utf8Tabs 0 1 w) :
    Calls Tryz.prog 95 #[.string s] w fun e w' => e = .returned (.bool (nameOK s)) ∧ Below w.heap.size w w' := by
  by_cases h0 : s.size = 0
  · have e : nameOK s = false := by simp [nameOK, h0]
    rw [e]
    clear hT
    have h1 : (s.size : Int) = 0 := by omega
    go_enter Tryz.func95, Tryz.ntmps95
    go_wp2_with fail
    go_ret
    exact ⟨rfl, Below.refl _ _⟩
  by_cases h1 : 40 < s.size
  · have e : nameOK s = false := by
      have : decide (s.size ≤ 40) = false := by simp; omega
      simp [nameOK, this]
    rw [e]
    clear hT
    have h2 : (40 : Int) < (s.size : Int) := by omega
    go_enter Tryz.func95, Tryz.ntmps95
    go_wp2_with fail
    go_ret
    exact ⟨rfl, Below.refl _ _⟩
  have c0 := implReserved s
  have hr := runeAt_in (s := s) (i := 0) (by omega) (by omega)
  have c1 := fun w hT => implRuneAt s 0 w hT
  have hr' : runeAt s 0 = (((Utf8.decode s 0).1 : Int), ((Utf8.decode s 0).2 : Int)) := hr
  rw [hr'] at c1
  have c2 := implLetter ((Utf8.decode s 0).1 : Int)
  have c3 : ∀ w, Calls Tryz.prog 113 #[.string s, .int .i64 0, .func (.func 114) #[] #[]] w fun e w' => e = .returned (.int .i64 (endOf isNam s 0)) ∧ Below w.heap.size w w' := fun w => runEndNam s 0 (by omega) (by omega) w
  have hw := word_of_end s (by omega)
  obtain ⟨B, hB⟩ : ∃ B, hasB resList s = B := ⟨_, rfl⟩
  obtain ⟨E, hE⟩ : ∃ E, endOf isNam s 0 = E := ⟨_, rfl⟩
  have e : nameOK s = (isLet ((Utf8.decode s 0).1 : Int) && decide (E = s.size) && !B) := by
    have a1 : decide (0 < s.size) = true := by simp; omega
    have a2 : decide (s.size ≤ 40) = true := by simp; omega
    simp only [nameOK, a1, a2, hB, hw, hE, Bool.true_and]
  rw [e]
  rw [hB] at c0
  rw [hE] at c3
  obtain ⟨R, hR⟩ : ∃ R, (Utf8.decode s 0).1 = R := ⟨_, rfl⟩
  obtain ⟨K, hK⟩ : ∃ K, (Utf8.decode s 0).2 = K := ⟨_, rfl⟩
  rw [hR] at c1 c2 ⊢
  rw [hK] at c1
  obtain ⟨Lb, hL⟩ : ∃ L, isLet (R : Int) = L := ⟨_, rfl⟩
  rw [hL] at c2 ⊢
  have HT : Hid (Lib.Utf8Tabs 0 1 w) := hT
  clear hE hB e hw hr hr' hR hK hL hT
  have p1 : ((s.size : Int) == 0) = false := by rw [beq_eq_false_iff_ne]; omega
  have p2 : (s.size : Int) ≤ 40 := by omega
  cases B
  · cases Lb
    · go_enter Tryz.func95, Tryz.ntmps95
      go_wp2_with (first | (go_at_call 110; go_must (refine (c0 _).mono ?_; rintro e w1 ⟨rfl, rfl⟩)) | (go_at_call 111; go_must (refine (c1 _ HT.out).mono ?_; rintro e w2 ⟨rfl, hB2⟩)) | (go_at_call 112; go_must (refine (c2 _).mono ?_; rintro e w' ⟨rfl, rfl⟩)) | (go_at_call 113; go_must (refine (c3 _).mono ?_; rintro e w3 ⟨rfl, hB3⟩)))
      go_ret
      exact ⟨rfl, hB2⟩
    · go_enter Tryz.func95, Tryz.ntmps95
      go_wp2_with (first | (go_at_call 110; go_must (refine (c0 _).mono ?_; rintro e w1 ⟨rfl, rfl⟩)) | (go_at_call 111; go_must (refine (c1 _ HT.out).mono ?_; rintro e w2 ⟨rfl, hB2⟩)) | (go_at_call 112; go_must (refine (c2 _).mono ?_; rintro e w' ⟨rfl, rfl⟩)) | (go_at_call 113; go_must (refine (c3 _).mono ?_; rintro e w3 ⟨rfl, hB3⟩)))
      go_ret
      refine ⟨?_, hB2.trans (hB3.mono hB2.size)⟩
      refine congrArg (fun b => Ending.returned (Value.bool b)) ?_
      rw [Bool.eq_iff_iff]
      simp
      omega
  · have e4 : (Lb && decide (E = s.size) && !true) = false := by simp
    rw [e4]
    go_enter Tryz.func95, Tryz.ntmps95
    go_wp2_with (first | (go_at_call 110; go_must (refine (c0 _).mono ?_; rintro e w1 ⟨rfl, rfl⟩)))
    go_ret
    exact ⟨rfl, Below.refl _ _⟩
end Go.Proofs.YthgjdcomanabiaaGreatDoor

namespace Go.Proofs.YthgjdcomanabiaaGreatDoor
open Go.ChangeShapes Go.WideShapes Go.ChangeAt Go.RowKit
set_option linter.unusedVariables false

theorem specName : NameSpec nameOK := fun s w => specNameOK s w

set_option maxRecDepth 100000 in
theorem implNeed (nm : ByteArray) (mn mx : Int) (w : World) (hT : Lib.Utf8Tabs 0 1 w) :
    Calls Tryz.prog 81 #[.agg #[.string nm, .int .i64 mn, .int .i64 mx]] w fun e w' => e = .returned (.bool (needB nameOK ⟨nm, mn, mx⟩)) ∧ Below w.heap.size w w' := by
  have hw1 : ∀ o, Below w.heap.size w (w.alloc o) := fun o => (Below.refl _ w).alloc (Nat.le_refl _) _
  have cn := fun w' (hb : Below w.heap.size w w') => implNameOK nm w' (Utf8Tabs_below hT hb)
  clear hT
  unfold needB
  dsimp only
  obtain ⟨b, hb⟩ : ∃ b, nameOK nm = b := ⟨_, rfl⟩
  rw [hb] at cn ⊢
  clear hb
  cases b
  · go_enter Tryz.func81, Tryz.ntmps81
    go_wp2_with (go_at_call 95; go_must (refine (cn _ (hw1 _)).mono ?_; rintro e w1 ⟨rfl, hb1⟩))
    go_ret
    exact ⟨by simp, good_below (hw1 _) hb1⟩
  · go_enter Tryz.func81, Tryz.ntmps81
    go_wp2_with (go_at_call 95; go_must (refine (cn _ (hw1 _)).mono ?_; rintro e w1 ⟨rfl, hb1⟩; have hk : Blk w1 w.heap.size 61 #[.string nm, .int .i64 mn, .int .i64 mx] := Blk.below (heap_alloc_last w _) hb1; have e1 := hk.cell 1; have e2 := hk.cell 2; simp at e1 e2))
    all_goals
      go_ret
      refine ⟨congrArg (fun b => Ending.returned (Value.bool b)) ?_, good_below (hw1 _) hb1⟩
      simp
      try omega

set_option maxRecDepth 100000 in
theorem implBetween (r lo hi : Int) (w : World) : Calls Tryz.prog 96 #[.int .i64 r, .int .i64 lo, .int .i64 hi] w fun e w' => e = .returned (.bool (decide (lo ≤ r) && decide (r ≤ hi))) ∧ w' = w := by
  go_enter Tryz.func96, Tryz.ntmps96
  go_wp2_with fail
  all_goals
    go_ret
    refine ⟨congrArg (fun b => Ending.returned (Value.bool b)) ?_, rfl⟩
    simp
    try omega

/-- A need is of that name. -/
def ownB (rn : ByteArray) (x : Imp) : Bool := x.name.toList == rn.toList
set_option maxRecDepth 100000 in
theorem implOwn (nm : ByteArray) (mn mx : Int) (g : Nat) (rn : ByteArray) (w : World) (hc : w.cell? ⟨g, 0, none⟩ = some (.string rn)) (hg : g < w.heap.size) :
    Calls Tryz.prog 94 #[.agg #[.string nm, .int .i64 mn, .int .i64 mx], .pointer (some ⟨g, 0, none⟩)] w fun e w' => e = .returned (.bool (ownB rn ⟨nm, mn, mx⟩)) ∧ Below w.heap.size w w' := by
  have hw1 : ∀ o, Below w.heap.size w (w.alloc o) := fun o => (Below.refl _ w).alloc (Nat.le_refl _) _
  have hc1 : ∀ o, (w.alloc o).cell? ⟨g, 0, none⟩ = some (.string rn) := fun o => ((hw1 o).cell (p := ⟨g, 0, none⟩) hg).trans hc
  go_enter Tryz.func94, Tryz.ntmps94
  go_wp2_with fail
  go_ret
  refine ⟨congrArg (fun b => Ending.returned (Value.bool b)) ?_, hw1 _⟩
  simp [ownB]

theorem any_take (l : List Imp) (f : Imp → Bool) (k : Nat) (h : k < l.length) (h0 : (l.take k).any f = false) (h1 : f l[k] = false) : (l.take (k + 1)).any f = false := by
  rw [List.take_succ_eq_append_getElem h, List.any_append, h0]
  simp [h1]

set_option maxRecDepth 100000 in
set_option maxHeartbeats 1000000 in
theorem implIndex {S : Nat → Prop} {l : List Imp} {v : Value} {w : World} (hS : ∀ b, S b → b < w.heap.size) (h : ImpsAt S w v l) (g : Nat) (rn : ByteArray) (hc : w.cell? ⟨g, 0, none⟩ = some (.string rn)) (hg : g < w.heap.size) :
    Calls Tryz.prog 115 #[v, .func (.func 94) #[] #[.pointer (some ⟨g, 0, none⟩)]] w fun e w' => (∃ r : Int, e = .returned (.int .i64 r) ∧ decide (0 ≤ r) = l.any (ownB rn)) ∧ Below w.heap.size w w' := by
  obtain ⟨hlm, a, cap, rfl, hcs⟩ := h
  have HC : Hid _ := hcs
  have hlm' : (l.length : Int) ≤ 9223372036854775807 := by simp [maxLen] at hlm; omega
  clear hcs hlm
  go_enter Tryz.func115, Tryz.ntmps115
  go_wp2_with fail
  go_loopw [8] (fun i8 wr => ∃ (k : Nat), i8 = .int .i64 (k : Int) ∧ k ≤ l.length ∧ (l.take k).any (ownB rn) = false ∧ Below w.heap.size w wr) (fun i8 _ => l.length - (intOf i8).toNat)
  case atStart => exact ⟨0, rfl, by omega, by simp, Below.refl _ _⟩
  case round =>
    obtain ⟨k, rfl, hk, hany, hb⟩ := hrel
    have HA : Hid _ := hany
    clear hany
    by_cases hkn : k < l.length
    · have hkn' : (k : Int) < (l.length : Int) := by omega
      obtain ⟨b, off, rfl, hbB, hcell⟩ := HC.out (by omega)
      obtain ⟨x1, x2, x3⟩ := hcell k hkn
      have hbw := hS b hbB
      obtain ⟨x, hx⟩ : ∃ x, l[k] = x := ⟨_, rfl⟩
      have HX : Hid (l[k] = x) := hx
      rw [hx] at x1 x2 x3
      clear hx hcell
      obtain ⟨nm, mn, mx⟩ := x
      dsimp only at x1 x2 x3
      have d1 := (hb.cell (p := ⟨b, off + k * 3, none⟩) hbw).trans x1
      have d2 := (hb.cell (p := ⟨b, off + k * 3 + 1, none⟩) hbw).trans x2
      have d3 := (hb.cell (p := ⟨b, off + k * 3 + 2, none⟩) hbw).trans x3
      have cn := implOwn nm mn mx g rn wr ((hb.cell (p := ⟨g, 0, none⟩) hg).trans hc) (Nat.lt_of_lt_of_le hg hb.size)
      obtain ⟨B1, hB1⟩ : ∃ B1, ownB rn ⟨nm, mn, mx⟩ = B1 := ⟨_, rfl⟩
      rw [hB1] at cn
      have HB1 : Hid _ := hB1
      clear hB1
      cases B1
      · go_wp2_with (go_at_call 94; go_must (refine cn.mono ?_; rintro e w1 ⟨rfl, hb1⟩))
        exact ⟨⟨k + 1, rfl, by omega, any_take l _ k hkn HA.out (by rw [HX.out]; exact HB1.out), good_below hb hb1⟩, by simp [intOf]; omega⟩
      · go_wp2_with (go_at_call 94; go_must (refine cn.mono ?_; rintro e w1 ⟨rfl, hb1⟩))
        go_ret
        refine ⟨⟨_, rfl, ?_⟩, good_below hb hb1⟩
        rw [List.any_eq_true.2 ⟨l[k], List.getElem_mem hkn, by rw [HX.out]; exact HB1.out⟩]
        simp
    · have hkn' : ¬ ((k : Int) < (l.length : Int)) := by omega
      have hA := HA.out
      rw [List.take_of_length_le (by omega)] at hA
      go_wp2_with fail
      go_ret
      refine ⟨⟨_, rfl, ?_⟩, hb⟩
      first
        | (rw [hA]; rfl)
        | omega

set_option maxRecDepth 100000 in
theorem implContains {S : Nat → Prop} {l : List Imp} {v : Value} {w : World} (hS : ∀ b, S b → b < w.heap.size) (h : ImpsAt S w v l) (g : Nat) (rn : ByteArray) (hc : w.cell? ⟨g, 0, none⟩ = some (.string rn)) (hg : g < w.heap.size) :
    Calls Tryz.prog 97 #[v, .func (.func 94) #[] #[.pointer (some ⟨g, 0, none⟩)]] w fun e w' => e = .returned (.bool (l.any (ownB rn))) ∧ Below w.heap.size w w' := by
  have c := implIndex hS h g rn hc hg
  clear h hc
  go_enter Tryz.func97, Tryz.ntmps97
  go_wp2_with (go_at_call 115; go_must (refine c.mono ?_; rintro e w1 ⟨⟨r, rfl, hr⟩, hb1⟩))
  go_ret
  refine ⟨congrArg (fun b => Ending.returned (Value.bool b)) ?_, hb1⟩
  rw [← hr]
end Go.Proofs.YthgjdcomanabiaaGreatDoor

namespace Go.Proofs.YthgjdcomanabiaaGreatDoor
open Go.ChangeShapes Go.WideShapes Go.ChangeAt Go.RowKit
set_option linter.unusedVariables false

/-- A pick is of that name. -/
def ofB (rn : ByteArray) (x : Pk) : Bool := x.name.toList == rn.toList
set_option maxRecDepth 100000 in
theorem implOf (nm : ByteArray) (ve : Int) (g : Nat) (rn : ByteArray) (w : World) (hc : w.cell? ⟨g, 0, none⟩ = some (.string rn)) (hg : g < w.heap.size) :
    Calls Tryz.prog 38 #[.agg #[.string nm, .int .i64 ve], .pointer (some ⟨g, 0, none⟩)] w fun e w' => e = .returned (.bool (ofB rn ⟨nm, ve⟩)) ∧ Below w.heap.size w w' := by
  have hw1 : ∀ o, Below w.heap.size w (w.alloc o) := fun o => (Below.refl _ w).alloc (Nat.le_refl _) _
  have hc1 : ∀ o, (w.alloc o).cell? ⟨g, 0, none⟩ = some (.string rn) := fun o => ((hw1 o).cell (p := ⟨g, 0, none⟩) hg).trans hc
  go_enter Tryz.func38, Tryz.ntmps38
  go_wp2_with fail
  go_ret
  refine ⟨congrArg (fun b => Ending.returned (Value.bool b)) ?_, hw1 _⟩
  simp [ofB]

theorem none_take {α : Type} (l : List α) (f : α → Bool) (k : Nat) (h : k < l.length) (h0 : (l.take k).any f = false) (h1 : f l[k] = false) : (l.take (k + 1)).any f = false := by
  rw [List.take_succ_eq_append_getElem h, List.any_append, h0]
  simp [h1]

/-- What an index of a list's first such element says. -/
def FirstAt {α : Type} (l : List α) (f : α → Bool) (r : Int) : Prop := (r = -1 ∧ l.any f = false) ∨ ∃ (k : Nat) (hk : k < l.length), r = (k : Int) ∧ f l[k] = true ∧ (l.take k).any f = false

set_option maxRecDepth 100000 in
set_option maxHeartbeats 1000000 in
theorem implIndexOf {B : Nat} {l : List Pk} {v : Value} {w : World} (h : OwnP B w v l) (hl : l.length ≤ 1000000) (g : Nat) (rn : ByteArray) (hc : w.cell? ⟨g, 0, none⟩ = some (.string rn)) (hg : g < w.heap.size) :
    Calls Tryz.prog 37 #[v, .func (.func 38) #[] #[.pointer (some ⟨g, 0, none⟩)]] w fun e w' => (∃ r : Int, e = .returned (.int .i64 r) ∧ FirstAt l (ofB rn) r) ∧ Below w.heap.size w w' := by
  obtain ⟨a, cap, rfl, hcs⟩ := h.value
  have HC : Hid _ := hcs
  have hlm' : (l.length : Int) ≤ 1000000 := by omega
  clear hcs h
  go_enter Tryz.func37, Tryz.ntmps37
  go_wp2_with fail
  go_loopw [8] (fun i8 wr => ∃ (k : Nat), i8 = .int .i64 (k : Int) ∧ k ≤ l.length ∧ (l.take k).any (ofB rn) = false ∧ Below w.heap.size w wr) (fun i8 _ => l.length - (intOf i8).toNat)
  case atStart => exact ⟨0, rfl, by omega, by simp, Below.refl _ _⟩
  case round =>
    obtain ⟨k, rfl, hk, hany, hb⟩ := hrel
    have HA : Hid _ := hany
    clear hany
    by_cases hkn : k < l.length
    · have hkn' : (k : Int) < (l.length : Int) := by omega
      obtain ⟨b, rfl, hcell⟩ := HC.out (by omega)
      obtain ⟨x1, x2⟩ := hcell k hkn
      have hbw := cell_lt' x1
      obtain ⟨x, hx⟩ : ∃ x, l[k] = x := ⟨_, rfl⟩
      have HX : Hid (l[k] = x) := hx
      rw [hx] at x1 x2
      clear hx hcell
      obtain ⟨nm, ve⟩ := x
      dsimp only at x1 x2
      have d1 := (hb.cell (p := ⟨b, k * 2, none⟩) hbw).trans x1
      have d2 := (hb.cell (p := ⟨b, k * 2 + 1, none⟩) hbw).trans x2
      have cn := implOf nm ve g rn wr ((hb.cell (p := ⟨g, 0, none⟩) hg).trans hc) (Nat.lt_of_lt_of_le hg hb.size)
      obtain ⟨B1, hB1⟩ : ∃ B1, ofB rn ⟨nm, ve⟩ = B1 := ⟨_, rfl⟩
      rw [hB1] at cn
      have HB1 : Hid _ := hB1
      clear hB1
      cases B1
      · go_wp2_with (go_at_call 38; go_must (refine cn.mono ?_; rintro e w1 ⟨rfl, hb1⟩))
        exact ⟨⟨k + 1, rfl, by omega, none_take l _ k hkn HA.out (by rw [HX.out]; exact HB1.out), good_below hb hb1⟩, by simp [intOf]; omega⟩
      · go_wp2_with (go_at_call 38; go_must (refine cn.mono ?_; rintro e w1 ⟨rfl, hb1⟩))
        go_ret
        exact ⟨⟨_, rfl, .inr ⟨k, hkn, rfl, by rw [HX.out]; exact HB1.out, HA.out⟩⟩, good_below hb hb1⟩
    · have hkn' : ¬ ((k : Int) < (l.length : Int)) := by omega
      have hA := HA.out
      rw [List.take_of_length_le (by omega)] at hA
      have HAA : Hid _ := hA
      clear hA
      go_wp2_with fail
      go_ret
      exact ⟨⟨_, rfl, .inl ⟨rfl, HAA.out⟩⟩, hb⟩
end Go.Proofs.YthgjdcomanabiaaGreatDoor
