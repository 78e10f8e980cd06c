/-
  A statement that leaves its order open and whose last operation waits for all the others: the others in any order, then that one. No statement of the seat is proved here.
-/
import Derived.Test.YthopmdfichfhdaaGreatDoorI9
import Derived.OrdersHeld
import Derived.StillTail
import Derived.Deep.RegionHeld3
namespace Go.Proofs.YthopmdfichfhdaaGreatDoor
open Go.ChangeShapes Go.WideShapes Go.ChangeAt Go.RowKit
set_option linter.unusedVariables false
set_option linter.unusedSimpArgs false

section
variable {P : Program} {md : Region.Mode} {ops : Array Oper} {o : Oper} {Q : Exit → Act → World → Prop}
/-- What is asked behind the others: the last one. -/
def lastQ (P : Program) (o : Oper) (Q : Exit → Act → World → Prop) : Exit → Act → World → Prop
  | .normal, a, w => o.wp P a w (fun a' w' => Q .normal a' w') Q
  | .panic c, a, w => Q (.panic c) a w
  | .outgrown, a, w => Q .outgrown a w
  | _, _, _ => False
theorem upon_last {x : Oper} {a : Act} {w : World} {K K' : Act → World → Prop} (hK : ∀ a w, K a w → K' a w) (h : x.wp P a w K (lastQ P o Q)) : x.wp P a w K' Q := by
  unfold Oper.wp at *
  generalize (execOp a.eval x).run P w = r at *
  cases r with
  | ok n w' =>
    cases n <;> simp only [Oper.upon] at h ⊢ <;>
      first
        | exact hK _ _ h
        | exact Calls.mono h (fun e w'' he => by cases e <;> first | exact hK _ _ he | exact he)
        | exact Rows.mono h (fun _ _ he => hK _ _ he)
  | halt x w' => cases x <;> simp only [Oper.upon] at h ⊢ <;> exact h
/-- Each waits for earlier ones alone, none has a guard, the last one waits for all. -/
structure LastOne (md : Region.Mode) (ops : Array Oper) (o : Oper) : Prop where
  back : ∀ (j : Nat) (x : Oper), ops[j]? = some x → x.guard = none ∧ ∀ e ∈ x.after, e.on < j
  own : o.guard = none ∧ ∀ e ∈ o.after, e.on < ops.size
  all : ∀ j, j < ops.size → (∃ e ∈ o.after, Region.binds md e = true ∧ e.on = j) ∨ ∃ (k : Nat) (x : Oper), j < k ∧ ops[k]? = some x ∧ ∃ e ∈ x.after, Region.binds md e = true ∧ e.on = j
/-- Who has come up has waited. -/
def Closed (md : Region.Mode) (ops : Array Oper) (listed : Array Bool) : Prop := ∀ (j : Nat) (x : Oper), ops[j]? = some x → listed.getD j true = true → ∀ e ∈ x.after, Region.binds md e = true → listed.getD e.on false = true
theorem Closed.set {listed : Array Bool} (h : Closed md ops listed) {i : Nat} (hi : i ∈ Region.ready md ops listed) : Closed md ops (listed.setIfInBounds i true) := by
  intro j x hx hj e he hb
  obtain ⟨h1, y, hy, h2⟩ := mem_ready.1 hi
  have key : listed.getD e.on false = true := by
    by_cases e' : i = j
    · subst e'
      obtain rfl := Option.some.inj (hx.symm.trans hy)
      exact h2 e he hb
    · rw [getD_set_ne true e'] at hj
      exact h j x hx hj e he hb
  by_cases e' : i = e.on
  · rw [← e'] at key ⊢
    rw [getD_both h1] at key
    cases key
  · rw [getD_set_ne false e']; exact key
theorem getD_push {listed : Array Bool} {n i : Nat} (hs : listed.size = n) (hi : i < n) (x d : Bool) : (listed.push x).getD i d = listed.getD i d := by
  have h1 : i < listed.size := by omega
  simp [Array.getElem?_push, h1, Nat.ne_of_lt h1]
theorem ready_push {listed : Array Bool} (hl : LastOne md ops o) (hs : listed.size = ops.size) {i : Nat} (hi : i < ops.size) (x : Bool) : i ∈ Region.ready md (ops.push o) (listed.push x) ↔ i ∈ Region.ready md ops listed := by
  rw [mem_ready, mem_ready, getD_push hs hi]
  have e : (ops.push o)[i]? = ops[i]? := by simp [Array.getElem?_push, Nat.ne_of_lt hi]
  rw [e]
  constructor
  · rintro ⟨h1, y, hy, h2⟩
    refine ⟨h1, y, hy, fun e he hb => ?_⟩
    have := h2 e he hb
    rwa [getD_push hs (by have := (hl.back i y hy).2 e he; omega)] at this
  · rintro ⟨h1, y, hy, h2⟩
    refine ⟨h1, y, hy, fun e he hb => ?_⟩
    rw [getD_push hs (by have := (hl.back i y hy).2 e he; omega)]
    exact h2 e he hb
theorem all_listed {listed : Array Bool} (hl : LastOne md ops o) (hs : listed.size = ops.size) (hr : Region.ready md ops listed = []) : ∀ j, j < ops.size → listed.getD j true = true := by
  intro j
  induction j using Nat.strongRecOn with
  | ind j ih =>
    intro hj
    cases h : listed.getD j true
    · have hmem : j ∈ Region.ready md ops listed := by
        rw [mem_ready]
        refine ⟨h, ops[j], by simp [hj], fun e he hb => ?_⟩
        have hlt := (hl.back j ops[j] (by simp [hj])).2 e he
        have h1 := ih e.on hlt (by omega)
        have h2 : e.on < listed.size := by omega
        simp [h2] at h1 ⊢
        exact h1
      rw [hr] at hmem
      cases hmem
    · rfl
theorem last_ready {listed : Array Bool} (hl : LastOne md ops o) (hs : listed.size = ops.size) (hc : Closed md ops listed) : ops.size ∈ Region.ready md (ops.push o) (listed.push false) ↔ ∀ j, j < ops.size → listed.getD j true = true := by
  rw [mem_ready]
  have e : (ops.push o)[ops.size]? = some o := by simp
  rw [e]
  have h0 : (listed.push false).getD ops.size true = false := by simp [← hs]
  rw [h0]
  have turn : ∀ j, j < ops.size → listed.getD j false = true → listed.getD j true = true := fun j hj h => by
    have h3 : j < listed.size := by omega
    simp [h3] at h ⊢
    exact h
  constructor
  · rintro ⟨_, y, hy, h2⟩
    obtain rfl := Option.some.inj hy
    have : ∀ m j, j < ops.size → ops.size - j ≤ m → listed.getD j true = true := by
      intro m
      induction m with
      | zero => intro j hj hm; omega
      | succ m ih =>
        intro j hj hm
        rcases hl.all j hj with ⟨e, he, hb, rfl⟩ | ⟨k, x, hk, hx, e, he, hb, rfl⟩
        · have := h2 e he hb
          rw [getD_push hs hj] at this
          exact turn _ hj this
        · have hks := (Array.getElem?_eq_some_iff.1 hx).1
          exact turn _ hj (hc k x hx (ih k hks (by omega)) e he hb)
    exact fun j hj => this _ j hj (Nat.le_refl _)
  · intro h
    refine ⟨rfl, o, rfl, fun e he hb => ?_⟩
    have hlt := hl.own.2 e he
    rw [getD_push hs hlt]
    have := h e.on hlt
    have h3 : e.on < listed.size := by omega
    simp [h3] at this ⊢
    exact this
theorem ready_all {listed : Array Bool} (hs : listed.size = ops.size) (h : ∀ j, j < ops.size → listed.getD j true = true) : Region.ready md ops listed = [] := by
  refine List.eq_nil_iff_forall_not_mem.2 fun i hi => ?_
  rw [mem_ready] at hi
  obtain ⟨h1, y, hy, _⟩ := hi
  have := h i (Array.getElem?_eq_some_iff.1 hy).1
  rw [h1] at this
  cases this
theorem wpOp_none {i : Nat} {x : Oper} {K : Act → World → Prop} {a : Act} {w : World} (hx : ops[i]? = some x) (hg : x.guard = none) (h : x.wp P a w K Q) : wpOp P ops Q i K a w := by
  unfold wpOp
  simp only [hx]
  have hw : Region.wanted x (yielded ops a.tmps) = true := by simp [Region.wanted, hg]
  rw [if_pos hw]
  exact .inl h
theorem end_ready {listed : Array Bool} (hl : LastOne md ops o) (hs : listed.size = ops.size) (h : ∀ j, j < ops.size → listed.getD j true = true) : Region.ready md (ops.push o) ((listed.push false).setIfInBounds ops.size true) = [] := by
  refine ready_all (by simp [hs]) fun j hj => ?_
  have hj' : j < ops.size + 1 := by simpa using hj
  by_cases e : j = ops.size
  · subst e; simp [← hs]
  · have hlt : j < ops.size := by omega
    rw [getD_set_ne true (Ne.symm e), getD_push hs hlt]
    exact h j hlt
theorem wpAny_nil {Q : Exit → Act → World → Prop} {listed : Array Bool} {a : Act} {w : World} (hr : Region.ready md ops listed = []) (h : Q .normal a w) : ∀ f, wpAny P md ops Q f listed a w
  | 0 => ⟨hr, h⟩
  | _ + 1 => ⟨fun _ => h, by rw [hr]; simp⟩
theorem wpAny_last (hl : LastOne md ops o) : ∀ (f : Nat) (listed : Array Bool) (a : Act) (w : World), listed.size = ops.size → Closed md ops listed → wpAny P md ops (lastQ P o Q) f listed a w → wpAny P md (ops.push o) Q (f + 1) (listed.push false) a w := by
  have atEnd : ∀ (f : Nat) (listed : Array Bool) (a : Act) (w : World), listed.size = ops.size → (∀ j, j < ops.size → listed.getD j true = true) → lastQ P o Q .normal a w → wpOp P (ops.push o) Q ops.size (wpAny P md (ops.push o) Q f ((listed.push false).setIfInBounds ops.size true)) a w := fun f listed a w hs hall hq =>
    wpOp_none (x := o) (by simp) hl.own.1 (Oper.wp_mono (fun a' w' h => wpAny_nil (end_ready hl hs hall) h f) hq)
  intro f
  induction f with
  | zero =>
    intro listed a w hs hcl h
    have hall := all_listed hl hs h.1
    refine ⟨fun hr => ?_, fun i hi => ?_⟩
    · have := (last_ready hl hs hcl).2 hall
      rw [hr] at this
      cases this
    · have hlt : i < ops.size + 1 := by
        obtain ⟨_, y, hy, _⟩ := mem_ready.1 hi
        have := (Array.getElem?_eq_some_iff.1 hy).1
        simpa using this
      by_cases e : i = ops.size
      · subst e; exact atEnd 0 listed a w hs hall h.2
      · have hm := (ready_push hl hs (by omega) false).1 hi
        rw [h.1] at hm
        cases hm
  | succ f ih =>
    intro listed a w hs hcl h
    refine ⟨fun hr => ?_, fun i hi => ?_⟩
    · have h0 : Region.ready md ops listed = [] := by
        refine List.eq_nil_iff_forall_not_mem.2 fun i hi => ?_
        have hlt : i < ops.size := by
          obtain ⟨_, y, hy, _⟩ := mem_ready.1 hi
          exact (Array.getElem?_eq_some_iff.1 hy).1
        have := (ready_push hl hs hlt false).2 hi
        rw [hr] at this
        cases this
      have := (last_ready hl hs hcl).2 (all_listed hl hs h0)
      rw [hr] at this
      cases this
    · have hlt : i < ops.size + 1 := by
        obtain ⟨_, y, hy, _⟩ := mem_ready.1 hi
        have := (Array.getElem?_eq_some_iff.1 hy).1
        simpa using this
      by_cases e : i = ops.size
      · subst e
        have hall := (last_ready hl hs hcl).1 hi
        exact atEnd (f + 1) listed a w hs hall (h.1 (ready_all hs hall))
      · have hi' : i < ops.size := by omega
        have hm := (ready_push hl hs hi' false).1 hi
        have h1 := h.2 i hm
        have hx : ops[i]? = some ops[i] := by simp [hi']
        have hg := (hl.back i _ hx).1
        have hw : Region.wanted ops[i] (yielded ops a.tmps) = true := by simp [Region.wanted, hg]
        unfold wpOp at h1
        simp only [hx] at h1
        rw [if_pos hw] at h1
        have hset : (listed.push false).setIfInBounds i true = (listed.setIfInBounds i true).push false := by
          apply Array.ext'
          have h9 : i < listed.toList.length := by simp; omega
          simp [List.set_append_left _ _ h9]
        have hx' : (ops.push o)[i]? = some ops[i] := by simp [Array.getElem?_push, hi', Nat.ne_of_lt hi']
        have hw' : Region.wanted ops[i] (yielded (ops.push o) a.tmps) = true := by simp [Region.wanted, hg]
        unfold wpOp
        simp only [hx']
        rw [if_pos hw', hset]
        rcases h1 with h1 | ⟨h1, h2⟩
        · exact .inl (upon_last (fun a' w' h3 => ih _ a' w' (by simp [hs]) (hcl.set hm) h3) h1)
        · exact .inr ⟨h1, by obtain ⟨a', w', h3⟩ := h2; exact ⟨a', w', h3⟩⟩
/-- The same, as a test. -/
def lastB (md : Region.Mode) (ops : List Oper) (o : Oper) : Bool :=
  ((List.range ops.length).all fun j => match ops[j]? with | some x => x.guard.isNone && x.after.all (fun e => decide (e.on < j)) | none => false) && o.guard.isNone && o.after.all (fun e => decide (e.on < ops.length)) && (List.range ops.length).all fun j => o.after.any (fun e => Region.binds md e && (e.on == j)) || (List.range ops.length).any fun k => decide (j < k) && (match ops[k]? with | some x => x.after.any (fun e => Region.binds md e && (e.on == j)) | none => false)
theorem lastB_spec {l : List Oper} (h : lastB md l o = true) : LastOne md l.toArray o := by
  unfold lastB at h
  simp only [Bool.and_eq_true, List.all_eq_true, List.mem_range, Option.isNone_iff_eq_none, Array.all_eq_true', decide_eq_true_eq, Array.any_eq_true', beq_iff_eq, Bool.or_eq_true, List.any_eq_true] at h
  obtain ⟨⟨⟨h1, h2⟩, h3⟩, h4⟩ := h
  refine ⟨fun j x hx => ?_, ⟨h2, fun e he => by simpa using h3 e he⟩, fun j hj => ?_⟩
  · have hx' : l[j]? = some x := by simpa using hx
    have hj : j < l.length := (List.getElem?_eq_some_iff.1 hx').1
    have := h1 j hj
    rw [hx'] at this
    simp only [Bool.and_eq_true, Option.isNone_iff_eq_none, Array.all_eq_true', decide_eq_true_eq] at this
    exact this
  · rcases h4 j (by simpa using hj) with ⟨e, he, h5, h6⟩ | ⟨k, hk, hjk, h7⟩
    · exact .inl ⟨e, he, h5, h6⟩
    · cases hx : l[k]? with
      | none => rw [hx] at h7; simp at h7
      | some x =>
        rw [hx] at h7
        simp only [Array.any_eq_true', Bool.and_eq_true, beq_iff_eq] at h7
        obtain ⟨e, he, h5, h6⟩ := h7
        exact .inr ⟨k, x, hjk, by simpa using hx, e, he, h5, h6⟩
theorem wp_region_last {S : World → Prop} {id : Nat} {l : List Oper} {a : Act} {w : World} (n : Nat) (hm : P.follows .mixedOrders = true) (hn : l.take n ++ [o] = l) (hB : lastB .any (l.take n) o = true) (hS : S w.drew)
    (h : S w.drew → wpAnyH P .any (l.take n).toArray (lastQ P o Q) S (l.take n).toArray.size (Array.replicate (l.take n).toArray.size false) a w.drew) : (Code.region id l.toArray true).wp P Q a w := by
  refine wp_region_any hm ?_
  have := wpAny_last (Q := Q) (lastB_spec hB) _ _ a w.drew (by simp) (fun j x hx hj => by
    have hlt := (Array.getElem?_eq_some_iff.1 hx).1
    have hlt' : j < (l.take n).toArray.size := hlt
    have h9 : (Array.replicate (l.take n).toArray.size false).getD j true = false := by rw [Array.getD_eq_getD_getElem?, Array.getElem?_replicate, if_pos hlt']; rfl
    rw [h9] at hj
    cases hj) (wpAny_of_held _ _ _ _ (h hS))
  have e1 : (l.take n).toArray.push o = l.toArray := by simp [hn]
  have e2 : (Array.replicate (l.take n).toArray.size false).push false = Array.replicate l.toArray.size false := by
    rw [← e1, ← Array.replicate_succ]; simp
  have e3 : (l.take n).toArray.size + 1 = l.toArray.size := by rw [← e1]; simp
  rw [e1, e2, e3] at this
  exact this
end
end Go.Proofs.YthopmdfichfhdaaGreatDoor
