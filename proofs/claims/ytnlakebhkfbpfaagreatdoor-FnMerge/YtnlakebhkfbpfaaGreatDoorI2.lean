/-
  What impl's isWithin, meets, areEntries, areLayers answer. No statement of the seat is proved here.
-/
import Derived.Test.YtnlakebhkfbpfaaGreatDoorI1
import Derived.Test.YtnlakebhkfbpfaaGreatDoorH5a
namespace Go.Proofs.YtnlakebhkfbpfaaGreatDoor
open Go.ChangeShapes Go.WideShapes Go.ChangeAt Go.RowKit
set_option linter.unusedVariables false

def preB (p q : ByteArray) : Bool := decide (q.size ≤ p.size) && ((p.extract 0 q.size).toList == q.toList)
theorem pre_self (p : ByteArray) : preB p p = true := by
  unfold preB
  have : (p.extract 0 p.size).toList = p.toList := by
    rw [toList_data, toList_data, Lib.extract_data]
    exact List.take_of_length_le (by simp)
  rw [this]; simp
theorem within_no {p q : ByteArray} (h : preB p q = false) : withinB p q = false := by
  unfold withinB
  have h1 : (p.toList == q.toList) = false := by
    rw [beq_bytes]
    refine decide_eq_false (fun e => ?_)
    subst e
    rw [pre_self] at h; cases h
  rw [h1]
  unfold preB at h
  by_cases h2 : q.size < p.size
  · rw [decide_eq_true (show q.size ≤ p.size by omega), Bool.true_and] at h
    rw [h]; simp
  · rw [decide_eq_false h2]; simp
theorem within_eq {p q : ByteArray} (h : preB p q = true) (hs : ¬ q.size < p.size) : withinB p q = true := by
  unfold preB at h
  simp only [Bool.and_eq_true, decide_eq_true_eq] at h
  have hz : q.size = p.size := by omega
  have : (p.extract 0 q.size).toList = p.toList := by
    rw [toList_data, toList_data, Lib.extract_data, hz]
    exact List.take_of_length_le (by simp)
  rw [this] at h
  unfold withinB
  rw [h.2]; rfl
theorem within_more {p q : ByteArray} (h : preB p q = true) (hs : q.size < p.size) : withinB p q = decide (byteAt p q.size = 46) := by
  unfold preB at h
  simp only [Bool.and_eq_true, decide_eq_true_eq] at h
  have h1 : (p.toList == q.toList) = false := by
    rw [beq_bytes]
    refine decide_eq_false (fun e => ?_)
    subst e; omega
  unfold withinB
  rw [h1, h.2, decide_eq_true hs]; simp
set_option maxRecDepth 100000 in
set_option maxHeartbeats 1000000 in
theorem implWithin (p q : ByteArray) (hp : p.size ≤ 1048576) (hq : q.size ≤ 1048576) (w : World) :
    Calls Tryz.prog 87 #[.agg #[.string p], .string q] w fun e w' => e = .returned (.bool (withinB p q)) ∧ Below w.heap.size w w' := by
  have hw1 : ∀ o, Below w.heap.size w (w.alloc o) := fun o => (Below.refl _ w).alloc (Nat.le_refl _) _
  have cc := fun w => Tryz.strings_CutPrefix p q w
  rw [← Lib.hasPrefix_raw] at cc
  cases hB : preB p q
  · have hB' := hB
    unfold preB at hB'
    rw [hB', Lib.trimPrefix_miss p q hB'] at cc
    rw [within_no hB]
    clear hB hB'
    go_enter Tryz.func87, Tryz.ntmps87
    go_wp2_with (go_at_call 108; go_must (refine (cc _).mono ?_; rintro e w1 ⟨rfl, rfl⟩))
    go_ret
    exact ⟨rfl, hw1 _⟩
  · have hB' := hB
    unfold preB at hB'
    have hB2 := hB'
    simp only [Bool.and_eq_true, decide_eq_true_eq] at hB2
    rw [hB', Lib.trimPrefix_hit p q hB2.1 hB2.2] at cc
    have hRl : (p.extract q.size p.size).data.toList = p.data.toList.drop q.size := by
      rw [Lib.extract_data]
      exact List.take_of_length_le (by simp)
    by_cases hs : q.size < p.size
    · rw [within_more hB hs]
      have hR0 : 0 < (p.extract q.size p.size).size := by simp only [ByteArray.size_extract]; omega
      have hRx : (p.extract q.size p.size)[0].toNat = byteAt p q.size := by
        unfold byteAt
        rw [dif_pos hs]
        have h1 := byt_list (p.extract q.size p.size) 0 hR0
        rw [hRl, List.getElem?_drop, Nat.add_zero, byt_list p q.size hs] at h1
        simp only [Option.some.injEq] at h1
        rw [h1]
      have hRz : (p.extract q.size p.size).size ≤ 1048576 := by simp only [ByteArray.size_extract]; omega
      have hRe : ((p.extract q.size p.size).toList == []) = false := by
        rw [toList_data, hRl, beq_eq_false_iff_ne]
        intro e
        have := congrArg List.length e
        simp at this
        omega
      obtain ⟨x, hx⟩ : ∃ x, byteAt p q.size = x := ⟨_, rfl⟩
      rw [hx] at hRx ⊢
      generalize p.extract q.size p.size = R at cc hR0 hRx hRz hRe
      have hR0' : (0 : Int) < (R.size : Int) := by omega
      have hRz' : (R.size : Int) ≤ 1048576 := by omega
      clear hB hB' hB2 hRl hx hs hp hq
      by_cases hx46 : x = 46
      · subst hx46
        go_enter Tryz.func87, Tryz.ntmps87
        go_wp2_with (go_at_call 108; go_must (refine (cc _).mono ?_; rintro e w1 ⟨rfl, rfl⟩))
        go_ret
        exact ⟨by simp, hw1 _⟩
      · have hxb : ((x : Int) == 46) = false := by rw [beq_eq_false_iff_ne]; omega
        rw [decide_eq_false hx46]
        go_enter Tryz.func87, Tryz.ntmps87
        go_wp2_with (go_at_call 108; go_must (refine (cc _).mono ?_; rintro e w1 ⟨rfl, rfl⟩))
        go_ret
        exact ⟨by simp, hw1 _⟩
    · rw [within_eq hB hs]
      have hRe : ((p.extract q.size p.size).toList == []) = true := by
        rw [toList_data, hRl]
        simp; omega
      generalize p.extract q.size p.size = R at cc hRe
      clear hB hB' hB2 hRl hs hp hq
      go_enter Tryz.func87, Tryz.ntmps87
      go_wp2_with (go_at_call 108; go_must (refine (cc _).mono ?_; rintro e w1 ⟨rfl, rfl⟩))
      go_ret
      exact ⟨by simp, hw1 _⟩
set_option maxRecDepth 100000 in
theorem implMeets (p q : ByteArray) (hp : p.size ≤ 1048576) (hq : q.size ≤ 1048576) (w : World) :
    Calls Tryz.prog 58 #[.agg #[.string p], .string q] w fun e w' => e = .returned (.bool (withinB p q || withinB q p)) ∧ Below w.heap.size w w' := by
  have hw1 : ∀ o, Below w.heap.size w (w.alloc o) := fun o => (Below.refl _ w).alloc (Nat.le_refl _) _
  have c1 := fun w => implWithin p q hp hq w
  have c2 := fun w => implWithin q p hq hp w
  have hbk : Blk (w.alloc (.cells #[.string p] 48)) w.heap.size 48 #[.string p] := heap_alloc_last w _
  have HBK : Hid (Blk (w.alloc (.cells #[.string p] 48)) w.heap.size 48 #[.string p]) := hbk
  obtain ⟨A, hA⟩ : ∃ A, withinB p q = A := ⟨_, rfl⟩
  obtain ⟨B, hB⟩ : ∃ B, withinB q p = B := ⟨_, rfl⟩
  rw [hA] at c1 ⊢
  rw [hB] at c2 ⊢
  clear hA hB hbk
  cases A
  · go_enter Tryz.func58, Tryz.ntmps58
    go_wp2_with (first
      | (go_at_call 87; have hchk := hb1; (refine (c2 _).mono ?_; rintro e w2 ⟨rfl, hb2⟩))
      | (go_at_call 87; go_must (refine (c1 _).mono ?_; rintro e w1 ⟨rfl, hb1⟩; have hk1 := Blk.below HBK.out hb1; have e0 := hk1.cell 0; simp at e0)))
    go_ret
    exact ⟨by simp, good_below (good_below (hw1 _) hb1) hb2⟩
  · go_enter Tryz.func58, Tryz.ntmps58
    go_wp2_with (go_at_call 87; go_must (refine (c1 _).mono ?_; rintro e w1 ⟨rfl, hb1⟩))
    go_ret
    exact ⟨by simp, good_below (hw1 _) hb1⟩

/-! Entries and layers that are right, as the program asks. -/
theorem has_of {α : Type} (f : α → ByteArray) (l : List α) (i : Nat) (t : ByteArray) : hasB ((l.map f).take i) t = (l.take i).any fun q => (f q).toList == t.toList := by
  unfold hasB
  rw [← List.map_take, List.any_map]
  rfl
theorem range_split {α : Type} (f : α → ByteArray) (g : α → Bool) (l : List α) : rangeB (fun pre x => g x && !(pre.any fun q => (f q).toList == (f x).toList)) l = (l.all g && !dupFrom (l.map f) []) := by
  cases ha : l.all g
  · rw [List.all_eq_false] at ha
    obtain ⟨x, hx, hb⟩ := ha
    obtain ⟨i, hi, rfl⟩ := List.getElem_of_mem hx
    exact range_bad hi (by rw [Bool.eq_false_iff.2 hb]; rfl)
  · cases hd : dupFrom (l.map f) []
    · refine range_all (fun i hi => ?_)
      rw [List.all_eq_true] at ha
      rw [ha _ (List.getElem_mem hi), Bool.true_and, ← has_of, Bool.not_eq_true']
      cases hh : hasB ((l.map f).take i) (f l[i])
      · rfl
      · have := (dup_iff (l.map f) []).2 ⟨i, by simpa using hi, by simpa using hh⟩
        rw [hd] at this; cases this
    · obtain ⟨i, hi, h⟩ := (dup_iff (l.map f) []).1 hd
      have hi' : i < l.length := by simpa using hi
      refine range_bad hi' ?_
      rw [← has_of]
      simp at h
      rw [h]; simp
theorem entries_split (nameB : ByteArray → Bool) (es : List Entry) : entriesB nameB es = (es.all (fun e => decide (e.text.size ≤ 200)) && ((es.map Entry.path).all (pathB nameB) && !dupFrom (es.map Entry.path) [])) := by
  have h := range_split Entry.path (fun e => pathB nameB e.path && decide (e.text.size ≤ 200)) es
  unfold entriesB
  rw [show entryB nameB = fun pre x => (pathB nameB x.path && decide (x.text.size ≤ 200)) && !(pre.any fun q => q.path.toList == x.path.toList) from rfl, h]
  rw [← Bool.and_assoc]
  congr 1
  rw [List.all_map]
  induction es with
  | nil => rfl
  | cons a t ih =>
    simp only [List.all_cons, Function.comp]
    rw [show (t.all fun e => pathB nameB e.path && decide (e.text.size ≤ 200)) = ((t.all fun e => decide (e.text.size ≤ 200)) && t.all (pathB nameB ∘ Entry.path)) from ih (range_split _ _ _)]
    cases pathB nameB a.path <;> cases decide (a.text.size ≤ 200) <;> simp [Function.comp_def]
theorem layers_split (nameB : ByteArray → Bool) (l : List Layer) (h20 : l.length ≤ 20) : layersB nameB l = (l.all (fun x => decide (x.entries.length ≤ 100) && entriesB nameB x.entries) && ((l.map Layer.name).all nameB && !dupFrom (l.map Layer.name) [])) := by
  have h := range_split Layer.name (fun x => nameB x.name && (decide (x.entries.length ≤ 100) && entriesB nameB x.entries)) l
  unfold layersB
  rw [decide_eq_true h20, Bool.true_and]
  have e : layerB nameB = fun pre x => (nameB x.name && (decide (x.entries.length ≤ 100) && entriesB nameB x.entries)) && !(pre.any fun q => q.name.toList == x.name.toList) := by
    funext pre x
    unfold layerB
    cases nameB x.name <;> cases decide (x.entries.length ≤ 100) <;> cases (pre.any fun q => q.name.toList == x.name.toList) <;> cases entriesB nameB x.entries <;> rfl
  rw [e, h, ← Bool.and_assoc]
  congr 1
  rw [List.all_map]
  clear h h20 e
  induction l with
  | nil => rfl
  | cons a t ih =>
    simp only [List.all_cons, Function.comp]
    rw [ih]
    cases nameB a.name <;> cases (decide (a.entries.length ≤ 100) && entriesB nameB a.entries) <;> simp [Function.comp_def]
end Go.Proofs.YtnlakebhkfbpfaaGreatDoor
