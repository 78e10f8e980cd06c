/-
  What spec asks of bindings. No statement of the seat is proved here.
-/
import Derived.Test.YtokolklaamfedaaDoorB2
import Derived.Test.YtokolklaamfedaaDoorNameWalks
import Derived.Deep.Cut
import Derived.Deep.CutRange
namespace Go.Proofs.YtokolklaamfedaaDoor
open Go.ChangeShapes Go.WideShapes Go.ChangeAt Go.RowKit
set_option linter.unusedVariables false

/-- What spec.NameOK answers, whatever it is. -/
def NameSpec (nameB : ByteArray → Bool) : Prop := ∀ (s : ByteArray) (w : World), Calls Tryd.prog 10 #[.string s] w fun e w' => e = .returned (.bool (nameB s)) ∧ Below w.heap.size w w'
theorem specName : NameSpec nameOK := fun s w => specNameOK s w

def tagB (nameB : ByteArray → Bool) (t : ByteArray) : Bool := t.toList == [] || nameB t
def wantB (nameB : ByteArray → Bool) (x : Wnt) : Bool := nameB x.key && tagB nameB x.tag && decide (1 ≤ x.mode) && decide (x.mode ≤ 4)
set_option maxRecDepth 100000 in
theorem specTag {nameB : ByteArray → Bool} (hN : NameSpec nameB) (t : ByteArray) (w : World) : Calls Tryd.prog 11 #[.string t] w fun e w' => e = .returned (.bool (tagB nameB t)) ∧ Below w.heap.size w w' := by
  have cn := fun w => hN t w
  clear hN
  unfold tagB
  cases h : (t.toList == [])
  · obtain ⟨b, hb⟩ : ∃ b, nameB t = b := ⟨_, rfl⟩
    rw [hb] at cn ⊢
    clear hb
    go_enter Tryd.func11, Tryd.ntmps11
    go_wp2_with (go_at_call 10; go_must (refine (cn _).mono ?_; rintro e w1 ⟨rfl, hb1⟩))
    go_ret
    exact ⟨by simp, hb1⟩
  · go_enter Tryd.func11, Tryd.ntmps11
    go_wp2_with (go_at_call 10; go_must (refine (cn _).mono ?_; rintro e w1 ⟨rfl, hb1⟩))
    go_ret
    exact ⟨by simp, Below.refl _ _⟩
set_option maxRecDepth 100000 in
theorem specWant {nameB : ByteArray → Bool} (hN : NameSpec nameB) (ky tg : ByteArray) (md : Int) (w : World) :
    Calls Tryd.prog 13 #[.agg #[.string ky, .string tg, .int .i64 md]] w fun e w' => e = .returned (.bool (wantB nameB ⟨ky, tg, md⟩)) ∧ Below w.heap.size w w' := by
  have hw1 : ∀ o, Below w.heap.size w (w.alloc o) := fun o => (Below.refl _ w).alloc (Nat.le_refl _) _
  have cn := fun w => hN ky w
  have ct := fun w => specTag hN tg w
  clear hN
  unfold wantB
  dsimp only
  obtain ⟨b, hb⟩ : ∃ b, nameB ky = b := ⟨_, rfl⟩
  obtain ⟨c, hc⟩ : ∃ c, tagB nameB tg = c := ⟨_, rfl⟩
  rw [hb] at cn ⊢
  rw [hc] at ct ⊢
  clear hb hc
  cases b
  · go_enter Tryd.func13, Tryd.ntmps13
    go_wp2_with (go_at_call 10; go_must (refine (cn _).mono ?_; rintro e w1 ⟨rfl, hb1⟩))
    go_ret
    exact ⟨by simp, good_below (hw1 _) hb1⟩
  cases c
  · go_enter Tryd.func13, Tryd.ntmps13
    go_wp2_with (first
      | (go_at_call 10; go_must (refine (cn _).mono ?_; rintro e w1 ⟨rfl, hb1⟩; have hk : Blk w1 w.heap.size 39 #[.string ky, .string tg, .int .i64 md] := Blk.below (heap_alloc_last w _) hb1; have e1 := hk.cell 1; simp at e1))
      | (go_at_call 11; go_must (refine (ct _).mono ?_; rintro e w2 ⟨rfl, hb2⟩)))
    go_ret
    exact ⟨by simp, good_below (good_below (hw1 _) hb1) hb2⟩
  · go_enter Tryd.func13, Tryd.ntmps13
    go_wp2_with (first
      | (go_at_call 10; go_must (refine (cn _).mono ?_; rintro e w1 ⟨rfl, hb1⟩; have hk : Blk w1 w.heap.size 39 #[.string ky, .string tg, .int .i64 md] := Blk.below (heap_alloc_last w _) hb1; have e1 := hk.cell 1; simp at e1))
      | (go_at_call 11; go_must (refine (ct _).mono ?_; rintro e w2 ⟨rfl, hb2⟩; have hk2 := hk.below hb2; have e2 := hk2.cell 2; simp at e2)))
    all_goals
      go_ret
      refine ⟨congrArg (fun b => Ending.returned (Value.bool b)) ?_, good_below (good_below (hw1 _) hb1) hb2⟩
      simp
      try omega
/-- Its first byte is a mark. -/
def markB (t : ByteArray) : Bool := if h : 0 < t.size then ((t[0].toNat : Int) == 33) else false
def whenB (nameB : ByteArray → Bool) (t : ByteArray) : Bool := t.toList == [] || nameB t || (markB t && nameB (t.extract 1 t.size))
theorem some_byte {t : ByteArray} (h : (t.toList == []) = false) : 0 < t.size := by
  rcases Nat.eq_zero_or_pos t.size with q | q
  · exfalso
    have : t.data.toList = [] := by
      apply List.eq_nil_of_length_eq_zero
      simpa using q
    rw [ByteArray.toList_eq, this] at h
    cases h
  · exact q
set_option maxRecDepth 100000 in
theorem specWhen {nameB : ByteArray → Bool} (hN : NameSpec nameB) (t : ByteArray) (hz : t.size ≤ 1048576) (w : World) : Calls Tryd.prog 12 #[.string t] w fun e w' => e = .returned (.bool (whenB nameB t)) ∧ Below w.heap.size w w' := by
  have cn := fun s w => hN s w
  clear hN
  have hz' : (t.size : Int) ≤ 1048576 := by omega
  unfold whenB
  cases h : (t.toList == [])
  · have h1 := some_byte h
    have hmk : markB t = ((t[0].toNat : Int) == 33) := by unfold markB; rw [dif_pos h1]
    have h1' : (1 : Int) ≤ (t.size : Int) := by omega
    have h2 : 1 ≤ t.size := h1
    rw [hmk]
    have HMK : Hid _ := hmk
    clear hmk
    cases hb : nameB t
    · go_enter Tryd.func12, Tryd.ntmps12
      go_upto_region 3 with (go_at_call 10; go_must (refine (cn _ _).mono ?_; rintro e w1 ⟨rfl, hb1⟩))
      go_wp2_with (go_at_call 10; go_must (refine (cn _ _).mono ?_; rintro e w2 ⟨rfl, hb2⟩))
      · go_ret
        exact ⟨by simp_all, good_below hb1 hb2⟩
      · go_ret
        exact ⟨by simp_all, hb1⟩
    · go_enter Tryd.func12, Tryd.ntmps12
      go_wp2_with (go_at_call 10; go_must (refine (cn _ _).mono ?_; rintro e w1 ⟨rfl, hb1⟩))
      go_ret
      exact ⟨by simp, hb1⟩
  · go_enter Tryd.func12, Tryd.ntmps12
    go_wp2_with (go_at_call 10; go_must (refine (cn _ _).mono ?_; rintro e w1 ⟨rfl, hb1⟩))
    go_ret
    exact ⟨by simp, Below.refl _ _⟩
theorem mark_name {t : ByteArray} (h : markB t = true) : nameOK t = false := by
  unfold markB at h
  split at h
  · rename_i h0
    have hb : byt t 0 = 33 := by
      unfold byt
      simp only [beq_iff_eq] at h
      have h2 : t[0].toNat = 33 := by omega
      have h3 : t.get! 0 = t[0] := by
        show t.data[0]! = t.data[0]
        exact getElem!_pos t.data 0 h0
      rw [h3]; exact h2
    have hd : (Utf8.decode t 0).1 = 33 := by
      rw [decode_byt, hb]
      unfold Lib.decodeN
      simp
      try omega
    have hw : wordEnd t 0 = 0 := by
      unfold wordEnd
      rw [if_neg]
      intro hc
      have := hc.2
      rw [hd] at this
      exact absurd this (by decide)
    unfold nameOK
    rw [hw]
    have : decide (0 = t.size) = false := decide_eq_false (by omega)
    rw [this]
    simp
  · cases h
/-- A binding by itself. -/
def bndB (nameB : ByteArray → Bool) (x : Bnd) : Bool := nameB x.name && nameB x.key && tagB nameB x.tag && (decide (1 ≤ x.scope) && decide (x.scope ≤ 3)) && decide (x.needs.length ≤ 8) && x.needs.all (wantB nameB) && whenB nameB x.cond
def bindsB (nameB : ByteArray → Bool) (l : List Bnd) : Bool := decide (l.length ≤ 60) && (List.range l.length).all fun i => match l[i]? with | some x => bndB nameB x && !((l.take i).any fun q => q.name.toList == x.name.toList) | none => true
theorem binds_bad {nameB : ByteArray → Bool} {l : List Bnd} {i : Nat} (hi : i < l.length) (h : (bndB nameB l[i] && !((l.take i).any fun q => q.name.toList == l[i].name.toList)) = false) : bindsB nameB l = false := by
  unfold bindsB
  rw [Bool.and_eq_false_iff]
  refine .inr ?_
  rw [List.all_eq_false]
  refine ⟨i, by simpa using hi, ?_⟩
  rw [List.getElem?_eq_getElem hi]
  dsimp only
  rw [h]; simp
theorem binds_good {nameB : ByteArray → Bool} {l : List Bnd} (h2 : l.length ≤ 60) (h : ∀ i (hi : i < l.length), (bndB nameB l[i] && !((l.take i).any fun q => q.name.toList == l[i].name.toList)) = true) : bindsB nameB l = true := by
  unfold bindsB
  rw [decide_eq_true h2, Bool.true_and, List.all_eq_true]
  intro i hi
  have hi : i < l.length := by simpa using hi
  rw [List.getElem?_eq_getElem hi]
  exact h i hi
end Go.Proofs.YtokolklaamfedaaDoor
