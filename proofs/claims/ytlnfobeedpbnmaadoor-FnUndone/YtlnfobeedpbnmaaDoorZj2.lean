/-
  The contracts of spec.NameOK and impl.NameOK: both answer 'nameOK'. impl.NameOK under the two tables of unicode/utf8 as they are laid. What spec.l11Find, l00Has answer. What spec.SagaOK answers. A saga on its way as plain data: what is asked, what a message does. The document's run of a saga as it lies in memory. What the document's any, ready, command and drop do. What the document's drop does. What the document's on does. No statement of the seat is proved here.
-/
import Derived.Test.YtlnfobeedpbnmaaDoorZj1
import Derived.Deep.CutRange
import Derived.Deep.RegionHeld3
import Derived.Deep.Cut
namespace Go.Proofs.YtlnfobeedpbnmaaDoor
open Go.ChangeShapes Go.WideShapes Go.ChangeAt Go.RowKit
set_option linter.unusedVariables false

def nameOK (s : ByteArray) : Bool := decide (0 < s.size) && decide (s.size ≤ 40) && decide (wordEnd s 0 = s.size) && !hasB resList s

set_option maxRecDepth 100000 in
set_option maxHeartbeats 400000 in
theorem specNameOK (s : ByteArray) (w : World) :
    Calls Tryd.prog 27 #[.string s] w fun e w' => e = .returned (.bool (nameOK s)) ∧ Below w.heap.size w w' := by
  by_cases h0 : s.size = 0
  · have e : nameOK s = false := by simp [nameOK, h0]
    rw [e]
    have h1 : (s.size : Int) = 0 := by omega
    go_enter Tryd.func27, Tryd.ntmps27
    go_wp2_with fail
    go_ret
    exact ⟨rfl, Below.refl _ _⟩
  by_cases h1 : 40 < s.size
  · have e : nameOK s = false := by
      have : decide (s.size ≤ 40) = false := by simp; omega
      simp [nameOK, this]
    rw [e]
    have h2 : (40 : Int) < (s.size : Int) := by omega
    go_enter Tryd.func27, Tryd.ntmps27
    go_wp2_with fail
    go_ret
    exact ⟨rfl, Below.refl _ _⟩
  obtain ⟨E, hE⟩ : ∃ E, wordEnd s 0 = E := ⟨_, rfl⟩
  obtain ⟨B, hB⟩ : ∃ B, hasB resList s = B := ⟨_, rfl⟩
  have c1 : ∀ w, Calls Tryd.prog 40 #[.string s, .int .i64 0] w fun e w' => e = .returned (.int .i64 (E : Int)) ∧ Below w.heap.size w w' := by
    intro w
    have := specWord s 0 (by omega) (by omega) w
    rw [hE] at this
    simpa using this
  have c2 := specReserved s
  rw [hB] at c2
  have e : nameOK s = (decide (E = s.size) && !B) := by
    have a1 : decide (0 < s.size) = true := by simp; omega
    have a2 : decide (s.size ≤ 40) = true := by simp; omega
    simp [nameOK, a1, a2, hE, hB]
  rw [e]
  clear hE hB e
  have p1 : (0 : Int) < (s.size : Int) := by omega
  have p2 : (s.size : Int) ≤ 40 := by omega
  by_cases hEs : (E : Int) = (s.size : Int)
  · have e2 : E = s.size := by omega
    have e3 : decide (E = s.size) = true := by simp [e2]
    have q : ((E : Int) == (s.size : Int)) = true := by simp [e2]
    rw [e3]
    clear e2 e3 hEs
    go_enter Tryd.func27, Tryd.ntmps27
    go_wp2_with (first | (go_at_call 40; go_must (refine (c1 _).mono ?_; rintro e w1 ⟨rfl, hB1⟩)) | (go_at_call 41; go_must (refine (c2 _).mono ?_; rintro e w2 ⟨rfl, hB2⟩)))
    go_ret
    refine ⟨?_, hB1.trans (hB2.mono hB1.size)⟩
    cases B <;> rfl
  · have e3 : decide (E = s.size) = false := by simp; omega
    have q : ((E : Int) == (s.size : Int)) = false := by simp; omega
    rw [e3]
    clear e3 hEs
    go_enter Tryd.func27, Tryd.ntmps27
    go_wp2_with (first | (go_at_call 40; go_must (refine (c1 _).mono ?_; rintro e w1 ⟨rfl, hB1⟩)) | (go_at_call 41; go_must (refine (c2 _).mono ?_; rintro e w2 ⟨rfl, hB2⟩)))
    go_ret
    exact ⟨rfl, hB1⟩

theorem word_of_end (s : ByteArray) (h : 0 < s.size) : decide (wordEnd s 0 = s.size) = (isLet ((Utf8.decode s 0).1 : Int) && decide (endOf isNam s 0 = s.size)) := by
  unfold wordEnd
  cases hl : isLet ((Utf8.decode s 0).1 : Int)
  · rw [if_neg (by simp)]; simp; omega
  · rw [if_pos ⟨h, rfl⟩, endOf_on (f := isNam) h (by simp [isNam, hl])]
    simp

set_option maxRecDepth 100000 in
set_option maxHeartbeats 400000 in
theorem implNameOK (s : ByteArray) (w : World) (hT : Lib.Utf8Tabs 0 1 w) :
    Calls Tryd.prog 45 #[.string s] w fun e w' => e = .returned (.bool (nameOK s)) ∧ Below w.heap.size w w' := by
  by_cases h0 : s.size = 0
  · have e : nameOK s = false := by simp [nameOK, h0]
    rw [e]
    clear hT
    have h1 : (s.size : Int) = 0 := by omega
    go_enter Tryd.func45, Tryd.ntmps45
    go_wp2_with fail
    go_ret
    exact ⟨rfl, Below.refl _ _⟩
  by_cases h1 : 40 < s.size
  · have e : nameOK s = false := by
      have : decide (s.size ≤ 40) = false := by simp; omega
      simp [nameOK, this]
    rw [e]
    clear hT
    have h2 : (40 : Int) < (s.size : Int) := by omega
    go_enter Tryd.func45, Tryd.ntmps45
    go_wp2_with fail
    go_ret
    exact ⟨rfl, Below.refl _ _⟩
  have c0 := implReserved s
  have hr := runeAt_in (s := s) (i := 0) (by omega) (by omega)
  have c1 := fun w hT => implRuneAt s 0 w hT
  have hr' : runeAt s 0 = (((Utf8.decode s 0).1 : Int), ((Utf8.decode s 0).2 : Int)) := hr
  rw [hr'] at c1
  have c2 := implLetter ((Utf8.decode s 0).1 : Int)
  have c3 : ∀ w, Calls Tryd.prog 63 #[.string s, .int .i64 0, .func (.func 64) #[] #[]] w fun e w' => e = .returned (.int .i64 (endOf isNam s 0)) ∧ Below w.heap.size w w' := fun w => runEndNam s 0 (by omega) (by omega) w
  have hw := word_of_end s (by omega)
  obtain ⟨B, hB⟩ : ∃ B, hasB resList s = B := ⟨_, rfl⟩
  obtain ⟨E, hE⟩ : ∃ E, endOf isNam s 0 = E := ⟨_, rfl⟩
  have e : nameOK s = (isLet ((Utf8.decode s 0).1 : Int) && decide (E = s.size) && !B) := by
    have a1 : decide (0 < s.size) = true := by simp; omega
    have a2 : decide (s.size ≤ 40) = true := by simp; omega
    simp only [nameOK, a1, a2, hB, hw, hE, Bool.true_and]
  rw [e]
  rw [hB] at c0
  rw [hE] at c3
  obtain ⟨R, hR⟩ : ∃ R, (Utf8.decode s 0).1 = R := ⟨_, rfl⟩
  obtain ⟨K, hK⟩ : ∃ K, (Utf8.decode s 0).2 = K := ⟨_, rfl⟩
  rw [hR] at c1 c2 ⊢
  rw [hK] at c1
  obtain ⟨Lb, hL⟩ : ∃ L, isLet (R : Int) = L := ⟨_, rfl⟩
  rw [hL] at c2 ⊢
  have HT : Hid (Lib.Utf8Tabs 0 1 w) := hT
  clear hE hB e hw hr hr' hR hK hL hT
  have p1 : ((s.size : Int) == 0) = false := by rw [beq_eq_false_iff_ne]; omega
  have p2 : (s.size : Int) ≤ 40 := by omega
  cases B
  · cases Lb
    · go_enter Tryd.func45, Tryd.ntmps45
      go_wp2_with (first | (go_at_call 60; go_must (refine (c0 _).mono ?_; rintro e w1 ⟨rfl, rfl⟩)) | (go_at_call 61; go_must (refine (c1 _ HT.out).mono ?_; rintro e w2 ⟨rfl, hB2⟩)) | (go_at_call 62; go_must (refine (c2 _).mono ?_; rintro e w' ⟨rfl, rfl⟩)) | (go_at_call 63; go_must (refine (c3 _).mono ?_; rintro e w3 ⟨rfl, hB3⟩)))
      go_ret
      exact ⟨rfl, hB2⟩
    · go_enter Tryd.func45, Tryd.ntmps45
      go_wp2_with (first | (go_at_call 60; go_must (refine (c0 _).mono ?_; rintro e w1 ⟨rfl, rfl⟩)) | (go_at_call 61; go_must (refine (c1 _ HT.out).mono ?_; rintro e w2 ⟨rfl, hB2⟩)) | (go_at_call 62; go_must (refine (c2 _).mono ?_; rintro e w' ⟨rfl, rfl⟩)) | (go_at_call 63; go_must (refine (c3 _).mono ?_; rintro e w3 ⟨rfl, hB3⟩)))
      go_ret
      refine ⟨?_, hB2.trans (hB3.mono hB2.size)⟩
      refine congrArg (fun b => Ending.returned (Value.bool b)) ?_
      rw [Bool.eq_iff_iff]
      simp
      omega
  · have e4 : (Lb && decide (E = s.size) && !true) = false := by simp
    rw [e4]
    go_enter Tryd.func45, Tryd.ntmps45
    go_wp2_with (first | (go_at_call 60; go_must (refine (c0 _).mono ?_; rintro e w1 ⟨rfl, rfl⟩)))
    go_ret
    exact ⟨rfl, Below.refl _ _⟩
end Go.Proofs.YtlnfobeedpbnmaaDoor

namespace Go.Proofs.YtlnfobeedpbnmaaDoor
open Go.ChangeShapes Go.WideShapes Go.ChangeAt Go.RowKit
set_option linter.unusedVariables false
set_option linter.unusedSimpArgs false

/-- Where a text stands first, -1 if nowhere. -/
def findI : List ByteArray → ByteArray → Int
  | [], _ => -1
  | x :: l, t => if x.toList == t.toList then 0 else if findI l t < 0 then -1 else findI l t + 1
theorem findI_ge (l : List ByteArray) (t : ByteArray) : -1 ≤ findI l t ∧ findI l t < l.length := by
  induction l with
  | nil => simp [findI]
  | cons x l ih =>
    unfold findI
    split
    · simp <;> omega
    · split
      · simp <;> omega
      · simp <;> omega
theorem findI_has (l : List ByteArray) (t : ByteArray) : decide (0 ≤ findI l t) = hasB l t := by
  induction l with
  | nil => simp [findI, hasB]
  | cons x l ih =>
    unfold findI
    have h := findI_ge l t
    have hc : hasB (x :: l) t = ((x.toList == t.toList) || hasB l t) := by simp [hasB]
    rw [hc, ← ih]
    cases e : (x.toList == t.toList)
    · simp only [Bool.false_eq_true, if_false, Bool.false_or]
      split
      · rename_i h1
        rw [decide_eq_false (show ¬ ((0 : Int) ≤ -1) by omega), decide_eq_false (by omega)]
      · rw [decide_eq_true (by omega), decide_eq_true (by omega)]
    · simp
theorem findI_at {l : List ByteArray} {t : ByteArray} {k : Nat} (hk : k < l.length) (h0 : ∀ i (hi : i < l.length), i < k → (l[i].toList == t.toList) = false) (h1 : (l[k].toList == t.toList) = true) : findI l t = (k : Int) := by
  induction l generalizing k with
  | nil => simp at hk
  | cons x l ih =>
    cases k with
    | zero => unfold findI; simp only [List.getElem_cons_zero] at h1; rw [if_pos h1]; rfl
    | succ k =>
      have h2 := ih (k := k) (by simpa using hk) (fun i hi hik => by have := h0 (i + 1) (by simp; omega) (by omega); simpa using this) (by simpa using h1)
      have h3 := h0 0 (by simp) (by omega)
      unfold findI
      simp only [List.getElem_cons_zero] at h3
      rw [if_neg (by rw [h3]; simp), h2, if_neg (by omega)]
      omega
theorem findI_none {l : List ByteArray} {t : ByteArray} (h0 : ∀ i (hi : i < l.length), (l[i].toList == t.toList) = false) : findI l t = -1 := by
  have h := findI_ge l t
  have h1 := findI_has l t
  have : hasB l t = false := by
    unfold hasB
    rw [List.any_eq_false]
    intro x hx
    obtain ⟨i, hi, rfl⟩ := List.getElem_of_mem hx
    rw [h0 i hi]; simp
  rw [this] at h1
  simp only [decide_eq_false_iff_not] at h1
  omega
set_option maxRecDepth 100000 in
set_option maxHeartbeats 1000000 in
theorem specFind (ss : List ByteArray) (t : ByteArray) (a : Option Addr) (n cap : Nat) (w : World) (hn : ss.length = n) (hlen : n ≤ 2000000)
    (hc : 0 < n → ∃ b off, a = some ⟨b, off, none⟩ ∧ ∀ i (hi : i < ss.length), w.cell? ⟨b, off + i * 4, none⟩ = some (.string ss[i])) :
    Calls Tryd.prog 28 #[.slice a n cap, .string t] w fun e w' => e = .returned (.int .i64 (findI ss t)) ∧ w' = w := by
  have HC : Hid (0 < n → ∃ b off, a = some ⟨b, off, none⟩ ∧ ∀ i (hi : i < ss.length), w.cell? ⟨b, off + i * 4, none⟩ = some (.string ss[i])) := hc
  have HN : Hid (ss.length = n) := hn
  have hlen' : (n : Int) ≤ 2000000 := by omega
  clear hc hn
  obtain ⟨R, hR⟩ : ∃ R, findI ss t = R := ⟨_, rfl⟩
  rw [hR]
  have HR : Hid (findI ss t = R) := hR
  clear hR
  go_enter Tryd.func28, Tryd.ntmps28
  go_wp2_with fail
  go_loopw [5] (fun i5 wr => ∃ (k : Nat), i5 = .int .i64 (k : Int) ∧ k ≤ n ∧ (∀ i (hi : i < ss.length), i < k → (ss[i].toList == t.toList) = false) ∧ wr = w) (fun i5 _ => n - (intOf i5).toNat)
  case atStart => exact ⟨0, rfl, by omega, fun i _ h => by omega, rfl⟩
  case round =>
    obtain ⟨k, rfl, hk, hall, rfl⟩ := hrel
    have HA : Hid (∀ i (hi : i < ss.length), i < k → (ss[i].toList == t.toList) = false) := hall
    clear hall
    by_cases hkn : k < n
    · have hkn' : (k : Int) < (n : Int) := by omega
      have hks : k < ss.length := by rw [HN.out]; exact hkn
      obtain ⟨b, off, rfl, hcell⟩ := HC.out (by omega)
      have d1 := hcell k hks
      obtain ⟨x, hx⟩ : ∃ x, ss[k] = x := ⟨_, rfl⟩
      rw [hx] at d1
      have HX : Hid (ss[k] = x) := hx
      clear hx hcell
      by_cases he : (x.toList == t.toList) = true
      · go_wp2_with fail
        go_ret
        refine ⟨?_, rfl⟩
        rw [← HR.out, findI_at hks HA.out (by rw [HX.out]; exact he)]; rfl
      · have he' : (x.toList == t.toList) = false := by simpa using he
        clear he
        go_wp2_with fail
        refine ⟨⟨k + 1, rfl, by omega, fun i hi hik => ?_, by first | rfl | trivial⟩, by simp [intOf]; omega⟩
        by_cases e : i = k
        · subst e; rw [HX.out]; exact he'
        · exact HA.out i hi (by omega)
    · have hkn' : ¬ ((k : Int) < (n : Int)) := by omega
      go_wp2_with fail
      go_ret
      refine ⟨?_, rfl⟩
      rw [← HR.out, findI_none (fun i hi => HA.out i hi (by have := HN.out; omega))]; rfl
set_option maxRecDepth 100000 in
set_option maxHeartbeats 1000000 in
theorem specHasN (ss : List ByteArray) (t : ByteArray) (a : Option Addr) (n cap : Nat) (w : World) (hn : ss.length = n) (hlen : n ≤ 2000000)
    (hc : 0 < n → ∃ b off, a = some ⟨b, off, none⟩ ∧ ∀ i (hi : i < ss.length), w.cell? ⟨b, off + i, none⟩ = some (.string ss[i])) :
    Calls Tryd.prog 29 #[.slice a n cap, .string t] w fun e w' => e = .returned (.bool (hasB ss t)) ∧ w' = w := by
  have HC : Hid (0 < n → ∃ b off, a = some ⟨b, off, none⟩ ∧ ∀ i (hi : i < ss.length), w.cell? ⟨b, off + i, none⟩ = some (.string ss[i])) := hc
  have HN : Hid (ss.length = n) := hn
  have hlen' : (n : Int) ≤ 2000000 := by omega
  clear hc hn
  obtain ⟨R, hR⟩ : ∃ R, hasB ss t = R := ⟨_, rfl⟩
  rw [hR]
  have HR : Hid (hasB ss t = R) := hR
  clear hR
  go_enter Tryd.func29, Tryd.ntmps29
  go_wp2_with fail
  go_loopw [5] (fun i5 wr => ∃ (k : Nat), i5 = .int .i64 (k : Int) ∧ k ≤ n ∧ (∀ i (hi : i < ss.length), i < k → (ss[i].toList == t.toList) = false) ∧ wr = w) (fun i5 _ => n - (intOf i5).toNat)
  case atStart => exact ⟨0, rfl, by omega, fun i _ h => by omega, rfl⟩
  case round =>
    obtain ⟨k, rfl, hk, hall, rfl⟩ := hrel
    have HA : Hid (∀ i (hi : i < ss.length), i < k → (ss[i].toList == t.toList) = false) := hall
    clear hall
    by_cases hkn : k < n
    · have hkn' : (k : Int) < (n : Int) := by omega
      have hks : k < ss.length := by rw [HN.out]; exact hkn
      obtain ⟨b, off, rfl, hcell⟩ := HC.out (by omega)
      have d1 := hcell k hks
      obtain ⟨x, hx⟩ : ∃ x, ss[k] = x := ⟨_, rfl⟩
      rw [hx] at d1
      have HX : Hid (ss[k] = x) := hx
      clear hx hcell
      by_cases he : (x.toList == t.toList) = true
      · go_wp2_with fail
        go_ret
        refine ⟨?_, rfl⟩
        have : hasB ss t = true := List.any_eq_true.2 ⟨ss[k], List.getElem_mem hks, by rw [HX.out]; exact he⟩
        rw [← HR.out, this]; rfl
      · have he' : (x.toList == t.toList) = false := by simpa using he
        clear he
        go_wp2_with fail
        refine ⟨⟨k + 1, rfl, by omega, fun i hi hik => ?_, by first | rfl | trivial⟩, by simp [intOf]; omega⟩
        by_cases e : i = k
        · subst e; rw [HX.out]; exact he'
        · exact HA.out i hi (by omega)
    · have hkn' : ¬ ((k : Int) < (n : Int)) := by omega
      go_wp2_with fail
      go_ret
      refine ⟨?_, rfl⟩
      have : hasB ss t = false := by
        unfold hasB
        rw [List.any_eq_false]
        intro x hx
        obtain ⟨i, hi, rfl⟩ := List.getElem_of_mem hx
        rw [HA.out i hi (by have := HN.out; omega)]; simp
      rw [← HR.out, this]; rfl
end Go.Proofs.YtlnfobeedpbnmaaDoor

namespace Go.Proofs.YtlnfobeedpbnmaaDoor
open Go.ChangeShapes Go.WideShapes Go.ChangeAt Go.RowKit
set_option linter.unusedVariables false
set_option linter.unusedSimpArgs false

theorem meet_then {J K' : Act → World → Prop} {Q' : Exit → Act → World → Prop} {a : Act} {w : World} (h : ∀ a' w', Met J a' w' → K' a' w') (hm : Met J a w) : Exit.then K' Q' .normal a w := h a w hm
/-- The names of the steps ahead of one. -/
def ahead (l : List Step) (i : Nat) : List ByteArray := (l.take i).map Step.name
/-- A step but for what its needs are. -/
def stepB0 (pre : List ByteArray) (x : Step) : Bool := nameOK x.name && !hasB pre x.name && decide (1 ≤ x.tries) && decide (x.tries ≤ 5) && decide (x.needs.length ≤ 20)
def needAt (pre needs : List ByteArray) (k : Nat) (h : k < needs.length) : Prop := hasB pre needs[k] = true ∧ hasB (needs.take k) needs[k] = false
def StepAt (l : List Step) (i : Nat) (h : i < l.length) : Prop := stepB0 (ahead l i) l[i] = true ∧ ∀ k (hk : k < l[i].needs.length), needAt (ahead l i) l[i].needs k hk
open Classical in
/-- A saga. -/
noncomputable def sagaB (l : List Step) : Bool := decide (1 ≤ l.length) && decide (l.length ≤ 20) && decide (∀ i (h : i < l.length), StepAt l i h)
open Classical in
theorem sagaB_true {l : List Step} (h1 : 1 ≤ l.length) (h2 : l.length ≤ 20) (h3 : ∀ i (hi : i < l.length), StepAt l i hi) : sagaB l = true := by
  unfold sagaB
  rw [decide_eq_true h1, decide_eq_true h2, decide_eq_true h3]; rfl
open Classical in
theorem sagaB_not {l : List Step} (i : Nat) (hi : i < l.length) (h : ¬ StepAt l i hi) : sagaB l = false := by
  unfold sagaB
  rw [decide_eq_false (p := ∀ i (h : i < l.length), StepAt l i h) (fun h0 => h (h0 i hi)), Bool.and_false]
theorem sagaB_len {l : List Step} (h : ¬ (1 ≤ l.length ∧ l.length ≤ 20)) : sagaB l = false := by
  unfold sagaB
  by_cases h1 : 1 ≤ l.length
  · rw [decide_eq_false (show ¬ (l.length ≤ 20) from fun h2 => h ⟨h1, h2⟩), Bool.and_false, Bool.false_and]
  · rw [decide_eq_false h1, Bool.false_and, Bool.false_and]
theorem ahead_len {l : List Step} {i : Nat} (h : i ≤ l.length) : (ahead l i).length = i := by simp [ahead]; omega
theorem ahead_at {l : List Step} {i j : Nat} (hi : i ≤ l.length) (hj : j < (ahead l i).length) : (ahead l i)[j] = (l[j]'(by rw [ahead_len hi] at hj; omega)).name := by simp [ahead]
set_option maxRecDepth 100000 in
set_option maxHeartbeats 4000000 in
theorem specSaga (T : World → Prop) : SagaOKC 16 T sagaB := by
  intro S l v w hS h hl hok hfull hT
  clear hT
  obtain ⟨hlm, a, cap, rfl, hc⟩ := h
  have hcap : l.length ≤ cap := hfull.1 _ _ _ rfl
  have HFL : Hid (StepsFull w (.slice a l.length cap) l) := hfull
  have HS : Hid (∀ b, S b → b < w.heap.size) := hS
  have HOK : Hid (∀ x ∈ l, StepsOK 1048576 x) := hok
  have hyes : 1 ≤ l.length → l.length ≤ 20 → (∀ i (hi : i < l.length), StepAt l i hi) → sagaB l = true := fun h1 h2 h3 => sagaB_true h1 h2 h3
  have hno : ∀ i (hi : i < l.length), ¬ StepAt l i hi → sagaB l = false := fun i hi h0 => sagaB_not i hi h0
  by_cases l1 : l.length < 1
  case pos =>
    have l1' : (l.length : Int) < 1 := by omega
    have hr : sagaB l = false := sagaB_len (by omega)
    rw [hr]
    clear hyes hno hr HOK HFL hc hfull hok hS
    go_enter Tryd.func16, Tryd.ntmps16
    go_wp2_with fail
    go_ret
    exact ⟨rfl, Below.refl _ _⟩
  by_cases l20 : 20 < l.length
  case pos =>
    have l1' : ¬ ((l.length : Int) < 1) := by omega
    have l20' : (20 : Int) < (l.length : Int) := by omega
    have hr : sagaB l = false := sagaB_len (by omega)
    rw [hr]
    clear hyes hno hr HOK HFL hc hfull hok hS
    go_enter Tryd.func16, Tryd.ntmps16
    go_wp2_with fail
    go_ret
    exact ⟨rfl, Below.refl _ _⟩
  have l1' : ¬ ((l.length : Int) < 1) := by omega
  have l20' : ¬ ((20 : Int) < (l.length : Int)) := by omega
  have hcap' : (l.length : Int) ≤ (cap : Int) := by omega
  obtain ⟨RB, hRB⟩ : ∃ RB, sagaB l = RB := ⟨_, rfl⟩
  rw [hRB] at hyes hno ⊢
  have HYES : Hid ((∀ i (hi : i < l.length), StepAt l i hi) → RB = true) := hyes (by omega) (by omega)
  have HNO : Hid (∀ i (hi : i < l.length), ¬ StepAt l i hi → RB = false) := hno
  obtain ⟨b, off, rfl, hbS, hcell⟩ := hc (by omega)
  have hbw := hS b hbS
  have HC : Hid (∀ i (h : i < l.length), w.cell? ⟨b, off + i * 4, none⟩ = some (.string l[i].name) ∧ w.cell? ⟨b, off + i * 4 + 2, none⟩ = some (.bool l[i].undo) ∧ w.cell? ⟨b, off + i * 4 + 3, none⟩ = some (.int .i64 l[i].tries) ∧ ∃ nv, w.cell? ⟨b, off + i * 4 + 1, none⟩ = some nv ∧ TxtsAt S w nv l[i].needs) := hcell
  clear hyes hno hRB hc hcell hfull hok hS
  go_enter Tryd.func16, Tryd.ntmps16
  go_wp2_with fail
  go_loopw [3] (fun i3 wr => ∃ k : Nat, i3 = .int .i64 (k : Int) ∧ k ≤ l.length ∧ (∀ i (hi : i < l.length), i < k → StepAt l i hi) ∧ Below w.heap.size w wr) (fun i3 _ => l.length - (intOf i3).toNat)
  case atStart => exact ⟨0, rfl, by omega, fun i _ h => by omega, Below.refl _ _⟩
  case round =>
    obtain ⟨k, rfl, hk, hall, hb⟩ := hrel
    have HALL : Hid (∀ i (hi : i < l.length), i < k → StepAt l i hi) := hall
    have HB : Hid (Below w.heap.size w wr) := hb
    clear hall
    by_cases hkn : k < l.length
    case neg =>
      obtain rfl : k = l.length := by omega
      have hkn' : ¬ ((l.length : Int) < (l.length : Int)) := by omega
      have hr := HYES.out (fun i hi => HALL.out i hi hi)
      subst hr
      go_wp2_with fail
      go_ret
      exact ⟨rfl, hb⟩
    have hkn' : (k : Int) < (l.length : Int) := by omega
    have hkc : (k : Int) ≤ (cap : Int) := by omega
    obtain ⟨c0, c2, c3, nv, c1, hnv⟩ := HC.out k hkn
    have hfn := HFL.out.2 b off _ _ rfl k hkn nv c1
    have d0 := (hb.cell (p := ⟨b, off + k * 4, none⟩) hbw).trans c0
    have d1 := (hb.cell (p := ⟨b, off + k * 4 + 1, none⟩) hbw).trans c1
    have d2 := (hb.cell (p := ⟨b, off + k * 4 + 2, none⟩) hbw).trans c2
    have d3 := (hb.cell (p := ⟨b, off + k * 4 + 3, none⟩) hbw).trans c3
    have hokx := HOK.out l[k] (List.getElem_mem hkn)
    unfold StepsOK at hokx
    have hbad := fun h => HNO.out k hkn h
    have hstep : StepAt l k hkn → ∀ i (hi : i < l.length), i < k + 1 → StepAt l i hi := fun h0 i hi hik => by
      by_cases e : i = k
      · subst e; exact h0
      · exact HALL.out i hi (by omega)
    have hra : StepAt l k hkn ↔ (stepB0 (ahead l k) l[k] = true ∧ ∀ j (hj : j < l[k].needs.length), needAt (ahead l k) l[k].needs j hj) := Iff.rfl
    obtain ⟨x, hx⟩ : ∃ x, l[k] = x := ⟨_, rfl⟩
    rw [hx] at d0 d2 d3 hnv hokx hra
    obtain ⟨xn, xs, xu, xt⟩ := x
    dsimp only at d0 d2 d3 hnv hokx hra
    obtain ⟨RA, hRA⟩ : ∃ RA, StepAt l k hkn = RA := ⟨_, rfl⟩
    rw [hRA] at hbad hstep hra
    have hpl : (ahead l k).length = k := ahead_len (by omega)
    have hpc : ∀ W, Below w.heap.size w W → 0 < k → ∃ b' off', (some ⟨b, off, none⟩ : Option Addr) = some ⟨b', off', none⟩ ∧ ∀ i (hi : i < (ahead l k).length), W.cell? ⟨b', off' + i * 4, none⟩ = some (.string (ahead l k)[i]) := fun W hW _ => by
      refine ⟨b, off, rfl, fun i hi => ?_⟩
      rw [ahead_at (by omega) hi]
      exact (hW.cell (p := ⟨b, off + i * 4, none⟩) hbw).trans (HC.out i (by omega)).1
    obtain ⟨pre, hpre⟩ : ∃ pre, ahead l k = pre := ⟨_, rfl⟩
    have cf := fun t W (hW : Below w.heap.size w W) => specFind (ahead l k) t (some ⟨b, off, none⟩) k cap W hpl (by omega) (hpc W hW)
    simp only [hpre] at cf hra
    have HBAD : Hid (¬ RA → RB = false) := hbad
    have HSTEP : Hid (RA → ∀ i (hi : i < l.length), i < k + 1 → StepAt l i hi) := hstep
    have HRA : Hid (RA ↔ (stepB0 pre ⟨xn, xs, xu, xt⟩ = true ∧ ∀ j (hj : j < xs.length), needAt pre xs j hj)) := hra
    have HNV : Hid (TxtsAt S w nv xs) := hnv
    clear c0 c1 c2 c3 hbad hstep hra hRA hx hpre hpc hpl
    obtain ⟨za, zc, hzv⟩ := hnv.shape
    subst hzv
    have hzc : xs.length ≤ zc := hfn _ _ _ rfl
    clear hnv hfn
    have hbk : Blk (wr.alloc (.cells #[.string xn, .slice za xs.length zc, .bool xu, .int .i64 xt] 40)) wr.heap.size 40 #[.string xn, .slice za xs.length zc, .bool xu, .int .i64 xt] := heap_alloc_last wr _
    have hbA : Below wr.heap.size wr (wr.alloc (.cells #[.string xn, .slice za xs.length zc, .bool xu, .int .i64 xt] 40)) := (Below.refl _ wr).alloc (Nat.le_refl _) _
    obtain ⟨gx, hgx⟩ : ∃ gx, wr.heap.size = gx := ⟨_, rfl⟩
    rw [hgx] at hbk
    go_upto_region 7 with fail
    obtain ⟨wA, hwA⟩ : ∃ wA, wr.alloc (.cells #[.string xn, .slice za xs.length zc, .bool xu, .int .i64 xt] 40) = wA := ⟨_, rfl⟩
    rw [hwA] at hbk hbA ⊢
    have HBK : Hid (Blk wA gx 40 #[.string xn, .slice za xs.length zc, .bool xu, .int .i64 xt]) := hbk
    have HBA : Hid (Below w.heap.size w wA) := good_below HB.out hbA
    have hnm : (xs.length : Int) ≤ 1048576 := by omega
    have hf : decide (0 ≤ findI pre xn) = hasB pre xn := findI_has pre xn
    obtain ⟨FI, hFI⟩ : ∃ FI, findI pre xn = FI := ⟨_, rfl⟩
    have cn := fun W => specNameOK xn W
    obtain ⟨F, hF⟩ : ∃ F, nameOK xn = F := ⟨_, rfl⟩
    simp only [hF] at cn
    have cf1 := cf xn
    rw [hFI] at hf
    simp only [hFI] at cf1
    have hs0 : stepB0 pre ⟨xn, xs, xu, xt⟩ = (F && !decide (0 ≤ FI) && decide (1 ≤ xt) && decide (xt ≤ 5) && decide (xs.length ≤ 20)) := by unfold stepB0; dsimp only; rw [hF, hf]
    have HS0 : Hid (stepB0 pre ⟨xn, xs, xu, xt⟩ = (F && !decide (0 ≤ FI) && decide (1 ≤ xt) && decide (xt ≤ 5) && decide (xs.length ≤ 20))) := hs0
    have e0 := fun N : GoodW (fun W => Below wA.heap.size wA W) => (Blk.below HBK.out N.ok).cell 0
    have e1 := fun N : GoodW (fun W => Below wA.heap.size wA W) => (Blk.below HBK.out N.ok).cell 1
    have e3 := fun N : GoodW (fun W => Below wA.heap.size wA W) => (Blk.below HBK.out N.ok).cell 3
    simp at e0 e1 e3
    clear d0 d1 d2 d3 hb hbA hwA hbk hF hFI hf hs0
    haveI ne : Nonempty (GoodW (fun W => Below wA.heap.size wA W)) := ⟨⟨_, Below.refl _ _⟩⟩
    go_cut [52] from 24 to 53 (fun s52 wx => s52 = .bool (!stepB0 pre ⟨xn, xs, xu, xt⟩) ∧ Below wA.heap.size wA wx)
    case first =>
      refine wp_region_calm (fun W => Below wA.heap.size wA W) (by kernel_rfl) (by kernel_rfl) (Below.refl _ _).drew ?_
      cases F
      case false =>
        repeat (go_big_quiet_step ((go_at_call 27; exact Calls.calm _ (fun w2 hb => good_below (GoodW.ok _) hb) (cn _))))
        refine wpQuiet_nil ?_
        rintro _ ⟨⟨W2, hW2⟩, rfl⟩
        refine meet_then (by assumption) ?_
        go_meet
        exact ⟨by rw [HS0.out]; rfl, hW2⟩
      by_cases k0 : 0 ≤ FI
      case pos =>
        have k0' : decide (0 ≤ FI) = true := decide_eq_true k0
        repeat (go_big_quiet_step ((first | (go_at_call 27; exact Calls.calm _ (fun w2 hb => good_below (GoodW.ok _) hb) (cn _)) | (go_at_call 28; exact Calls.calm_same _ ((cf1 _ (good_below HBA.out (GoodW.ok _))).mono fun _ _ ⟨h1, h2⟩ => ⟨h1, h2.symm⟩)))))
        refine wpQuiet_nil ?_
        rintro _ ⟨⟨W2, hW2⟩, rfl⟩
        refine meet_then (by assumption) ?_
        go_meet
        exact ⟨by rw [HS0.out, k0']; rfl, hW2⟩
      have k0' : decide (0 ≤ FI) = false := decide_eq_false k0
      by_cases k1 : xt < 1
      case pos =>
        repeat (go_big_quiet_step ((first | (go_at_call 27; exact Calls.calm _ (fun w2 hb => good_below (GoodW.ok _) hb) (cn _)) | (go_at_call 28; exact Calls.calm_same _ ((cf1 _ (good_below HBA.out (GoodW.ok _))).mono fun _ _ ⟨h1, h2⟩ => ⟨h1, h2.symm⟩)))))
        refine wpQuiet_nil ?_
        rintro _ ⟨⟨W2, hW2⟩, rfl⟩
        refine meet_then (by assumption) ?_
        go_meet
        exact ⟨by rw [HS0.out, k0', decide_eq_false (show ¬ (1 ≤ xt) by omega)]; rfl, hW2⟩
      by_cases k5 : 5 < xt
      case pos =>
        repeat (go_big_quiet_step ((first | (go_at_call 27; exact Calls.calm _ (fun w2 hb => good_below (GoodW.ok _) hb) (cn _)) | (go_at_call 28; exact Calls.calm_same _ ((cf1 _ (good_below HBA.out (GoodW.ok _))).mono fun _ _ ⟨h1, h2⟩ => ⟨h1, h2.symm⟩)))))
        refine wpQuiet_nil ?_
        rintro _ ⟨⟨W2, hW2⟩, rfl⟩
        refine meet_then (by assumption) ?_
        go_meet
        exact ⟨by rw [HS0.out, k0', decide_eq_true (show 1 ≤ xt by omega), decide_eq_false (show ¬ (xt ≤ 5) by omega)]; rfl, hW2⟩
      by_cases k20 : 20 < xs.length
      case pos =>
        have k20' : (20 : Int) < (xs.length : Int) := by omega
        repeat (go_big_quiet_step ((first | (go_at_call 27; exact Calls.calm _ (fun w2 hb => good_below (GoodW.ok _) hb) (cn _)) | (go_at_call 28; exact Calls.calm_same _ ((cf1 _ (good_below HBA.out (GoodW.ok _))).mono fun _ _ ⟨h1, h2⟩ => ⟨h1, h2.symm⟩)))))
        refine wpQuiet_nil ?_
        rintro _ ⟨⟨W2, hW2⟩, rfl⟩
        refine meet_then (by assumption) ?_
        go_meet
        exact ⟨by rw [HS0.out, k0', decide_eq_true (show 1 ≤ xt by omega), decide_eq_true (show xt ≤ 5 by omega), decide_eq_false (show ¬ (xs.length ≤ 20) by omega)]; rfl, hW2⟩
      have k20' : ¬ ((20 : Int) < (xs.length : Int)) := by omega
      repeat (go_big_quiet_step ((first | (go_at_call 27; exact Calls.calm _ (fun w2 hb => good_below (GoodW.ok _) hb) (cn _)) | (go_at_call 28; exact Calls.calm_same _ ((cf1 _ (good_below HBA.out (GoodW.ok _))).mono fun _ _ ⟨h1, h2⟩ => ⟨h1, h2.symm⟩)))))
      refine wpQuiet_nil ?_
      rintro _ ⟨⟨W2, hW2⟩, rfl⟩
      refine meet_then (by assumption) ?_
      go_meet
      exact ⟨by rw [HS0.out, k0', decide_eq_true (show 1 ≤ xt by omega), decide_eq_true (show xt ≤ 5 by omega), decide_eq_true (show xs.length ≤ 20 by omega)]; rfl, hW2⟩
    case rest =>
      obtain ⟨rfl, hbc⟩ := hcut
      obtain ⟨wC, hwC⟩ : ∃ wC, wC = wc := ⟨_, rfl⟩
      subst hwC
      have HBC : Hid (Below w.heap.size w wC) := good_below HBA.out hbc
      have HBK2 : Hid (Blk wC gx 40 #[.string xn, .slice za xs.length zc, .bool xu, .int .i64 xt]) := Blk.below HBK.out hbc
      clear hbc cn cf1 e0 e1 e3 HBK HBA HS0 ne
      cases hR0 : stepB0 pre ⟨xn, xs, xu, xt⟩
      case false =>
        have hr := HBAD.out (fun h => by have := (HRA.out.1 h).1; rw [hR0] at this; cases this)
        subst hr
        go_wp2_with fail
        go_ret
        exact ⟨rfl, HBC.out⟩
      have HR0 : Hid (stepB0 pre ⟨xn, xs, xu, xt⟩ = true) := hR0
      clear hR0
      have hcc : 0 < xs.length → ∃ cb co, za = some ⟨cb, co, none⟩ ∧ cb < w.heap.size ∧ ∀ j (hj : j < xs.length), w.cell? ⟨cb, co + j, none⟩ = some (.string xs[j]) := fun h0 => by
        obtain ⟨_, ta, tc, htv, hcl⟩ := HNV.out
        simp only [Value.slice.injEq] at htv
        obtain ⟨rfl, -, rfl⟩ := htv
        obtain ⟨cb, co, rfl, hcS, hcl⟩ := hcl h0
        exact ⟨cb, co, rfl, HS.out cb hcS, hcl⟩
      have HCC : Hid (0 < xs.length → ∃ cb co, za = some ⟨cb, co, none⟩ ∧ cb < w.heap.size ∧ ∀ j (hj : j < xs.length), w.cell? ⟨cb, co + j, none⟩ = some (.string xs[j])) := hcc
      clear hcc
      have hzc' : (xs.length : Int) ≤ (zc : Int) := by omega
      go_wp2_with fail
      go_loopw [5] (fun i5 wz => ∃ j : Nat, i5 = .int .i64 (j : Int) ∧ j ≤ xs.length ∧ (∀ i (hi : i < xs.length), i < j → needAt pre xs i hi) ∧ Below wC.heap.size wC wz) (fun i5 _ => xs.length - (intOf i5).toNat)
      case atStart => exact ⟨0, rfl, by omega, fun i _ h => by omega, Below.refl _ _⟩
      case round =>
        obtain ⟨j, rfl, hj, hcs, hbz⟩ := hrel
        have HCS : Hid (∀ i (hi : i < xs.length), i < j → needAt pre xs i hi) := hcs
        have HBZ : Hid (Below wC.heap.size wC wr) := hbz
        have q1 := (Blk.below HBK2.out hbz).cell 1
        simp at q1
        clear hcs
        by_cases hjn : j < xs.length
        · have hjn' : (j : Int) < (xs.length : Int) := by omega
          have hjc : (j : Int) ≤ (zc : Int) := by omega
          obtain ⟨cb, co, rfl, hcw, hcl⟩ := HCC.out (by omega)
          have hst : needAt pre xs j hjn → ∀ i (hi : i < xs.length), i < j + 1 → needAt pre xs i hi := fun h0 i hi hik => by
            by_cases e : i = j
            · subst e; exact h0
            · exact HCS.out i hi (by omega)
          have hbd : ¬ needAt pre xs j hjn → ¬ RA := fun h0 h => h0 ((HRA.out.1 h).2 j hjn)
          have hna : needAt pre xs j hjn ↔ (hasB pre xs[j] = true ∧ hasB (xs.take j) xs[j] = false) := Iff.rfl
          have cf2 := cf xs[j]
          have ch := fun W (hW : Below w.heap.size w W) => specHasN (xs.take j) xs[j] (some ⟨cb, co, none⟩) j zc W (by rw [List.length_take]; omega) (by omega) (fun _ => ⟨cb, co, rfl, fun i hi => by
            have hi' : i < xs.length := by rw [List.length_take] at hi; omega
            rw [List.getElem_take]
            exact (hW.cell (p := ⟨cb, co + i, none⟩) hcw).trans (hcl i hi')⟩)
          have r0 := fun N : GoodW (fun W => Below wr.heap.size wr W) => ((good_below HBC.out (good_below HBZ.out N.ok)).cell (p := ⟨cb, co + j, none⟩) hcw).trans (hcl j hjn)
          have r1 := fun N : GoodW (fun W => Below wr.heap.size wr W) => (Blk.below (Blk.below HBK2.out HBZ.out) N.ok).cell 1
          simp at r1
          obtain ⟨y, hy⟩ : ∃ y, xs[j] = y := ⟨_, rfl⟩
          have hfh := findI_has pre y
          obtain ⟨FJ, hFJ⟩ : ∃ FJ, findI pre y = FJ := ⟨_, rfl⟩
          obtain ⟨HJ, hHJ⟩ : ∃ HJ, hasB (xs.take j) y = HJ := ⟨_, rfl⟩
          rw [hFJ] at hfh
          simp only [hy, hFJ] at cf2
          simp only [hy, hHJ] at ch
          simp only [hy] at r0
          rw [hy, ← hfh, hHJ] at hna
          obtain ⟨NA, hNA⟩ : ∃ NA, needAt pre xs j hjn = NA := ⟨_, rfl⟩
          rw [hNA] at hst hbd hna
          have HST : Hid (NA → ∀ i (hi : i < xs.length), i < j + 1 → needAt pre xs i hi) := hst
          have HBD : Hid (¬ NA → ¬ RA) := hbd
          have HNA : Hid (NA ↔ (decide (0 ≤ FJ) = true ∧ HJ = false)) := hna
          clear hy hst hbd hcl hfh hFJ hHJ hNA hna hbz
          haveI ne : Nonempty (GoodW (fun W => Below wr.heap.size wr W)) := ⟨⟨_, Below.refl _ _⟩⟩
          by_cases hn0 : FJ < 0
          · have hr := HBAD.out (HBD.out (fun h => by have := (HNA.out.1 h).1; simp at this; omega))
            subst hr
            go_upto_region 12 with fail
            refine wp_region_calm (fun W => Below wr.heap.size wr W) (by kernel_rfl) (by kernel_rfl) (Below.refl _ _).drew ?_
            repeat (go_big_quiet_step ((go_at_call 28; exact Calls.calm_same _ ((cf2 _ (good_below HBC.out (good_below HBZ.out (GoodW.ok _)))).mono fun _ _ ⟨h1, h2⟩ => ⟨h1, h2.symm⟩))))
            refine wpQuiet_nil ?_
            rintro _ ⟨⟨W2, hW2⟩, rfl⟩
            go_wp2_with fail
            go_ret
            exact ⟨rfl, good_below HBC.out (good_below HBZ.out hW2)⟩
          · have hge : decide (0 ≤ FJ) = true := decide_eq_true (by omega)
            go_upto_region 12 with fail
            refine wp_region_calm (fun W => Below wr.heap.size wr W) (by kernel_rfl) (by kernel_rfl) (Below.refl _ _).drew ?_
            cases HJ
            · repeat (go_big_quiet_step (first | (go_at_call 28; exact Calls.calm_same _ ((cf2 _ (good_below HBC.out (good_below HBZ.out (GoodW.ok _)))).mono fun _ _ ⟨h1, h2⟩ => ⟨h1, h2.symm⟩)) | (go_at_call 29; exact Calls.calm_same _ ((ch _ (good_below HBC.out (good_below HBZ.out (GoodW.ok _)))).mono fun _ _ ⟨h1, h2⟩ => ⟨h1, h2.symm⟩))))
              refine wpQuiet_nil ?_
              rintro _ ⟨⟨W2, hW2⟩, rfl⟩
              go_wp2_with fail
              go_roundw
              case rel => exact ⟨j + 1, by go_num, by omega, HST.out (HNA.out.2 ⟨hge, rfl⟩), good_below HBZ.out hW2⟩
              case measure => simp [intOf]; omega
            · have hr := HBAD.out (HBD.out (fun h => by have := (HNA.out.1 h).2; cases this))
              subst hr
              repeat (go_big_quiet_step (first | (go_at_call 28; exact Calls.calm_same _ ((cf2 _ (good_below HBC.out (good_below HBZ.out (GoodW.ok _)))).mono fun _ _ ⟨h1, h2⟩ => ⟨h1, h2.symm⟩)) | (go_at_call 29; exact Calls.calm_same _ ((ch _ (good_below HBC.out (good_below HBZ.out (GoodW.ok _)))).mono fun _ _ ⟨h1, h2⟩ => ⟨h1, h2.symm⟩))))
              refine wpQuiet_nil ?_
              rintro _ ⟨⟨W2, hW2⟩, rfl⟩
              go_wp2_with fail
              go_ret
              exact ⟨rfl, good_below HBC.out (good_below HBZ.out hW2)⟩
        · obtain rfl : j = xs.length := by omega
          have hjn' : ¬ ((xs.length : Int) < (xs.length : Int)) := by omega
          have HRAT : Hid RA := HRA.out.2 ⟨HR0.out, fun i hi => HCS.out i hi hi⟩
          go_wp2_with fail
          exact ⟨⟨k + 1, by go_num, by omega, HSTEP.out HRAT.out, good_below HBC.out HBZ.out⟩, by simp [intOf]; omega⟩
end Go.Proofs.YtlnfobeedpbnmaaDoor

namespace Go.Proofs.YtlnfobeedpbnmaaDoor
open Go.ChangeShapes Go.WideShapes Go.ChangeAt Go.RowKit
set_option linter.unusedVariables false
set_option linter.unusedSimpArgs false

/-- How it stands with a saga: its steps' states, the try of each one's last command, the done ones as they were done, the commands, its own state. -/
structure Sg where
  is : List Int
  tr : List Int
  done : List Nat
  cmds : List Cmd
  st : Int
def stepOf (l : List Step) (i : Nat) : Step := l[i]?.getD ⟨⟨#[]⟩, [], false, 0⟩
def names (l : List Step) : List ByteArray := l.map Step.name
def isAt (s : Sg) (i : Nat) : Int := s.is[i]?.getD 0
def trAt (s : Sg) (i : Nat) : Int := s.tr[i]?.getD 0
def numOf (l : List Step) (t : ByteArray) : Nat := (findI (names l) t).toNat
theorem stepOf_eq {l : List Step} {i : Nat} (h : i < l.length) : stepOf l i = l[i] := by simp [stepOf, h]
theorem isAt_eq {s : Sg} {i : Nat} (h : i < s.is.length) : isAt s i = s.is[i] := by simp [isAt, h]
theorem trAt_eq {s : Sg} {i : Nat} (h : i < s.tr.length) : trAt s i = s.tr[i] := by simp [trAt, h]
theorem names_len (l : List Step) : (names l).length = l.length := by simp [names]
/-- All that a step needs is done. -/
def readyB (l : List Step) (s : Sg) (i : Nat) : Bool := (stepOf l i).needs.all (fun t => decide (isAt s (numOf l t) = 2))
def askB (l : List Step) (s : Sg) (i : Nat) : Bool := readyB l s i && decide (isAt s i = 0)
def setIs (s : Sg) (i : Nat) (x : Int) : Sg := { s with is := s.is.set i x }
def setTr (s : Sg) (i : Nat) (x : Int) : Sg := { s with tr := s.tr.set i x }
def setSt (s : Sg) (x : Int) : Sg := { s with st := x }
/-- A command more. -/
def cmdS (l : List Step) (s : Sg) (kind : Int) (i : Nat) : Sg := { s with cmds := s.cmds ++ [⟨kind, trAt s i, (stepOf l i).name⟩] }
/-- A row of commands of a step begins. -/
def beg (l : List Step) (s : Sg) (x kind : Int) (i : Nat) : Sg := cmdS l (setTr (setIs s i x) i 1) kind i
def ask (l : List Step) (s : Sg) (i : Nat) : Sg := if askB l s i then beg l s 1 1 i else s
def asks (l : List Step) (s : Sg) (k : Nat) : Sg := (List.range k).foldl (ask l) s
theorem asks_zero (l : List Step) (s : Sg) : asks l s 0 = s := rfl
theorem asks_succ (l : List Step) (s : Sg) (k : Nat) : asks l s (k + 1) = ask l (asks l s k) k := by
  unfold asks; rw [List.range_succ, List.foldl_append]; rfl
def fwd (l : List Step) (s : Sg) : Sg := if (asks l s l.length).done.length = l.length then setSt (asks l s l.length) 3 else asks l s l.length
def anyB (s : Sg) (x : Int) : Bool := s.is.any (fun y => decide (y = x))
def busy (s : Sg) : Bool := anyB s 1 || anyB s 3
/-- The step that was done last goes back. -/
def undoS (l : List Step) (s : Sg) (k : Nat) : Sg := if (stepOf l k).undo then beg l { s with done := s.done.dropLast } 3 2 k else setIs { s with done := s.done.dropLast } k 4
def lastOf (s : Sg) : Nat := s.done.getLastD 0
def back (l : List Step) : Nat → Sg → Sg
  | 0, s => if busy s then s else setSt s 4
  | m + 1, s => if busy s then s else back l m (undoS l s (lastOf s))
def goOnS (l : List Step) (s : Sg) : Sg := if s.st = 1 then fwd l s else if s.st = 2 then back l s.done.length s else s
def moreB (l : List Step) (s : Sg) (k : Nat) : Bool := decide (trAt s k < (stepOf l k).tries)
def again (l : List Step) (s : Sg) (kind : Int) (k : Nat) : Sg := cmdS l (setTr s k (trAt s k + 1)) kind k
/-- What a message that fits does. -/
def moveS (l : List Step) (s : Sg) (k : Nat) (kind : Int) : Sg :=
  if kind = 1 then { setIs s k 2 with done := s.done ++ [k] }
  else if kind = 2 then (if decide (s.st = 1) && moreB l s k then again l s 1 k else setSt (setIs s k 0) 2)
  else if kind = 3 then setIs s k 4
  else if moreB l s k then again l s 2 k else setSt s 5
def wantI (kind : Int) : Int := if 3 ≤ kind then 3 else 1
/-- What a message is answered. -/
def codeS (l : List Step) (s : Sg) (m : Msg) : Int :=
  if findI (names l) m.step < 0 then 7
  else if m.kind < 1 ∨ 4 < m.kind then 19
  else if s.st ≠ 1 ∧ s.st ≠ 2 then 14
  else if isAt s (numOf l m.step) ≠ wantI m.kind then 14
  else 0
def hearS (l : List Step) (s : Sg) (m : Msg) : Sg := if codeS l s m = 0 then goOnS l (moveS l s (numOf l m.step) m.kind) else s
def zeroS (l : List Step) : Sg := ⟨List.replicate l.length 0, List.replicate l.length 0, [], [], 1⟩
def beginS (l : List Step) : Sg := fwd l (zeroS l)
/-- The state behind messages, and their answers. -/
def hears (l : List Step) : Sg × List Int → List Msg → Sg × List Int
  | p, [] => p
  | p, m :: ms => hears l (hearS l p.1 m, p.2 ++ [codeS l p.1 m]) ms

/-- What always holds. -/
structure Ok (l : List Step) (s : Sg) : Prop where
  il : s.is.length = l.length
  tl : s.tr.length = l.length
  dn : s.done.Nodup
  dk : ∀ k ∈ s.done, k < l.length ∧ isAt s k = 2
  tb : ∀ i, 0 ≤ trAt s i ∧ trAt s i ≤ 5
theorem isAt_set {s : Sg} {i : Nat} (h : i < s.is.length) (x : Int) (j : Nat) : isAt (setIs s i x) j = if j = i then x else isAt s j := by
  unfold isAt setIs
  dsimp only
  rw [List.getElem?_set]
  by_cases e : i = j
  · subst e; simp [h]
  · rw [if_neg e, if_neg (fun h => e h.symm)]
theorem trAt_set {s : Sg} {i : Nat} (h : i < s.tr.length) (x : Int) (j : Nat) : trAt (setTr s i x) j = if j = i then x else trAt s j := by
  unfold trAt setTr
  dsimp only
  rw [List.getElem?_set]
  by_cases e : i = j
  · subst e; simp [h]
  · rw [if_neg e, if_neg (fun h => e h.symm)]
theorem Ok.setIs {l : List Step} {s : Sg} (h : Ok l s) {i : Nat} (hi : i < l.length) (x : Int) (hn : i ∉ s.done) : Ok l (setIs s i x) := by
  refine ⟨by simp [Go.Proofs.YtlnfobeedpbnmaaDoor.setIs, h.il], h.tl, h.dn, fun k hk => ?_, h.tb⟩
  obtain ⟨h1, h2⟩ := h.dk k hk
  refine ⟨h1, ?_⟩
  have hne : k ≠ i := fun e => hn (by rw [← e]; exact hk)
  rw [isAt_set (by rw [h.il]; exact hi), if_neg hne]; exact h2
theorem Ok.setTr {l : List Step} {s : Sg} (h : Ok l s) {i : Nat} (hi : i < l.length) (x : Int) (h0 : 0 ≤ x) (h5 : x ≤ 5) : Ok l (setTr s i x) := by
  refine ⟨h.il, by simp [Go.Proofs.YtlnfobeedpbnmaaDoor.setTr, h.tl], h.dn, h.dk, fun j => ?_⟩
  rw [trAt_set (by rw [h.tl]; exact hi)]
  split
  · exact ⟨h0, h5⟩
  · exact h.tb j
theorem Ok.setSt {l : List Step} {s : Sg} (h : Ok l s) (x : Int) : Ok l (setSt s x) := ⟨h.il, h.tl, h.dn, h.dk, h.tb⟩
theorem Ok.cmd {l : List Step} {s : Sg} (h : Ok l s) (kind : Int) (i : Nat) : Ok l (cmdS l s kind i) := ⟨h.il, h.tl, h.dn, h.dk, h.tb⟩
theorem Ok.beg {l : List Step} {s : Sg} (h : Ok l s) (x kind : Int) {i : Nat} (hi : i < l.length) (hn : i ∉ s.done) : Ok l (beg l s x kind i) :=
  ((h.setIs hi x hn).setTr hi 1 (by omega) (by omega)).cmd kind i
theorem Ok.not {l : List Step} {s : Sg} (h : Ok l s) {i : Nat} (hi : isAt s i ≠ 2) : i ∉ s.done := fun hm => hi (h.dk i hm).2
theorem Ok.ask {l : List Step} {s : Sg} (h : Ok l s) {i : Nat} (hi : i < l.length) : Ok l (ask l s i) := by
  unfold Go.Proofs.YtlnfobeedpbnmaaDoor.ask
  split
  · rename_i ha
    unfold askB at ha
    rw [Bool.and_eq_true] at ha
    have := of_decide_eq_true ha.2
    exact h.beg 1 1 hi (h.not (by omega))
  · exact h
theorem Ok.asks {l : List Step} {s : Sg} (h : Ok l s) : ∀ k, k ≤ l.length → Ok l (asks l s k)
  | 0, _ => h
  | k + 1, hk => by rw [asks_succ]; exact (h.asks k (by omega)).ask (by omega)
theorem Ok.fwd {l : List Step} {s : Sg} (h : Ok l s) : Ok l (fwd l s) := by
  unfold Go.Proofs.YtlnfobeedpbnmaaDoor.fwd
  split
  · exact (h.asks _ (Nat.le_refl _)).setSt 3
  · exact h.asks _ (Nat.le_refl _)
theorem Ok.drop {l : List Step} {s : Sg} (h : Ok l s) : Ok l { s with done := s.done.dropLast } :=
  ⟨h.il, h.tl, h.dn.sublist (List.dropLast_sublist _), fun k hk => h.dk k (List.dropLast_subset _ hk), h.tb⟩
theorem last_in {s : Sg} (h : 0 < s.done.length) : lastOf s ∈ s.done := by
  unfold lastOf
  rw [List.getLastD_eq_getLast?, List.getLast?_eq_some_getLast (List.ne_nil_of_length_pos h)]
  exact List.getLast_mem _
theorem last_split {s : Sg} (h : 0 < s.done.length) : s.done = s.done.dropLast ++ [lastOf s] := by
  unfold lastOf
  rw [List.getLastD_eq_getLast?, List.getLast?_eq_some_getLast (List.ne_nil_of_length_pos h)]
  exact (List.dropLast_concat_getLast _).symm
theorem Ok.last_out {l : List Step} {s : Sg} (h : Ok l s) (h0 : 0 < s.done.length) : lastOf s ∉ s.done.dropLast := by
  have hd := h.dn
  rw [last_split h0] at hd
  intro hm
  have := List.nodup_append.1 hd
  exact this.2.2 _ hm _ (by simp) rfl
theorem Ok.undo {l : List Step} {s : Sg} (h : Ok l s) (h0 : 0 < s.done.length) : Ok l (undoS l s (lastOf s)) := by
  have hl := (h.dk _ (last_in h0)).1
  unfold undoS
  split
  · exact h.drop.beg 3 2 hl (h.last_out h0)
  · exact h.drop.setIs hl 4 (h.last_out h0)
theorem undo_len (l : List Step) (s : Sg) (k : Nat) : (undoS l s k).done = s.done.dropLast := by
  unfold undoS
  split <;> rfl
theorem undo_st (l : List Step) (s : Sg) (k : Nat) : (undoS l s k).st = s.st := by
  unfold undoS
  split <;> rfl
theorem Ok.back {l : List Step} : ∀ (m : Nat) {s : Sg}, Ok l s → m ≤ s.done.length → Ok l (back l m s)
  | 0, s, h, _ => by unfold Go.Proofs.YtlnfobeedpbnmaaDoor.back; split; exact h; exact h.setSt 4
  | m + 1, s, h, hm => by
    unfold Go.Proofs.YtlnfobeedpbnmaaDoor.back
    split
    · exact h
    · exact Ok.back m (h.undo (by omega)) (by rw [undo_len, List.length_dropLast]; omega)
theorem Ok.goOn {l : List Step} {s : Sg} (h : Ok l s) : Ok l (goOnS l s) := by
  unfold goOnS
  split
  · exact h.fwd
  · split
    · exact h.back _ (Nat.le_refl _)
    · exact h
theorem Ok.again {l : List Step} {s : Sg} (h : Ok l s) (ht : ∀ i (hi : i < l.length), l[i].tries ≤ 5) (kind : Int) {k : Nat} (hk : k < l.length) (hm : moreB l s k = true) : Ok l (again l s kind k) := by
  unfold moreB at hm
  have := of_decide_eq_true hm
  rw [stepOf_eq hk] at this
  have h5 := ht k hk
  have hb := h.tb k
  exact (h.setTr hk _ (by omega) (by omega)).cmd kind k
theorem Ok.move {l : List Step} {s : Sg} (h : Ok l s) (ht : ∀ i (hi : i < l.length), l[i].tries ≤ 5) {k : Nat} (hk : k < l.length) (kind : Int) (hw : isAt s k ≠ 2) : Ok l (moveS l s k kind) := by
  have hn := h.not hw
  unfold moveS
  split
  · have h1 := h.setIs hk 2 hn
    refine ⟨h1.il, h1.tl, ?_, fun j hj => ?_, h1.tb⟩
    · dsimp only
      rw [List.nodup_append]
      exact ⟨h.dn, by simp, fun a ha b hb e => by simp at hb; subst hb; subst e; exact hn ha⟩
    · dsimp only at hj
      rw [List.mem_append] at hj
      rcases hj with hj | hj
      · exact h1.dk j hj
      · simp at hj
        subst hj
        refine ⟨hk, ?_⟩
        have := isAt_set (s := s) (by rw [h.il]; exact hk) 2 j
        rw [if_pos rfl] at this
        exact this
  · split
    · split
      · rename_i hc
        rw [Bool.and_eq_true] at hc
        exact h.again ht 1 hk hc.2
      · exact (h.setIs hk 0 hn).setSt 2
    · split
      · exact h.setIs hk 4 hn
      · split
        · rename_i hc; exact h.again ht 2 hk hc
        · exact h.setSt 5
theorem find_lt {l : List Step} {t : ByteArray} (h : 0 ≤ findI (names l) t) : numOf l t < l.length ∧ (numOf l t : Int) = findI (names l) t := by
  have := findI_ge (names l) t
  rw [names_len] at this
  unfold numOf
  omega
theorem Ok.hear {l : List Step} {s : Sg} (h : Ok l s) (ht : ∀ i (hi : i < l.length), l[i].tries ≤ 5) (m : Msg) : Ok l (hearS l s m) := by
  unfold hearS
  split
  · rename_i hc
    unfold codeS at hc
    by_cases h1 : findI (names l) m.step < 0
    · rw [if_pos h1] at hc; omega
    rw [if_neg h1] at hc
    by_cases h2 : m.kind < 1 ∨ 4 < m.kind
    · rw [if_pos h2] at hc; omega
    rw [if_neg h2] at hc
    by_cases h3 : s.st ≠ 1 ∧ s.st ≠ 2
    · rw [if_pos h3] at hc; omega
    rw [if_neg h3] at hc
    by_cases h4 : isAt s (numOf l m.step) ≠ wantI m.kind
    · rw [if_pos h4] at hc; omega
    refine (h.move ht (find_lt (Int.not_lt.1 h1)).1 m.kind ?_).goOn
    have : isAt s (numOf l m.step) = wantI m.kind := Classical.not_not.1 h4
    rw [this]
    unfold wantI
    split <;> omega
  · exact h
theorem Ok.zero (l : List Step) : Ok l (zeroS l) := by
  refine ⟨by simp [zeroS], by simp [zeroS], by simp [zeroS], fun k hk => by simp [zeroS] at hk, fun i => ?_⟩
  unfold trAt zeroS
  dsimp only
  rw [List.getElem?_replicate]
  split <;> simp
theorem Ok.begin (l : List Step) : Ok l (beginS l) := (Ok.zero l).fwd
/-- How many commands come. -/
theorem beg_cmds (l : List Step) (s : Sg) (x kind : Int) (i : Nat) : (beg l s x kind i).cmds.length = s.cmds.length + 1 := by simp [beg, cmdS, setTr, setIs]
theorem ask_cmds (l : List Step) (s : Sg) (i : Nat) : (ask l s i).cmds.length ≤ s.cmds.length + 1 := by
  unfold ask
  split
  · rw [beg_cmds]; exact Nat.le_refl _
  · omega
theorem asks_cmds (l : List Step) (s : Sg) : ∀ k, (asks l s k).cmds.length ≤ s.cmds.length + k
  | 0 => by rw [asks_zero]; omega
  | k + 1 => by rw [asks_succ]; have := ask_cmds l (asks l s k) k; have := asks_cmds l s k; omega
theorem fwd_cmds (l : List Step) (s : Sg) : (fwd l s).cmds.length ≤ s.cmds.length + l.length := by
  unfold fwd
  split <;> exact asks_cmds l s _
theorem ask_done (l : List Step) (s : Sg) (i : Nat) : (ask l s i).done = s.done := by
  unfold ask
  split <;> rfl
theorem asks_done (l : List Step) (s : Sg) : ∀ k, (asks l s k).done = s.done
  | 0 => rfl
  | k + 1 => by rw [asks_succ, ask_done, asks_done l s k]
theorem ask_st (l : List Step) (s : Sg) (i : Nat) : (ask l s i).st = s.st := by
  unfold ask
  split <;> rfl
theorem asks_st (l : List Step) (s : Sg) : ∀ k, (asks l s k).st = s.st
  | 0 => rfl
  | k + 1 => by rw [asks_succ, ask_st, asks_st l s k]
theorem busy_beg {l : List Step} {s : Sg} {i : Nat} (h : i < s.is.length) (kind : Int) : busy (beg l s 3 kind i) = true := by
  unfold busy
  have : anyB (beg l s 3 kind i) 3 = true := by
    unfold anyB
    rw [List.any_eq_true]
    refine ⟨3, ?_, by simp⟩
    show (3 : Int) ∈ s.is.set i 3
    exact List.mem_set h 3
  rw [this, Bool.or_true]
theorem back_cmds (l : List Step) : ∀ (m : Nat) {s : Sg}, Ok l s → m ≤ s.done.length → (back l m s).cmds.length ≤ s.cmds.length + 1
  | 0, s, _, _ => by unfold back; split <;> simp [setSt]
  | m + 1, s, h, hm => by
    unfold back
    split
    · omega
    · have h0 : 0 < s.done.length := by omega
      have hl := (h.dk _ (last_in h0)).1
      by_cases hu : (stepOf l (lastOf s)).undo = true
      · have he : undoS l s (lastOf s) = beg l { s with done := s.done.dropLast } 3 2 (lastOf s) := by unfold undoS; rw [if_pos hu]
        have hb : busy (undoS l s (lastOf s)) = true := by rw [he]; exact busy_beg (by show _ < s.is.length; rw [h.il]; exact hl) 2
        have hc : (undoS l s (lastOf s)).cmds.length = s.cmds.length + 1 := by rw [he, beg_cmds]
        cases m with
        | zero => unfold back; rw [if_pos hb]; omega
        | succ m => unfold back; rw [if_pos hb]; omega
      · have he : undoS l s (lastOf s) = setIs { s with done := s.done.dropLast } (lastOf s) 4 := by unfold undoS; rw [if_neg hu]
        have := back_cmds l m (h.undo h0) (by rw [undo_len, List.length_dropLast]; omega)
        have hc : (undoS l s (lastOf s)).cmds = s.cmds := by rw [he]; rfl
        rw [hc] at this
        exact this
theorem goOn_cmds {l : List Step} {s : Sg} (h : Ok l s) : (goOnS l s).cmds.length ≤ s.cmds.length + l.length + 1 := by
  unfold goOnS
  split
  · have := fwd_cmds l s; omega
  · split
    · have := back_cmds l _ h (Nat.le_refl _); omega
    · omega
theorem move_cmds (l : List Step) (s : Sg) (k : Nat) (kind : Int) : (moveS l s k kind).cmds.length ≤ s.cmds.length + 1 := by
  unfold moveS
  split
  · simp [setIs]
  · split
    · split
      · simp [again, cmdS, setTr]
      · simp [setSt, setIs]
    · split
      · simp [setIs]
      · split
        · simp [again, cmdS, setTr]
        · simp [setSt]
theorem pigeonN : ∀ (d e : List Nat), d.Nodup → (∀ x ∈ d, x ∈ e) → d.length ≤ e.length
  | [], _, _, _ => by simp
  | x :: d, e, hn, hs => by
    rw [List.nodup_cons] at hn
    have hx := hs x (by simp)
    have := pigeonN d (e.erase x) hn.2 (fun y hy => by
      have hne : y ≠ x := fun e => hn.1 (e ▸ hy)
      exact (List.mem_erase_of_ne hne).2 (hs y (List.mem_cons_of_mem _ hy)))
    rw [List.length_erase_of_mem hx] at this
    have hp : 0 < e.length := List.length_pos_of_mem hx
    simp only [List.length_cons]
    omega
theorem nodup_lt (n : Nat) (d : List Nat) (hn : d.Nodup) (h : ∀ k ∈ d, k < n) : d.length ≤ n := by
  have := pigeonN d (List.range n) hn (fun x hx => List.mem_range.2 (h x hx))
  rwa [List.length_range] at this
theorem done_len {l : List Step} {s : Sg} (h : Ok l s) : s.done.length ≤ l.length := by
  have := nodup_lt l.length s.done h.dn (fun k hk => (h.dk k hk).1)
  exact this
end Go.Proofs.YtlnfobeedpbnmaaDoor

namespace Go.Proofs.YtlnfobeedpbnmaaDoor
open Go.ChangeShapes Go.WideShapes Go.ChangeAt Go.RowKit
set_option linter.unusedVariables false
set_option linter.unusedSimpArgs false

/-- Cells that are these numbers. -/
def IntsAt (cs : Array Value) (l : List Int) : Prop := cs.size = l.length ∧ ∀ i (h : i < l.length), cs[i]? = some (.int .i64 l[i])
theorem IntsAt.set {cs : Array Value} {l : List Int} (h : IntsAt cs l) (i : Nat) (x : Int) : IntsAt (cs.setIfInBounds i (.int .i64 x)) (l.set i x) := by
  refine ⟨by simp [h.1], fun j hj => ?_⟩
  have hj' : j < l.length := by simpa using hj
  rw [Array.getElem?_setIfInBounds, List.getElem_set]
  by_cases e : i = j
  · subst e; rw [if_pos rfl, if_pos (by rw [h.1]; exact hj'), if_pos rfl]
  · rw [if_neg e, if_neg e]; exact h.2 j hj'
def nums (l : List Nat) : List Int := l.map (fun k : Nat => (k : Int))
theorem nums_len (l : List Nat) : (nums l).length = l.length := by simp [nums]
theorem nums_at (l : List Nat) (i : Nat) (h : i < (nums l).length) : (nums l)[i] = ((l[i]'(by rwa [nums_len] at h) : Nat) : Int) := by simp [nums]
/-- The row v is not in block b. -/
def Off (v : Value) (b : Nat) : Prop := v.ownBlock ≠ some b
/-- The steps of a saga, in blocks of S. -/
structure SagaIn (S : Nat → Prop) (B : Nat) (w : World) (a : Option Addr) (cap : Nat) (l : List Step) : Prop where
  low : ∀ b, S b → b < B
  at' : StepsAt S w (.slice a l.length cap) l
  ok : ∀ x ∈ l, StepsOK 1048576 x
  len : 1 ≤ l.length ∧ l.length ≤ 20
  tries : ∀ i (hi : i < l.length), l[i].tries ≤ 5
  needs : ∀ i (hi : i < l.length), ∀ t ∈ l[i].needs, 0 ≤ findI (names l) t
theorem SagaIn.below {S : Nat → Prop} {B : Nat} {w w' : World} {a : Option Addr} {cap : Nat} {l : List Step} (h : SagaIn S B w a cap l) (hb : Below B w w') (hB : B ≤ w.heap.size) : SagaIn S B w' a cap l :=
  ⟨h.low, h.at'.keep (fun b i hs => hb.cell (h.low b hs)), h.ok, h.len, h.tries, h.needs⟩
/-- The blocks of messages that were there have not turned. -/
def Frm (w w' : World) : Prop := ∀ (b : Nat) (cs : Array Value), w.heap[b]? = some (Obj.cells cs 36) → w'.heap[b]? = some (Obj.cells cs 36)
theorem Frm.refl (w : World) : Frm w w := fun _ _ h => h
theorem Frm.trans {w w1 w2 : World} (h1 : Frm w w1) (h2 : Frm w1 w2) : Frm w w2 := fun b cs h => h2 b cs (h1 b cs h)
theorem Frm.below {w w' : World} (hb : Below w.heap.size w w') : Frm w w' := fun b cs h => (hb.block b (Array.getElem?_eq_some_iff.1 h).1).trans h
theorem Frm.set {w : World} {g : Nat} {ty : TypeId} {cs : Array Value} (hk : Blk w g ty cs) (hne : ty ≠ 36) (i : Nat) (v : Value) : Frm w (w.setCell ⟨g, i, none⟩ v) := fun b ds h => by
  refine (Below.heap_setCell w ⟨g, i, none⟩ v b (fun e => ?_)).trans h
  have e : b = g := e
  subst e
  unfold Blk at hk
  rw [hk] at h
  simp at h
  exact hne h.2
theorem Frm.grown {w w' : World} {row : Option Nat} (hg : w.grownBy w' row) (hr : ∀ b, row = some b → ∃ cs ty, w.heap[b]? = some (Obj.cells cs ty) ∧ ty ≠ 36) : Frm w w' := fun b ds h => by
  refine (hg.block b (Array.getElem?_eq_some_iff.1 h).1 (fun e => ?_)).trans h
  obtain ⟨cs, ty, h1, h2⟩ := hr b e.symm
  rw [h1] at h
  simp at h
  exact h2 h.2
theorem own_row {B E k n : Nat} {w : World} {v : Value} {xs : List Value} (h : w.ownsRow B E k v n xs) (hne : E ≠ 36) : ∀ b, v.ownBlock = some b → ∃ cs ty, w.heap[b]? = some (Obj.cells cs ty) ∧ ty ≠ 36 := by
  intro b hb
  rcases h.2 with ⟨h1, _⟩ | ⟨b', cap, cur, h1, _, h3, _⟩
  · rw [h1] at hb; simp [Value.ownBlock] at hb
  · rw [h1] at hb
    simp only [Value.ownBlock, Option.some.injEq] at hb
    subst hb
    exact ⟨cur, E, h3, hne⟩
/-- The document's run. -/
structure RunS (S : Nat → Prop) (B : Nat) (l : List Step) (a : Option Addr) (cap g gi gt : Nat) (dv rv cv : Value) (w0 w : World) (s : Sg) (reps : List Int) : Prop where
  saga : SagaIn S B w a cap l
  blk : Blk w g 53 #[.slice a l.length cap, .slice (some ⟨gi, 0, none⟩) l.length l.length, .slice (some ⟨gt, 0, none⟩) l.length l.length, dv, .int .i64 0, .int .i64 s.st, rv, cv, .slice none 0 0]
  is : ∃ cs, Blk w gi 3 cs ∧ IntsAt cs s.is
  tr : ∃ cs, Blk w gt 3 cs ∧ IntsAt cs s.tr
  done : OwnNums B w dv (nums s.done)
  reps : OwnNums B w rv reps
  cmds : OwnCmds B w cv s.cmds
  low : B ≤ g ∧ B ≤ gi ∧ B ≤ gt
  ne : gi ≠ gt
  di : Off dv gi ∧ Off dv gt
  ri : Off rv gi ∧ Off rv gt
  dr : dv.ownBlock = none ∨ dv.ownBlock ≠ rv.ownBlock
  ok : Ok l s
  base : B ≤ w0.heap.size
  bel : Below B w0 w
  frm : Frm w0 w
theorem Blk.apart {w : World} {g g' : Nat} {ty ty' : TypeId} {cs cs' : Array Value} (h : Blk w g ty cs) (h' : Blk w g' ty' cs') (hne : ty ≠ ty') : g ≠ g' := by
  intro e
  subst e
  unfold Blk at *
  rw [h] at h'
  injection h' with h'
  injection h' with _ h'
  exact hne h'
theorem OwnNums.off {B g : Nat} {w : World} {v : Value} {l : List Int} {ty : TypeId} {cs : Array Value} (h : OwnNums B w v l) (hb : Blk w g ty cs) (hne : ty ≠ 3) : Off v g := by
  rcases h.2 with ⟨rfl, _⟩ | ⟨k, cap, cur, rfl, hB, hg, _⟩
  · simp [Off, Value.ownBlock]
  · intro e
    simp [Value.ownBlock] at e
    subst e
    exact Blk.apart hb (show Blk w _ _ _ from hg) hne rfl
theorem OwnCmds.off {B g : Nat} {w : World} {v : Value} {l : List Cmd} {ty : TypeId} {cs : Array Value} (h : OwnCmds B w v l) (hb : Blk w g ty cs) (hne : ty ≠ 38) : Off v g := by
  rcases h.2 with ⟨rfl, _⟩ | ⟨k, cap, cur, rfl, hB, hg, _⟩
  · simp [Off, Value.ownBlock]
  · intro e
    simp [Value.ownBlock] at e
    subst e
    exact Blk.apart hb (show Blk w _ _ _ from hg) hne rfl
theorem ownsRow_set {B g i n : Nat} {w : World} {v : Value} {E : TypeId} {k : Nat} {xs : List Value} (h : w.ownsRow B E k v n xs) (ho : Off v g) (x : Value) : (w.setCell ⟨g, i, none⟩ x).ownsRow B E k v n xs := by
  obtain ⟨h1, h2⟩ := h
  refine ⟨h1, ?_⟩
  rcases h2 with h2 | ⟨b, cap, cur, hv, hB, hg, h3⟩
  · exact .inl h2
  · refine .inr ⟨b, cap, cur, hv, hB, ?_, h3⟩
    have hne : b ≠ g := fun e => ho (by rw [hv, e]; rfl)
    rw [Below.heap_setCell _ _ _ _ hne]; exact hg
theorem OwnNums.set {B g i : Nat} {w : World} {v : Value} {l : List Int} (h : OwnNums B w v l) (ho : Off v g) (x : Value) : OwnNums B (w.setCell ⟨g, i, none⟩ x) v l := ownsRow_set h ho x
theorem OwnCmds.set {B g i : Nat} {w : World} {v : Value} {l : List Cmd} (h : OwnCmds B w v l) (ho : Off v g) (x : Value) : OwnCmds B (w.setCell ⟨g, i, none⟩ x) v l := ownsRow_set h ho x
theorem OwnNums.apartC {B : Nat} {w : World} {v u : Value} {l : List Int} {c : List Cmd} (h : OwnNums B w v l) (hc : OwnCmds B w u c) : v.ownBlock = none ∨ v.ownBlock ≠ u.ownBlock := by
  rcases hc.2 with ⟨rfl, _⟩ | ⟨k, cap, cur, rfl, hB, hg, _⟩
  · rcases h.2 with ⟨rfl, _⟩ | ⟨k, cap, cur, rfl, _⟩
    · exact .inl rfl
    · right; simp [Value.ownBlock]
  · right
    exact h.off (show Blk w _ _ _ from hg) (by decide)
section
variable {S : Nat → Prop} {B : Nat} {l : List Step} {a : Option Addr} {cap g gi gt : Nat} {dv rv cv : Value} {w0 w : World} {s : Sg} {reps : List Int}
theorem RunS.size (h : RunS S B l a cap g gi gt dv rv cv w0 w s reps) : B ≤ w.heap.size := Nat.le_trans h.base h.bel.size
theorem RunS.gi_ne (h : RunS S B l a cap g gi gt dv rv cv w0 w s reps) : gi ≠ g := by
  obtain ⟨cs, hb, _⟩ := h.is
  exact Blk.apart hb h.blk (by decide)
theorem RunS.gt_ne (h : RunS S B l a cap g gi gt dv rv cv w0 w s reps) : gt ≠ g := by
  obtain ⟨cs, hb, _⟩ := h.tr
  exact Blk.apart hb h.blk (by decide)
theorem RunS.go (h : RunS S B l a cap g gi gt dv rv cv w0 w s reps) {w' : World} (hb : Below w.heap.size w w') : RunS S B l a cap g gi gt dv rv cv w0 w' s reps := by
  obtain ⟨cs, h1, h2⟩ := h.is
  obtain ⟨ct, h3, h4⟩ := h.tr
  exact ⟨h.saga.below (hb.mono h.size) h.size, Blk.below h.blk hb, ⟨cs, Blk.below h1 hb, h2⟩, ⟨ct, Blk.below h3 hb, h4⟩, h.done.below hb, h.reps.below hb, h.cmds.below hb, h.low, h.ne, h.di, h.ri, h.dr, h.ok, h.base, h.bel.trans (hb.mono h.size), h.frm.trans (Frm.below hb)⟩
theorem RunS.drew (h : RunS S B l a cap g gi gt dv rv cv w0 w s reps) : RunS S B l a cap g gi gt dv rv cv w0 w.drew s reps := h.go (Below.refl _ _).drew
/-- A cell of the run itself. -/
theorem RunS.putSt (h : RunS S B l a cap g gi gt dv rv cv w0 w s reps) (x : Int) : RunS S B l a cap g gi gt dv rv cv w0 (w.setCell ⟨g, 5, none⟩ (.int .i64 x)) (setSt s x) reps := by
  obtain ⟨cs, h1, h2⟩ := h.is
  obtain ⟨ct, h3, h4⟩ := h.tr
  have hb := (Below.refl B w).setCell (p := ⟨g, 5, none⟩) h.low.1 (.int .i64 x)
  refine ⟨h.saga.below hb h.size, h.blk.set 5 _, ⟨cs, h1.other h.gi_ne 5 _, h2⟩, ⟨ct, h3.other h.gt_ne 5 _, h4⟩, h.done.set (h.done.off h.blk (by decide)) _, h.reps.set (h.reps.off h.blk (by decide)) _, h.cmds.set (h.cmds.off h.blk (by decide)) _, h.low, h.ne, h.di, h.ri, h.dr, h.ok.setSt x, h.base, h.bel.trans hb, h.frm.trans (Frm.set h.blk (by decide) _ _)⟩
theorem RunS.putIs (h : RunS S B l a cap g gi gt dv rv cv w0 w s reps) (i : Nat) (x : Int) (hok : Ok l (setIs s i x)) : RunS S B l a cap g gi gt dv rv cv w0 (w.setCell ⟨gi, i, none⟩ (.int .i64 x)) (setIs s i x) reps := by
  obtain ⟨cs, h1, h2⟩ := h.is
  obtain ⟨ct, h3, h4⟩ := h.tr
  have hb := (Below.refl B w).setCell (p := ⟨gi, i, none⟩) h.low.2.1 (.int .i64 x)
  refine ⟨h.saga.below hb h.size, h.blk.other (Ne.symm h.gi_ne) i _, ⟨_, h1.set i _, h2.set i x⟩, ⟨ct, h3.other (Ne.symm h.ne) i _, h4⟩, h.done.set h.di.1 _, h.reps.set h.ri.1 _, h.cmds.set (h.cmds.off h1 (by decide)) _, h.low, h.ne, h.di, h.ri, h.dr, hok, h.base, h.bel.trans hb, h.frm.trans (Frm.set h1 (by decide) _ _)⟩
theorem RunS.putTr (h : RunS S B l a cap g gi gt dv rv cv w0 w s reps) (i : Nat) (x : Int) (hok : Ok l (setTr s i x)) : RunS S B l a cap g gi gt dv rv cv w0 (w.setCell ⟨gt, i, none⟩ (.int .i64 x)) (setTr s i x) reps := by
  obtain ⟨cs, h1, h2⟩ := h.is
  obtain ⟨ct, h3, h4⟩ := h.tr
  have hb := (Below.refl B w).setCell (p := ⟨gt, i, none⟩) h.low.2.2 (.int .i64 x)
  refine ⟨h.saga.below hb h.size, h.blk.other (Ne.symm h.gt_ne) i _, ⟨cs, h1.other h.ne i _, h2⟩, ⟨_, h3.set i _, h4.set i x⟩, h.done.set h.di.2 _, h.reps.set h.ri.2 _, h.cmds.set (h.cmds.off h3 (by decide)) _, h.low, h.ne, h.di, h.ri, h.dr, hok, h.base, h.bel.trans hb, h.frm.trans (Frm.set h3 (by decide) _ _)⟩
/-- The commands grow. -/
theorem RunS.growC (h : RunS S B l a cap g gi gt dv rv cv w0 w s reps) {w' : World} {cv' : Value} {c : List Cmd} (hown : OwnCmds B w' cv' c) (hB : Below B w w') (hgr : w.grownBy w' cv.ownBlock) :
    Blk w' g 53 #[.slice a l.length cap, .slice (some ⟨gi, 0, none⟩) l.length l.length, .slice (some ⟨gt, 0, none⟩) l.length l.length, dv, .int .i64 0, .int .i64 s.st, rv, cv, .slice none 0 0] ∧ RunS S B l a cap g gi gt dv rv cv' w0 (w'.setCell ⟨g, 7, none⟩ cv') { s with cmds := c } reps := by
  obtain ⟨cs, h1, h2⟩ := h.is
  obtain ⟨ct, h3, h4⟩ := h.tr
  have hbk := h.blk.kept hgr (Ne.symm (h.cmds.off h.blk (by decide)))
  have h1' := h1.kept hgr (Ne.symm (h.cmds.off h1 (by decide)))
  have h3' := h3.kept hgr (Ne.symm (h.cmds.off h3 (by decide)))
  have hd' : OwnNums B w' dv (nums s.done) := h.done.kept hgr (h.done.apartC h.cmds)
  have hr' : OwnNums B w' rv reps := h.reps.kept hgr (h.reps.apartC h.cmds)
  have hb : Below B w (w'.setCell ⟨g, 7, none⟩ cv') := hB.setCell h.low.1 cv'
  refine ⟨hbk, h.saga.below hb h.size, hbk.set 7 _, ⟨cs, h1'.other h.gi_ne 7 _, h2⟩, ⟨ct, h3'.other h.gt_ne 7 _, h4⟩, hd'.set (hd'.off hbk (by decide)) _, hr'.set (hr'.off hbk (by decide)) _, hown.set (hown.off hbk (by decide)) _, h.low, h.ne, h.di, h.ri, h.dr, ⟨h.ok.il, h.ok.tl, h.ok.dn, h.ok.dk, h.ok.tb⟩, h.base, h.bel.trans hb, (h.frm.trans (Frm.grown hgr (own_row h.cmds (by decide)))).trans (Frm.set hbk (by decide) _ _)⟩
/-- The done ones are a row that grew, or a new one. -/
theorem RunS.growD (h : RunS S B l a cap g gi gt dv rv cv w0 w s reps) {w' : World} {dv' : Value} {d : List Nat} (hown : OwnNums B w' dv' (nums d)) (hB : Below B w w') (hgr : w.grownBy w' dv.ownBlock) (hap : Off dv' gi ∧ Off dv' gt ∧ (dv'.ownBlock = none ∨ dv'.ownBlock ≠ rv.ownBlock)) (hok : Ok l { s with done := d }) :
    Blk w' g 53 #[.slice a l.length cap, .slice (some ⟨gi, 0, none⟩) l.length l.length, .slice (some ⟨gt, 0, none⟩) l.length l.length, dv, .int .i64 0, .int .i64 s.st, rv, cv, .slice none 0 0] ∧ RunS S B l a cap g gi gt dv' rv cv w0 (w'.setCell ⟨g, 3, none⟩ dv') { s with done := d } reps := by
  obtain ⟨cs, h1, h2⟩ := h.is
  obtain ⟨ct, h3, h4⟩ := h.tr
  have hbk := h.blk.kept hgr (Ne.symm (h.done.off h.blk (by decide)))
  have h1' := h1.kept hgr (Ne.symm h.di.1)
  have h3' := h3.kept hgr (Ne.symm h.di.2)
  have hr' : OwnNums B w' rv reps := h.reps.kept hgr (by
    rcases h.dr with e | e
    · rw [e]
      cases rv.ownBlock with
      | none => exact .inl rfl
      | some x => right; simp
    · exact .inr (Ne.symm e))
  have hc' : OwnCmds B w' cv s.cmds := h.cmds.kept hgr (by
    rcases h.done.apartC h.cmds with e | e
    · rw [e]
      cases cv.ownBlock with
      | none => exact .inl rfl
      | some x => right; simp
    · exact .inr (Ne.symm e))
  have hb : Below B w (w'.setCell ⟨g, 3, none⟩ dv') := hB.setCell h.low.1 dv'
  refine ⟨hbk, h.saga.below hb h.size, hbk.set 3 _, ⟨cs, h1'.other h.gi_ne 3 _, h2⟩, ⟨ct, h3'.other h.gt_ne 3 _, h4⟩, hown.set (hown.off hbk (by decide)) _, hr'.set (hr'.off hbk (by decide)) _, hc'.set (hc'.off hbk (by decide)) _, h.low, h.ne, ⟨hap.1, hap.2.1⟩, h.ri, hap.2.2, hok, h.base, h.bel.trans hb, (h.frm.trans (Frm.grown hgr (own_row h.done (by decide)))).trans (Frm.set hbk (by decide) _ _)⟩
/-- The answers grow. -/
theorem RunS.growR (h : RunS S B l a cap g gi gt dv rv cv w0 w s reps) {w' : World} {rv' : Value} {r : List Int} (hown : OwnNums B w' rv' r) (hB : Below B w w') (hgr : w.grownBy w' rv.ownBlock) (hap : Off rv' gi ∧ Off rv' gt ∧ (dv.ownBlock = none ∨ dv.ownBlock ≠ rv'.ownBlock)) :
    Blk w' g 53 #[.slice a l.length cap, .slice (some ⟨gi, 0, none⟩) l.length l.length, .slice (some ⟨gt, 0, none⟩) l.length l.length, dv, .int .i64 0, .int .i64 s.st, rv, cv, .slice none 0 0] ∧ RunS S B l a cap g gi gt dv rv' cv w0 (w'.setCell ⟨g, 6, none⟩ rv') s r := by
  obtain ⟨cs, h1, h2⟩ := h.is
  obtain ⟨ct, h3, h4⟩ := h.tr
  have hbk := h.blk.kept hgr (Ne.symm (h.reps.off h.blk (by decide)))
  have h1' := h1.kept hgr (Ne.symm h.ri.1)
  have h3' := h3.kept hgr (Ne.symm h.ri.2)
  have hd' : OwnNums B w' dv (nums s.done) := h.done.kept hgr h.dr
  have hc' : OwnCmds B w' cv s.cmds := h.cmds.kept hgr (by
    rcases h.reps.apartC h.cmds with e | e
    · rw [e]
      cases cv.ownBlock with
      | none => exact .inl rfl
      | some x => right; simp
    · exact .inr (Ne.symm e))
  have hb : Below B w (w'.setCell ⟨g, 6, none⟩ rv') := hB.setCell h.low.1 rv'
  refine ⟨hbk, h.saga.below hb h.size, hbk.set 6 _, ⟨cs, h1'.other h.gi_ne 6 _, h2⟩, ⟨ct, h3'.other h.gt_ne 6 _, h4⟩, hd'.set (hd'.off hbk (by decide)) _, hown.set (hown.off hbk (by decide)) _, hc'.set (hc'.off hbk (by decide)) _, h.low, h.ne, h.di, ⟨hap.1, hap.2.1⟩, hap.2.2, h.ok, h.base, h.bel.trans hb, (h.frm.trans (Frm.grown hgr (own_row h.reps (by decide)))).trans (Frm.set hbk (by decide) _ _)⟩
/-- What a walk reads. -/
theorem RunS.isCell (h : RunS S B l a cap g gi gt dv rv cv w0 w s reps) (i : Nat) (hi : i < l.length) : w.cell? ⟨gi, i, none⟩ = some (.int .i64 (isAt s i)) ∧ w.frozen? ⟨gi, i, none⟩ = false := by
  obtain ⟨cs, h1, h2⟩ := h.is
  have hi' : i < s.is.length := by rw [h.ok.il]; exact hi
  exact ⟨by rw [h1.cell i, h2.2 i hi', isAt_eq hi'], h1.fro i⟩
theorem RunS.trCell (h : RunS S B l a cap g gi gt dv rv cv w0 w s reps) (i : Nat) (hi : i < l.length) : w.cell? ⟨gt, i, none⟩ = some (.int .i64 (trAt s i)) ∧ w.frozen? ⟨gt, i, none⟩ = false := by
  obtain ⟨cs, h1, h2⟩ := h.tr
  have hi' : i < s.tr.length := by rw [h.ok.tl]; exact hi
  exact ⟨by rw [h1.cell i, h2.2 i hi', trAt_eq hi'], h1.fro i⟩
theorem OwnNums.natCells {B : Nat} {w : World} {v : Value} {d : List Nat} (h : OwnNums B w v (nums d)) : ∃ da dc, v = .slice da d.length dc ∧ (0 < d.length → ∃ dg, da = some ⟨dg, 0, none⟩ ∧ B ≤ dg ∧ dg < w.heap.size ∧ ∀ j (hj : j < d.length), w.cell? ⟨dg, j, none⟩ = some (.int .i64 ((d[j] : Nat) : Int))) := by
  obtain ⟨da, dc, hdv, _, hdc⟩ := h.value
  refine ⟨da, dc, by rw [hdv, nums_len], fun h0 => ?_⟩
  obtain ⟨dg, h1, h2, h3, h4⟩ := hdc (by rw [nums_len]; exact h0)
  refine ⟨dg, h1, h2, h3, fun j hj => ?_⟩
  have hj' : j < (nums d).length := by rw [nums_len]; exact hj
  have := h4 j hj'
  rw [nums_at] at this
  exact this
/-- The steps' cells. -/
theorem RunS.stepCell (h : RunS S B l a cap g gi gt dv rv cv w0 w s reps) : ∃ b off, a = some ⟨b, off, none⟩ ∧ b < B ∧ ∀ i (hi : i < l.length), w.cell? ⟨b, off + i * 4, none⟩ = some (.string (stepOf l i).name) ∧ w.cell? ⟨b, off + i * 4 + 2, none⟩ = some (.bool (stepOf l i).undo) ∧ w.cell? ⟨b, off + i * 4 + 3, none⟩ = some (.int .i64 (stepOf l i).tries) ∧ ∃ nv, w.cell? ⟨b, off + i * 4 + 1, none⟩ = some nv ∧ TxtsAt S w nv (stepOf l i).needs := by
  obtain ⟨_, a', cap', hv, hc⟩ := h.saga.at'
  simp only [Value.slice.injEq] at hv
  obtain ⟨rfl, -, rfl⟩ := hv
  obtain ⟨b, off, rfl, hS, hcell⟩ := hc (by have := h.saga.len; omega)
  exact ⟨b, off, rfl, h.saga.low b hS, fun i hi => by rw [stepOf_eq hi]; exact hcell i hi⟩
end
end Go.Proofs.YtlnfobeedpbnmaaDoor

namespace Go.Proofs.YtlnfobeedpbnmaaDoor
open Go.ChangeShapes Go.WideShapes Go.ChangeAt Go.RowKit
set_option linter.unusedVariables false
set_option linter.unusedSimpArgs false

section
variable {S : Nat → Prop} {B : Nat} {l : List Step} {a : Option Addr} {cap g gi gt : Nat} {dv rv cv : Value} {w0 w : World} {s : Sg} {reps : List Int}
theorem is_take {s : Sg} {x : Int} {k : Nat} (hk : k < s.is.length) (h0 : (s.is.take k).any (fun y => decide (y = x)) = false) (h1 : isAt s k ≠ x) : (s.is.take (k + 1)).any (fun y => decide (y = x)) = false := by
  rw [List.take_succ_eq_append_getElem hk, List.any_append, h0]
  rw [isAt_eq hk] at h1
  simp [h1]
set_option maxRecDepth 100000 in
set_option maxHeartbeats 1000000 in
theorem specAny (h : RunS S B l a cap g gi gt dv rv cv w0 w s reps) (x : Int) :
    Calls Tryd.prog 43 #[.pointer (some ⟨g, 0, none⟩), .int .i64 x] w fun e w' => e = .returned (.bool (anyB s x)) ∧ w' = w := by
  have c1 := h.blk.cell 1
  simp at c1
  have hl : l.length ≤ 20 := h.saga.len.2
  have hl' : (l.length : Int) ≤ 20 := by omega
  have HR : Hid (RunS S B l a cap g gi gt dv rv cv w0 w s reps) := h
  obtain ⟨F, hF⟩ : ∃ F, anyB s x = F := ⟨_, rfl⟩
  rw [hF]
  have HF : Hid (anyB s x = F) := hF
  clear h hF
  go_enter Tryd.func43, Tryd.ntmps43
  go_wp2_with fail
  go_loopw [5] (fun i5 wr => ∃ (k : Nat), i5 = .int .i64 (k : Int) ∧ k ≤ l.length ∧ (s.is.take k).any (fun y => decide (y = x)) = false ∧ wr = w) (fun i5 _ => l.length - (intOf i5).toNat)
  case atStart => exact ⟨0, rfl, by omega, by simp, rfl⟩
  case round =>
    obtain ⟨k, rfl, hk, hany, rfl⟩ := hrel
    have HA : Hid ((s.is.take k).any (fun y => decide (y = x)) = false) := hany
    clear hany
    by_cases hkn : k < l.length
    · have hkn' : (k : Int) < (l.length : Int) := by omega
      have hks : k < s.is.length := by rw [HR.out.ok.il]; exact hkn
      have d1 := (HR.out.isCell k hkn).1
      have hno := fun h1 => is_take (x := x) hks HA.out h1
      have hyes : isAt s k = x → F = true := fun e => by
        rw [← HF.out]
        exact List.any_eq_true.2 ⟨s.is[k], List.getElem_mem hks, by rw [isAt_eq hks] at e; simp [e]⟩
      obtain ⟨y, hy⟩ : ∃ y, isAt s k = y := ⟨_, rfl⟩
      rw [hy] at d1 hno hyes
      clear hy
      by_cases he : y = x
      · have hf := hyes he
        subst hf
        subst he
        clear hno hyes
        go_wp2_with fail
        go_ret
        exact ⟨rfl, rfl⟩
      · have HNO : Hid ((s.is.take (k + 1)).any (fun y => decide (y = x)) = false) := hno he
        clear hno hyes
        go_wp2_with fail
        exact ⟨⟨k + 1, rfl, by omega, HNO.out, by first | rfl | trivial⟩, by simp [intOf]; omega⟩
    · have hkn' : ¬ ((k : Int) < (l.length : Int)) := by omega
      have hA := HA.out
      rw [List.take_of_length_le (by rw [HR.out.ok.il]; omega)] at hA
      have hf : F = false := by rw [← HF.out]; exact hA
      subst hf
      go_wp2_with fail
      go_ret
      exact ⟨rfl, rfl⟩
theorem RunS.findC (h : RunS S B l a cap g gi gt dv rv cv w0 w s reps) (t : ByteArray) {W : World} (hW : Below w.heap.size w W) :
    Calls Tryd.prog 28 #[.slice a l.length cap, .string t] W fun e w' => e = .returned (.int .i64 (findI (names l) t)) ∧ w' = W := by
  obtain ⟨b, off, rfl, hb, hc⟩ := (h.go hW).stepCell
  refine specFind (names l) t _ l.length cap W (names_len l) (by have := h.saga.len; omega) (fun _ => ⟨b, off, rfl, fun i hi => ?_⟩)
  have hi' : i < l.length := by rwa [names_len] at hi
  rw [(hc i hi').1, stepOf_eq hi']
  simp [names]
theorem all_take {α : Type} (l : List α) (f : α → Bool) (k : Nat) (h : k < l.length) (h0 : (l.take k).all f = true) (h1 : f l[k] = true) : (l.take (k + 1)).all f = true := by
  rw [List.take_succ_eq_append_getElem h, List.all_append, h0]
  simp [h1]
set_option maxRecDepth 100000 in
set_option maxHeartbeats 2000000 in
theorem specReady (h : RunS S B l a cap g gi gt dv rv cv w0 w s reps) (i : Nat) (hi : i < l.length) :
    Calls Tryd.prog 42 #[.pointer (some ⟨g, 0, none⟩), .int .i64 (i : Int)] w fun e w' => e = .returned (.bool (askB l s i)) ∧ Below w.heap.size w w' := by
  obtain ⟨b, off, rfl, hbB, hst⟩ := h.stepCell
  obtain ⟨_, _, _, nv, e1, hnv⟩ := hst i hi
  have hl : l.length ≤ 20 := h.saga.len.2
  have hl' : (l.length : Int) ≤ 20 := by omega
  have hi' : (i : Int) < (l.length : Int) := by omega
  have hbs := h.size
  have hnd := h.saga.needs i hi
  have hnl := (h.saga.ok _ (List.getElem_mem hi)).2.1
  rw [← stepOf_eq hi] at hnd hnl
  obtain ⟨za, zc, hzv⟩ := hnv.shape
  subst hzv
  have hcc : 0 < (stepOf l i).needs.length → ∃ cb co, za = some ⟨cb, co, none⟩ ∧ cb < B ∧ ∀ j (hj : j < (stepOf l i).needs.length), w.cell? ⟨cb, co + j, none⟩ = some (.string (stepOf l i).needs[j]) := fun h0 => by
    obtain ⟨_, ta, tc, htv, hcl⟩ := hnv
    simp only [Value.slice.injEq] at htv
    obtain ⟨rfl, -, rfl⟩ := htv
    obtain ⟨cb, co, rfl, hcS, hcl⟩ := hcl h0
    exact ⟨cb, co, rfl, h.saga.low cb hcS, hcl⟩
  have hask : askB l s i = ((stepOf l i).needs.all (fun t => decide (isAt s (numOf l t) = 2)) && decide (isAt s i = 0)) := rfl
  rw [hask]
  obtain ⟨xs, hxs⟩ : ∃ xs, (stepOf l i).needs = xs := ⟨_, rfl⟩
  rw [hxs] at hnd hnl hcc e1 ⊢
  have HCC : Hid (0 < xs.length → ∃ cb co, za = some ⟨cb, co, none⟩ ∧ cb < B ∧ ∀ j (hj : j < xs.length), w.cell? ⟨cb, co + j, none⟩ = some (.string xs[j])) := hcc
  have HND : Hid (∀ t ∈ xs, 0 ≤ findI (names l) t) := hnd
  have HR : Hid (RunS S B l (some ⟨b, off, none⟩) cap g gi gt dv rv cv w0 w s reps) := h
  have HB : Hid (∀ W, Below w.heap.size w W → W.cell? ⟨b, off + i * 4 + 1, none⟩ = some (.slice za xs.length zc)) := fun W hW => (hW.cell (p := ⟨b, off + i * 4 + 1, none⟩) (Nat.lt_of_lt_of_le hbB hbs)).trans e1
  obtain ⟨F, hF⟩ : ∃ F, (xs.all (fun t => decide (isAt s (numOf l t) = 2)) && decide (isAt s i = 0)) = F := ⟨_, rfl⟩
  rw [hF]
  have HF : Hid ((xs.all (fun t => decide (isAt s (numOf l t) = 2)) && decide (isAt s i = 0)) = F) := hF
  clear h hst hnv hcc hnd hask hxs e1 hF
  go_enter Tryd.func42, Tryd.ntmps42
  go_wp2_with fail
  go_loopw [5] (fun i5 wr => ∃ (k : Nat), i5 = .int .i64 (k : Int) ∧ k ≤ xs.length ∧ (xs.take k).all (fun t => decide (isAt s (numOf l t) = 2)) = true ∧ Below w.heap.size w wr) (fun i5 _ => xs.length - (intOf i5).toNat)
  case atStart => exact ⟨0, rfl, by omega, by simp, Below.refl _ _⟩
  case round =>
    obtain ⟨k, rfl, hk, hany, hb⟩ := hrel
    have HA : Hid ((xs.take k).all (fun t => decide (isAt s (numOf l t) = 2)) = true) := hany
    have hR := HR.out.go hb
    have q0 := hR.blk.cell 0
    have q1 := hR.blk.cell 1
    have q2 := HB.out _ hb
    have q3 := (hR.isCell i hi).1
    simp at q0 q1
    clear hany
    by_cases hkn : k < xs.length
    · have hkn' : (k : Int) < (xs.length : Int) := by omega
      obtain ⟨cb, co, rfl, hcb, hcl⟩ := HCC.out (by omega)
      have hfd := find_lt (HND.out xs[k] (List.getElem_mem hkn))
      have hnx := all_take xs (fun t => decide (isAt s (numOf l t) = 2)) k hkn HA.out
      have hbad : decide (isAt s (numOf l xs[k]) = 2) = false → F = false := fun h0 => by
        rw [← HF.out, show xs.all (fun t => decide (isAt s (numOf l t) = 2)) = false from List.all_eq_false.2 ⟨xs[k], List.getElem_mem hkn, by rw [h0]; simp⟩]; rfl
      have r2 := hcl k hkn
      have cf := fun W (hW : Below wr.heap.size wr W) => hR.findC xs[k] hW
      obtain ⟨y, hy⟩ : ∃ y, xs[k] = y := ⟨_, rfl⟩
      rw [hy] at hfd hnx hbad r2 cf
      obtain ⟨j, hj⟩ : ∃ j, numOf l y = j := ⟨_, rfl⟩
      rw [hj] at hfd hnx hbad
      rw [← hfd.2] at cf
      have hjl := hfd.1
      have hjl' : (j : Int) < (l.length : Int) := by omega
      have p0 := fun N : GoodW (fun W => Below wr.heap.size wr W) => (hR.go N.ok).blk.cell 0
      have p1 := fun N : GoodW (fun W => Below wr.heap.size wr W) => (hR.go N.ok).blk.cell 1
      have p2 := fun N : GoodW (fun W => Below wr.heap.size wr W) => HB.out _ (good_below hb N.ok)
      have p3 := fun N : GoodW (fun W => Below wr.heap.size wr W) => ((good_below hb N.ok).cell (p := ⟨cb, co + k, none⟩) (Nat.lt_of_lt_of_le hcb hbs)).trans r2
      have p4 := fun N : GoodW (fun W => Below wr.heap.size wr W) => ((hR.go N.ok).isCell j hjl).1
      simp at p0 p1
      obtain ⟨v, hv⟩ : ∃ v, isAt s j = v := ⟨_, rfl⟩
      rw [hv] at hnx hbad
      simp only [hv] at p4
      have HNX : Hid (decide (v = 2) = true → (xs.take (k + 1)).all (fun t => decide (isAt s (numOf l t) = 2)) = true) := hnx
      have HBAD : Hid (decide (v = 2) = false → F = false) := hbad
      have HBW : Hid (Below w.heap.size w wr) := hb
      clear hnx hbad hcl hy hj hv hfd r2 hR q3
      haveI ne : Nonempty (GoodW (fun W => Below wr.heap.size wr W)) := ⟨⟨_, Below.refl _ _⟩⟩
      by_cases hv2 : v = 2
      · have ht := HNX.out (decide_eq_true hv2)
        have HT : Hid ((xs.take (k + 1)).all (fun t => decide (isAt s (numOf l t) = 2)) = true) := ht
        clear ht
        subst hv2
        go_upto_region 4 with fail
        refine wp_region_calm (fun W => Below wr.heap.size wr W) (by kernel_rfl) (by kernel_rfl) (Below.refl _ _).drew ?_
        repeat (go_big_quiet_step ((go_at_call 28; exact Calls.calm_same _ ((cf _ (GoodW.ok _)).mono fun _ _ ⟨h1, h2⟩ => ⟨h1, h2.symm⟩))))
        refine wpQuiet_nil ?_
        rintro _ ⟨⟨W2, hW2⟩, rfl⟩
        go_wp2_with fail
        go_roundw
        case rel => exact ⟨k + 1, by go_num, by omega, HT.out, good_below HBW.out hW2⟩
        case measure => simp [intOf]; omega
      · have hf := HBAD.out (decide_eq_false hv2)
        subst hf
        go_upto_region 4 with fail
        refine wp_region_calm (fun W => Below wr.heap.size wr W) (by kernel_rfl) (by kernel_rfl) (Below.refl _ _).drew ?_
        repeat (go_big_quiet_step ((go_at_call 28; exact Calls.calm_same _ ((cf _ (GoodW.ok _)).mono fun _ _ ⟨h1, h2⟩ => ⟨h1, h2.symm⟩))))
        refine wpQuiet_nil ?_
        rintro _ ⟨⟨W2, hW2⟩, rfl⟩
        go_wp2_with fail
        go_ret
        exact ⟨rfl, good_below HBW.out hW2⟩
    · have hkn' : ¬ ((k : Int) < (xs.length : Int)) := by omega
      have hA := HA.out
      rw [List.take_of_length_le (by omega)] at hA
      have hf := HF.out
      rw [hA, Bool.true_and] at hf
      obtain ⟨v, hv⟩ : ∃ v, isAt s i = v := ⟨_, rfl⟩
      rw [hv] at q3 hf
      subst hf
      clear hA hR hv
      go_wp2_with fail
      go_ret
      exact ⟨rfl, hb⟩
end
end Go.Proofs.YtlnfobeedpbnmaaDoor

namespace Go.Proofs.YtlnfobeedpbnmaaDoor
open Go.ChangeShapes Go.WideShapes Go.ChangeAt Go.RowKit
set_option linter.unusedVariables false
set_option linter.unusedSimpArgs false

section
variable {S : Nat → Prop} {B : Nat} {l : List Step} {a : Option Addr} {cap g gi gt : Nat} {dv rv cv : Value} {w0 w : World} {s : Sg} {reps : List Int}
theorem nums_append (l k : List Nat) : nums (l ++ k) = nums l ++ nums k := by simp [nums]
theorem grown_of {w w' : World} (hb : Below w.heap.size w w') (row : Option Nat) : w.grownBy w' row := ⟨hb.os, hb.tape, hb.output, hb.size, fun k hk _ => hb.block k hk⟩
theorem Ok.filt (h : Ok l s) (p : Nat → Bool) : Ok l { s with done := s.done.filter p } :=
  ⟨h.il, h.tl, h.dn.sublist List.filter_sublist, fun k hk => h.dk k (List.mem_filter.1 hk).1, h.tb⟩
theorem OwnNums.high {B b : Nat} {w : World} {v : Value} {l : List Int} (h : OwnNums B w v l) (hb : b < B) : Off v b := by
  rcases h.2 with ⟨rfl, _⟩ | ⟨k, cap, cur, rfl, hB, hg, _⟩
  · simp [Off, Value.ownBlock]
  · intro e
    simp [Value.ownBlock] at e
    omega
theorem OwnNums.low {B : Nat} {w : World} {v : Value} {l : List Int} (h : OwnNums B w v l) {b : Nat} (hb : v.ownBlock = some b) : b < w.heap.size := by
  rcases h.2 with ⟨rfl, _⟩ | ⟨k, cap, cur, rfl, hB, hg, _⟩
  · simp [Value.ownBlock] at hb
  · simp [Value.ownBlock] at hb
    subst hb
    exact (Array.getElem?_eq_some_iff.1 hg).1
theorem OwnNums.two {B B' : Nat} {w w' : World} {v u : Value} {l k : List Int} (h : OwnNums B w v l) (hu : OwnNums B' w' u k) (hs : w.heap.size ≤ B') : u.ownBlock = none ∨ u.ownBlock ≠ v.ownBlock := by
  cases e : v.ownBlock with
  | none =>
    cases u.ownBlock with
    | none => exact .inl rfl
    | some x => right; simp
  | some b => right; exact hu.high (Nat.lt_of_lt_of_le (h.low e) hs)
theorem done_take {d : List Nat} {k x : Nat} (hk : k < d.length) : (d.take (k + 1)).filter (fun j => !decide (j = x)) = (d.take k).filter (fun j => !decide (j = x)) ++ (if d[k] = x then [] else [d[k]]) := by
  rw [List.take_succ_eq_append_getElem hk, List.filter_append]
  by_cases e : d[k] = x
  · simp [e]
  · simp [e]
theorem NumsAt.newAt (w : World) (x : Int) (g : Nat) (hg : w.heap.size = g) : NumsAt (fun b => b = g) (w.alloc (.cells #[.int .i64 x] 3)) (.slice (some ⟨g, 0, none⟩) 1 1) [x] := by
  subst hg; exact NumsAt.new w x
set_option maxRecDepth 100000 in
set_option maxHeartbeats 4000000 in
theorem specDrop (h : RunS S B l a cap g gi gt dv rv cv w0 w s reps) (x : Nat) :
    Calls Tryd.prog 44 #[.pointer (some ⟨g, 0, none⟩), .int .i64 (x : Int)] w fun e w' => e = .returned (.tuple #[]) ∧ ∃ dv', RunS S B l a cap g gi gt dv' rv cv w0 w' { s with done := s.done.filter (fun j => !decide (j = x)) } reps := by
  have hdl := done_len h.ok
  have hl : l.length ≤ 20 := h.saga.len.2
  have hl' : (s.done.length : Int) ≤ 20 := by omega
  have HR : Hid (RunS S B l a cap g gi gt dv rv cv w0 w s reps) := h
  obtain ⟨da, dc, hdv, hdc⟩ := h.done.natCells
  subst hdv
  have HDC : Hid (0 < s.done.length → ∃ dg, da = some ⟨dg, 0, none⟩ ∧ B ≤ dg ∧ dg < w.heap.size ∧ ∀ j (hj : j < s.done.length), w.cell? ⟨dg, j, none⟩ = some (.int .i64 ((s.done[j] : Nat) : Int))) := hdc
  have HC3 : Hid (∀ W, Below w.heap.size w W → W.cell? ⟨g, 3, none⟩ = some (.slice da s.done.length dc)) := fun W hW => by have := (h.go hW).blk.cell 3; simpa using this
  have c3 := HC3.out _ ((Below.refl _ w).alloc (Nat.le_refl _) (.cells #[] 3))
  clear h hdc
  go_enter Tryd.func44, Tryd.ntmps44
  go_wp2_with fail
  go_loopw [4, 5] (fun i4 i5 wr => ∃ (k : Nat) (oa : Option Addr) (on' oc : Nat), i5 = .int .i64 (k : Int) ∧ i4 = .slice oa on' oc ∧ k ≤ s.done.length ∧ OwnNums w.heap.size wr (.slice oa on' oc) (nums ((s.done.take k).filter (fun j => !decide (j = x)))) ∧ Below w.heap.size w wr) (fun _ i5 _ => s.done.length - (intOf i5).toNat)
  case atStart => exact ⟨0, _, _, _, rfl, rfl, by omega, by simpa [nums] using OwnNums.empty w.heap.size w (Nat.le_refl _), (Below.refl _ w).alloc (Nat.le_refl _) _⟩
  case round =>
    clear c3
    obtain ⟨k, oa, on', oc, rfl, rfl, hk, hown, hb⟩ := hrel
    have HOW : Hid (OwnNums w.heap.size wr (.slice oa on' oc) (nums ((s.done.take k).filter (fun j => !decide (j = x))))) := hown
    have c3 := HC3.out _ hb
    clear hown
    by_cases hkn : k < s.done.length
    · have hkn' : (k : Int) < (s.done.length : Int) := by omega
      obtain ⟨dg, rfl, hdB, hdg, hcell⟩ := HDC.out (by omega)
      have d1 := (hb.cell (p := ⟨dg, k, none⟩) hdg).trans (hcell k hkn)
      have htk := done_take (x := x) hkn
      have hfl : ((s.done.take k).filter (fun j => !decide (j = x))).length ≤ k := Nat.le_trans (List.length_filter_le _ _) (by rw [List.length_take]; omega)
      obtain ⟨y, hy⟩ : ∃ y, s.done[k] = y := ⟨_, rfl⟩
      rw [hy] at d1 htk
      clear hcell hy
      have hbs := hb.size
      by_cases he : y = x
      · subst he
        rw [if_pos rfl, List.append_nil] at htk
        have HTK : Hid ((s.done.take (k + 1)).filter (fun j => !decide (j = y)) = (s.done.take k).filter (fun j => !decide (j = y))) := htk
        clear htk
        go_wp2_with fail
        refine ⟨⟨k + 1, _, _, _, rfl, rfl, by omega, ?_, hb⟩, by simp [intOf]; omega⟩
        rw [HTK.out]; exact HOW.out
      · rw [if_neg he] at htk
        have he' : ¬ ((y : Int) = (x : Int)) := by omega
        have HTK : Hid ((s.done.take (k + 1)).filter (fun j => !decide (j = x)) = (s.done.take k).filter (fun j => !decide (j = x)) ++ [y]) := htk
        have d2 := (((Below.refl _ wr).alloc (Nat.le_refl _) (.cells #[.int .i64 (y : Int)] 3)))
        clear htk
        go_wp2_with (at_builtin; go_must (refine wpList_appendNums rfl (.tmp 25) (.tmp 33) rfl w.heap.size (.slice oa on' oc) (nums ((s.done.take k).filter (fun j => !decide (j = x)))) rfl (OwnNums.below HOW.out ((Below.refl _ wr).alloc (Nat.le_refl _) _)) _ [(y : Int)] rfl (NumsAt.newAt _ (y : Int) _ (by simp)) (by rw [nums_len]; simp <;> omega) (by simp only [World.size_alloc]; omega) ?_; intro v9 w9 hown9 hB9 hgr9 hnil9; obtain ⟨a9, c9, e9, -⟩ := hown9.value; obtain ⟨n9, hn9⟩ : ∃ n9, (nums ((s.done.take k).filter (fun j => !decide (j = x))) ++ [(y : Int)]).length = n9 := ⟨_, rfl⟩; rw [hn9] at e9; clear hn9; subst e9))
        refine ⟨⟨k + 1, a9, n9, c9, rfl, rfl, by omega, ?_, ((hb.alloc hbs _).trans hB9)⟩, by simp [intOf]; omega⟩
        rw [HTK.out, nums_append]; exact hown9
    · have hkn' : ¬ ((k : Int) < (s.done.length : Int)) := by omega
      have hown := HOW.out
      rw [List.take_of_length_le (by omega)] at hown
      have hbw : B ≤ w.heap.size := HR.out.size
      obtain ⟨cs, hci, _⟩ := HR.out.is
      obtain ⟨ct, hct, _⟩ := HR.out.tr
      obtain ⟨hbk, H4⟩ := HR.out.growD (hown.mono hbw) (hb.mono hbw) (grown_of hb _) ⟨hown.high hci.lt, hown.high hct.lt, HR.out.reps.two hown (Nat.le_refl _)⟩ (HR.out.ok.filt _)
      have g3 := hbk.cell 3
      have f3 := hbk.fro 3
      simp at g3
      have HH4 : Hid (RunS S B l a cap g gi gt (.slice oa on' oc) rv cv w0 (wr.setCell ⟨g, 3, none⟩ (.slice oa on' oc)) { s with done := s.done.filter (fun j => !decide (j = x)) } reps) := H4
      clear hown H4 hbk hci hct
      go_wp2_with fail
      go_end0
      exact ⟨rfl, _, HH4.out⟩
theorem drop_last {s : Sg} (h : s.done.Nodup) (h0 : 0 < s.done.length) : s.done.filter (fun j => !decide (j = lastOf s)) = s.done.dropLast := by
  have e := last_split h0
  have hn : lastOf s ∉ s.done.dropLast := fun hm => by
    rw [e] at h
    exact (List.nodup_append.1 h).2.2 _ hm _ (by simp) rfl
  generalize lastOf s = x at *
  generalize hd : s.done.dropLast = d at *
  rw [e, List.filter_append]
  rw [List.filter_eq_self.2 (fun j hj => by simp; exact fun e => hn (e ▸ hj))]
  simp
end
end Go.Proofs.YtlnfobeedpbnmaaDoor

namespace Go.Proofs.YtlnfobeedpbnmaaDoor
open Go.ChangeShapes Go.WideShapes Go.ChangeAt Go.RowKit
set_option linter.unusedVariables false
set_option linter.unusedSimpArgs false

section
variable {S : Nat → Prop} {B : Nat} {l : List Step} {a : Option Addr} {cap g gi gt : Nat} {dv rv cv : Value} {w0 w : World} {s : Sg} {reps : List Int}
theorem RunS.drewN (h : RunS S B l a cap g gi gt dv rv cv w0 w s reps) (n : Nat) : RunS S B l a cap g gi gt dv rv cv w0 (w.drewN n) s reps := h.go (bel_drewN (Below.refl _ _) n)
/-- What a command leaves. -/
def CommandC (f : Nat) : Prop := ∀ {S : Nat → Prop} {B : Nat} {l : List Step} {a : Option Addr} {cap g gi gt : Nat} {dv rv cv : Value} {w0 w : World} {s : Sg} {reps : List Int}, RunS S B l a cap g gi gt dv rv cv w0 w s reps → ∀ (kind : Int) (i : Nat), i < l.length → s.cmds.length ≤ 900000 →
    Calls Tryd.prog f #[.pointer (some ⟨g, 0, none⟩), .int .i64 kind, .int .i64 (i : Int)] w fun e w' => e = .returned (.tuple #[]) ∧ ∃ cv', RunS S B l a cap g gi gt dv rv cv' w0 w' (cmdS l s kind i) reps
theorem ask_true {k : Nat} (h : askB l s k = true) : ask l s k = beg l s 1 1 k := by unfold ask; rw [if_pos h]
theorem ask_false {k : Nat} (h : askB l s k = false) : ask l s k = s := by unfold ask; rw [if_neg (by rw [h]; simp)]
theorem ask_idle {k : Nat} (h : askB l s k = true) : isAt s k = 0 := by
  unfold askB at h
  rw [Bool.and_eq_true] at h
  exact of_decide_eq_true h.2
set_option maxRecDepth 100000 in
set_option maxHeartbeats 4000000 in
theorem specFwd (hcm : CommandC 31) (h : RunS S B l a cap g gi gt dv rv cv w0 w s reps) (hc : s.cmds.length ≤ 800000) (h1 : s.st = 1) :
    Calls Tryd.prog 30 #[.pointer (some ⟨g, 0, none⟩)] w fun e w' => e = .returned (.tuple #[]) ∧ ∃ cv', RunS S B l a cap g gi gt dv rv cv' w0 w' (fwd l s) reps := by
  have c5 := h.blk.cell 5
  simp at c5
  rw [h1] at c5
  have hl : l.length ≤ 20 := h.saga.len.2
  have hl' : (l.length : Int) ≤ 20 := by omega
  have hdl := done_len h.ok
  have HR : Hid (RunS S B l a cap g gi gt dv rv cv w0 w s reps) := h
  have HCM : Hid (CommandC 31) := hcm
  have HC : Hid (s.cmds.length ≤ 800000) := hc
  clear h hc h1 hcm
  go_enter Tryd.func30, Tryd.ntmps30
  go_wp2_with fail
  go_loopw [2] (fun i2 wr => ∃ (k : Nat) (cv' : Value), i2 = .int .i64 (k : Int) ∧ k ≤ l.length ∧ RunS S B l a cap g gi gt dv rv cv' w0 wr (asks l s k) reps) (fun i2 _ => l.length - (intOf i2).toNat)
  case atStart => exact ⟨0, cv, rfl, by omega, HR.out⟩
  case round =>
    clear c5
    obtain ⟨k, cv', rfl, hk, hR⟩ := hrel
    have HR1 : Hid (RunS S B l a cap g gi gt dv rv cv' w0 wr (asks l s k) reps) := hR
    have c0 := hR.blk.cell 0
    simp at c0
    by_cases hkn : k < l.length
    case neg =>
      obtain rfl : k = l.length := by omega
      have hkn' : ¬ ((l.length : Int) < (l.length : Int)) := by omega
      obtain ⟨da, dc, hdv, -⟩ := hR.done.natCells
      rw [asks_done] at hdv
      by_cases hd : s.done.length = l.length
      · rw [hd] at hdv
        subst hdv
        have c3 := hR.blk.cell 3
        have c5 := hR.blk.cell 5
        have f5 := hR.blk.fro 5
        simp at c3 c5
        have H9 := fun n => (hR.drewN n).putSt 3
        have hfw : fwd l s = setSt (asks l s l.length) 3 := by unfold fwd; rw [asks_done, if_pos hd]
        have HFW : Hid (fwd l s = setSt (asks l s l.length) 3) := hfw
        have HH9 : Hid (∀ n, RunS S B l a cap g gi gt (.slice da l.length dc) rv cv' w0 ((wr.drewN n).setCell ⟨g, 5, none⟩ (.int .i64 3)) (setSt (asks l s l.length) 3) reps) := H9
        clear H9 hR hfw hd
        go_upto_region 8 with fail
        go_quiet (fail)
        go_wp2_with fail
        (try simp only [Exit.inBlock, Exit.then])
        refine bodyPost_ret (results_none rfl _ _ _) rfl ?_
        refine ⟨rfl, cv', ?_⟩
        rw [HFW.out]; exact HH9.out _
      · have hd' : ¬ ((s.done.length : Int) = (l.length : Int)) := by omega
        subst hdv
        have c3 := hR.blk.cell 3
        simp at c3
        have hfw : fwd l s = asks l s l.length := by unfold fwd; rw [asks_done, if_neg hd]
        have HFW : Hid (fwd l s = asks l s l.length) := hfw
        have HH9 : Hid (∀ n, RunS S B l a cap g gi gt (.slice da s.done.length dc) rv cv' w0 (wr.drewN n) (asks l s l.length) reps) := fun n => hR.drewN n
        clear hR hfw
        go_upto_region 8 with fail
        go_quiet (fail)
        go_wp2_with fail
        (try simp only [Exit.inBlock, Exit.then])
        refine bodyPost_ret (results_none rfl _ _ _) rfl ?_
        refine ⟨rfl, cv', ?_⟩
        rw [HFW.out]; exact HH9.out _
    have hkn' : (k : Int) < (l.length : Int) := by omega
    have crd := specReady hR k hkn
    have hnx := asks_succ l s k
    have hcl := asks_cmds l s k
    obtain ⟨t, ht⟩ : ∃ t, asks l s k = t := ⟨_, rfl⟩
    rw [ht] at crd hR hnx hcl
    have HR2 : Hid (RunS S B l a cap g gi gt dv rv cv' w0 wr t reps) := hR
    have HCL : Hid (t.cmds.length ≤ 900000) := by have := HC.out; show _ ≤ _; omega
    clear hR HR1 ht hcl
    cases hA : askB l t k
    case false =>
      rw [hA] at crd
      rw [ask_false hA] at hnx
      have HNX : Hid (asks l s (k + 1) = t) := hnx
      clear hA hnx
      go_wp2_with (go_at_call 42; go_must (refine crd.mono ?_; rintro e w1 ⟨rfl, hb1⟩))
      refine ⟨⟨k + 1, cv', rfl, by omega, ?_⟩, by simp [intOf]; omega⟩
      rw [HNX.out]; exact HR2.out.go hb1
    case true =>
      rw [hA] at crd
      have hidl := ask_idle hA
      have hnot : k ∉ t.done := HR2.out.ok.not (by omega)
      have HNX : Hid (asks l s (k + 1) = cmdS l (setTr (setIs t k 1) k 1) 1 k) := by rw [hnx, ask_true hA]; rfl
      have HO1 : Hid (Ok l (setIs t k 1)) := HR2.out.ok.setIs hkn 1 hnot
      have HO2 : Hid (Ok l (setTr (setIs t k 1) k 1)) := HO1.out.setTr hkn 1 (by omega) (by omega)
      clear hA hnx hnot hidl
      go_upto_region 5 with (go_at_call 42; go_must (refine crd.mono ?_; rintro e w1 ⟨rfl, hb1⟩))
      have H1 := HR2.out.go hb1
      have d1 := H1.blk.cell 1
      have d2 := H1.isCell k hkn
      simp at d1
      obtain ⟨d2, d3⟩ := d2
      have H2 := H1.putIs k 1 HO1.out
      have HH2 : Hid (RunS S B l a cap g gi gt dv rv cv' w0 (w1.setCell ⟨gi, k, none⟩ (.int .i64 1)) (setIs t k 1) reps) := H2
      clear H1 H2 crd
      go_upto_region 6 with fail
      obtain ⟨wA, hwA⟩ : ∃ wA, w1.setCell ⟨gi, k, none⟩ (.int .i64 1) = wA := ⟨_, rfl⟩
      rw [hwA] at HH2 ⊢
      clear hwA d1 d2 d3 hb1
      have H2 := HH2.out
      have d1 := H2.blk.cell 2
      have d2 := H2.trCell k hkn
      simp at d1
      obtain ⟨d2, d3⟩ := d2
      have H3 := H2.putTr k 1 HO2.out
      have HH3 : Hid (RunS S B l a cap g gi gt dv rv cv' w0 (wA.setCell ⟨gt, k, none⟩ (.int .i64 1)) (setTr (setIs t k 1) k 1) reps) := H3
      clear H2 H3 HH2
      go_upto_region 7 with fail
      obtain ⟨wB, hwB⟩ : ∃ wB, wA.setCell ⟨gt, k, none⟩ (.int .i64 1) = wB := ⟨_, rfl⟩
      rw [hwB] at HH3 ⊢
      clear hwB d1 d2 d3
      have cc := HCM.out HH3.out 1 k hkn HCL.out
      go_wp2_with (go_at_call 31; go_must (refine cc.mono ?_; rintro e w5 ⟨rfl, cv5, H5⟩))
      refine ⟨⟨k + 1, cv5, rfl, by omega, ?_⟩, by simp [intOf]; omega⟩
      rw [HNX.out]; exact H5
end
end Go.Proofs.YtlnfobeedpbnmaaDoor
