/-
  What spec.l11Find, l00Has answer. No statement of the seat is proved here.
-/
import Derived.Test.YtbpijollcjdkhaaDoorG6
import Derived.Test.YtbpijollcjdkhaaDoorNameWalks
namespace Go.Proofs.YtbpijollcjdkhaaDoor
open Go.ChangeShapes Go.WideShapes Go.ChangeAt Go.RowKit
set_option linter.unusedVariables false
set_option linter.unusedSimpArgs false

/-- Where a text stands first, -1 if nowhere. -/
def findI : List ByteArray → ByteArray → Int
  | [], _ => -1
  | x :: l, t => if x.toList == t.toList then 0 else if findI l t < 0 then -1 else findI l t + 1
theorem findI_ge (l : List ByteArray) (t : ByteArray) : -1 ≤ findI l t ∧ findI l t < l.length := by
  induction l with
  | nil => simp [findI]
  | cons x l ih =>
    unfold findI
    split
    · simp <;> omega
    · split
      · simp <;> omega
      · simp <;> omega
theorem findI_has (l : List ByteArray) (t : ByteArray) : decide (0 ≤ findI l t) = hasB l t := by
  induction l with
  | nil => simp [findI, hasB]
  | cons x l ih =>
    unfold findI
    have h := findI_ge l t
    have hc : hasB (x :: l) t = ((x.toList == t.toList) || hasB l t) := by simp [hasB]
    rw [hc, ← ih]
    cases e : (x.toList == t.toList)
    · simp only [Bool.false_eq_true, if_false, Bool.false_or]
      split
      · rename_i h1
        rw [decide_eq_false (show ¬ ((0 : Int) ≤ -1) by omega), decide_eq_false (by omega)]
      · rw [decide_eq_true (by omega), decide_eq_true (by omega)]
    · simp
theorem findI_at {l : List ByteArray} {t : ByteArray} {k : Nat} (hk : k < l.length) (h0 : ∀ i (hi : i < l.length), i < k → (l[i].toList == t.toList) = false) (h1 : (l[k].toList == t.toList) = true) : findI l t = (k : Int) := by
  induction l generalizing k with
  | nil => simp at hk
  | cons x l ih =>
    cases k with
    | zero => unfold findI; simp only [List.getElem_cons_zero] at h1; rw [if_pos h1]; rfl
    | succ k =>
      have h2 := ih (k := k) (by simpa using hk) (fun i hi hik => by have := h0 (i + 1) (by simp; omega) (by omega); simpa using this) (by simpa using h1)
      have h3 := h0 0 (by simp) (by omega)
      unfold findI
      simp only [List.getElem_cons_zero] at h3
      rw [if_neg (by rw [h3]; simp), h2, if_neg (by omega)]
      omega
theorem findI_none {l : List ByteArray} {t : ByteArray} (h0 : ∀ i (hi : i < l.length), (l[i].toList == t.toList) = false) : findI l t = -1 := by
  have h := findI_ge l t
  have h1 := findI_has l t
  have : hasB l t = false := by
    unfold hasB
    rw [List.any_eq_false]
    intro x hx
    obtain ⟨i, hi, rfl⟩ := List.getElem_of_mem hx
    rw [h0 i hi]; simp
  rw [this] at h1
  simp only [decide_eq_false_iff_not] at h1
  omega
set_option maxRecDepth 100000 in
set_option maxHeartbeats 1000000 in
theorem specFind (ss : List ByteArray) (t : ByteArray) (a : Option Addr) (n cap : Nat) (w : World) (hn : ss.length = n) (hlen : n ≤ 2000000)
    (hc : 0 < n → ∃ b off, a = some ⟨b, off, none⟩ ∧ ∀ i (hi : i < ss.length), w.cell? ⟨b, off + i * 4, none⟩ = some (.string ss[i])) :
    Calls Tryd.prog 43 #[.slice a n cap, .string t] w fun e w' => e = .returned (.int .i64 (findI ss t)) ∧ w' = w := by
  have HC : Hid (0 < n → ∃ b off, a = some ⟨b, off, none⟩ ∧ ∀ i (hi : i < ss.length), w.cell? ⟨b, off + i * 4, none⟩ = some (.string ss[i])) := hc
  have HN : Hid (ss.length = n) := hn
  have hlen' : (n : Int) ≤ 2000000 := by omega
  clear hc hn
  obtain ⟨R, hR⟩ : ∃ R, findI ss t = R := ⟨_, rfl⟩
  rw [hR]
  have HR : Hid (findI ss t = R) := hR
  clear hR
  go_enter Tryd.func43, Tryd.ntmps43
  go_wp2_with fail
  go_loopw [5] (fun i5 wr => ∃ (k : Nat), i5 = .int .i64 (k : Int) ∧ k ≤ n ∧ (∀ i (hi : i < ss.length), i < k → (ss[i].toList == t.toList) = false) ∧ wr = w) (fun i5 _ => n - (intOf i5).toNat)
  case atStart => exact ⟨0, rfl, by omega, fun i _ h => by omega, rfl⟩
  case round =>
    obtain ⟨k, rfl, hk, hall, rfl⟩ := hrel
    have HA : Hid (∀ i (hi : i < ss.length), i < k → (ss[i].toList == t.toList) = false) := hall
    clear hall
    by_cases hkn : k < n
    · have hkn' : (k : Int) < (n : Int) := by omega
      have hks : k < ss.length := by rw [HN.out]; exact hkn
      obtain ⟨b, off, rfl, hcell⟩ := HC.out (by omega)
      have d1 := hcell k hks
      obtain ⟨x, hx⟩ : ∃ x, ss[k] = x := ⟨_, rfl⟩
      rw [hx] at d1
      have HX : Hid (ss[k] = x) := hx
      clear hx hcell
      by_cases he : (x.toList == t.toList) = true
      · go_wp2_with fail
        go_ret
        refine ⟨?_, rfl⟩
        rw [← HR.out, findI_at hks HA.out (by rw [HX.out]; exact he)]; rfl
      · have he' : (x.toList == t.toList) = false := by simpa using he
        clear he
        go_wp2_with fail
        refine ⟨⟨k + 1, rfl, by omega, fun i hi hik => ?_, by first | rfl | trivial⟩, by simp [intOf]; omega⟩
        by_cases e : i = k
        · subst e; rw [HX.out]; exact he'
        · exact HA.out i hi (by omega)
    · have hkn' : ¬ ((k : Int) < (n : Int)) := by omega
      go_wp2_with fail
      go_ret
      refine ⟨?_, rfl⟩
      rw [← HR.out, findI_none (fun i hi => HA.out i hi (by have := HN.out; omega))]; rfl
set_option maxRecDepth 100000 in
set_option maxHeartbeats 1000000 in
theorem specHasN (ss : List ByteArray) (t : ByteArray) (a : Option Addr) (n cap : Nat) (w : World) (hn : ss.length = n) (hlen : n ≤ 2000000)
    (hc : 0 < n → ∃ b off, a = some ⟨b, off, none⟩ ∧ ∀ i (hi : i < ss.length), w.cell? ⟨b, off + i, none⟩ = some (.string ss[i])) :
    Calls Tryd.prog 44 #[.slice a n cap, .string t] w fun e w' => e = .returned (.bool (hasB ss t)) ∧ w' = w := by
  have HC : Hid (0 < n → ∃ b off, a = some ⟨b, off, none⟩ ∧ ∀ i (hi : i < ss.length), w.cell? ⟨b, off + i, none⟩ = some (.string ss[i])) := hc
  have HN : Hid (ss.length = n) := hn
  have hlen' : (n : Int) ≤ 2000000 := by omega
  clear hc hn
  obtain ⟨R, hR⟩ : ∃ R, hasB ss t = R := ⟨_, rfl⟩
  rw [hR]
  have HR : Hid (hasB ss t = R) := hR
  clear hR
  go_enter Tryd.func44, Tryd.ntmps44
  go_wp2_with fail
  go_loopw [5] (fun i5 wr => ∃ (k : Nat), i5 = .int .i64 (k : Int) ∧ k ≤ n ∧ (∀ i (hi : i < ss.length), i < k → (ss[i].toList == t.toList) = false) ∧ wr = w) (fun i5 _ => n - (intOf i5).toNat)
  case atStart => exact ⟨0, rfl, by omega, fun i _ h => by omega, rfl⟩
  case round =>
    obtain ⟨k, rfl, hk, hall, rfl⟩ := hrel
    have HA : Hid (∀ i (hi : i < ss.length), i < k → (ss[i].toList == t.toList) = false) := hall
    clear hall
    by_cases hkn : k < n
    · have hkn' : (k : Int) < (n : Int) := by omega
      have hks : k < ss.length := by rw [HN.out]; exact hkn
      obtain ⟨b, off, rfl, hcell⟩ := HC.out (by omega)
      have d1 := hcell k hks
      obtain ⟨x, hx⟩ : ∃ x, ss[k] = x := ⟨_, rfl⟩
      rw [hx] at d1
      have HX : Hid (ss[k] = x) := hx
      clear hx hcell
      by_cases he : (x.toList == t.toList) = true
      · go_wp2_with fail
        go_ret
        refine ⟨?_, rfl⟩
        have : hasB ss t = true := List.any_eq_true.2 ⟨ss[k], List.getElem_mem hks, by rw [HX.out]; exact he⟩
        rw [← HR.out, this]; rfl
      · have he' : (x.toList == t.toList) = false := by simpa using he
        clear he
        go_wp2_with fail
        refine ⟨⟨k + 1, rfl, by omega, fun i hi hik => ?_, by first | rfl | trivial⟩, by simp [intOf]; omega⟩
        by_cases e : i = k
        · subst e; rw [HX.out]; exact he'
        · exact HA.out i hi (by omega)
    · have hkn' : ¬ ((k : Int) < (n : Int)) := by omega
      go_wp2_with fail
      go_ret
      refine ⟨?_, rfl⟩
      have : hasB ss t = false := by
        unfold hasB
        rw [List.any_eq_false]
        intro x hx
        obtain ⟨i, hi, rfl⟩ := List.getElem_of_mem hx
        rw [HA.out i hi (by have := HN.out; omega)]; simp
      rw [← HR.out, this]; rfl
end Go.Proofs.YtbpijollcjdkhaaDoor
