/-
  The contracts of spec.CodeOf and impl.CodeOf: each hands back the number of the first word that is the text, -1 where none is. No statement of the seat is proved here.
-/
import Derived.Test.YtmlhcmcmlngenahWordWalks
namespace Go.Proofs.Ytmlhcmcmlngenah
open Go.ChangeShapes Go.WideShapes Go.ChangeAt Go.RowKit

theorem bytes_eq {a b : ByteArray} (h : (a.toList == b.toList) = true) : a = b := by
  rw [beq_iff_eq, ByteArray.toList_eq, ByteArray.toList_eq] at h
  exact ByteArray.ext (Array.toList_inj.mp h)
theorem bytes_ne {a b : ByteArray} (h : (a.toList == b.toList) = false) : a ≠ b := by
  rintro rfl
  simp at h

theorem code_hit {s : ByteArray} {k : Nat} (hk : k ≤ 19) (hn : Hid (∀ j, j < k → wordAt j ≠ s)) (h : ((wordAt k).toList == s.toList) = true) : IsCode wordAt s (k : Int) :=
  .inl ⟨k, by omega, bytes_eq h, hn, rfl⟩
theorem code_miss {s : ByteArray} {k : Nat} (hk : 19 < k) (hn : Hid (∀ j, j < k → wordAt j ≠ s)) : IsCode wordAt s (-1) :=
  .inr ⟨fun j hj => hn j (by omega), rfl⟩
theorem code_on {s : ByteArray} {k : Nat} (hn : Hid (∀ j, j < k → wordAt j ≠ s)) (h : ((wordAt k).toList == s.toList) = false) : ∀ j, j < k + 1 → wordAt j ≠ s := by
  intro j hj
  by_cases e : j = k
  · subst e; exact bytes_ne h
  · exact hn j (by omega)

set_option maxHeartbeats 400000 in
theorem specCodeOf (s : ByteArray) (w : World) :
    Calls Try.prog 8 #[.string s] w fun e w' => (∃ r, e = .returned (.int .i64 r) ∧ IsCode wordAt s r) ∧ Grown w w' := by
  go_enter Try.func8, Try.ntmps8
  go_wp2
  go_loopw [3] (fun i wr => ∃ k : Nat, k ≤ 20 ∧ i = .int .i64 k ∧ (∀ j, j < k → wordAt j ≠ s) ∧ Grown w wr) (fun i _ => 21 - (intOf i).toNat)
  case atStart => exact ⟨0, by omega, rfl, fun j hj => by omega, Grown.refl _⟩
  case round =>
    obtain ⟨k, hk, rfl, hno, hgr⟩ := hrel
    have HN : Hid (∀ j, j < k → wordAt j ≠ s) := hno
    clear hno
    have hwk : wordOf (k : Int) = wordAt k := by rw [wordOf_in (by omega)]; rfl
    go_wp2_with (go_at_call 6; refine (specCodeWord _ _).mono ?_; rintro e w1 ⟨rfl, hg1⟩; rw [hwk])
    · have h1 : (k : Int) ≤ 19 := by assumption
      have h2 : ((wordAt k).toList == s.toList) = true := by assumption
      go_ret
      exact ⟨⟨k, rfl, code_hit (by omega) HN h2⟩, grown_trans hgr hg1⟩
    · have h1 : (k : Int) ≤ 19 := by assumption
      have h2 : ((wordAt k).toList == s.toList) = false := by assumption
      refine ⟨⟨k + 1, by omega, by simp, code_on HN h2, grown_trans hgr hg1⟩, ?_⟩
      simp [intOf]; omega
    · have h1 : 19 < (k : Int) := by assumption
      go_ret
      exact ⟨⟨-1, rfl, code_miss (by omega) HN⟩, hgr⟩
theorem index_words (k : Nat) (hk : k < 20) (w : World) : (Instr.index 27 (.agg wordCells) (.int .i64 (k : Int))).run Try.prog w = .ok (.string (wordAt k)) w := by
  obtain rfl | rfl | rfl | rfl | rfl | rfl | rfl | rfl | rfl | rfl | rfl | rfl | rfl | rfl | rfl | rfl | rfl | rfl | rfl | rfl : k = 0 ∨ k = 1 ∨ k = 2 ∨ k = 3 ∨ k = 4 ∨ k = 5 ∨ k = 6 ∨ k = 7 ∨ k = 8 ∨ k = 9 ∨ k = 10 ∨ k = 11 ∨ k = 12 ∨ k = 13 ∨ k = 14 ∨ k = 15 ∨ k = 16 ∨ k = 17 ∨ k = 18 ∨ k = 19 := by omega
  all_goals kernel_rfl

set_option maxHeartbeats 400000 in
theorem implCodeOf (s : ByteArray) (w : World) :
    Calls Try.prog 9 #[.string s] w fun e w' => (∃ r, e = .returned (.int .i64 r) ∧ IsCode wordAt s r) ∧ Grown w w' := by
  go_enter Try.func9, Try.ntmps9
  go_wp2_with (go_at_call 12; refine (codeWords _).mono ?_; rintro e w' ⟨rfl, rfl⟩)
  go_loop [6] (fun i => ∃ k : Nat, k ≤ 20 ∧ i = .int .i64 k ∧ (∀ j, j < k → wordAt j ≠ s)) (fun i => 21 - (intOf i).toNat)
  case atStart => exact ⟨0, by omega, rfl, fun j hj => by omega⟩
  case round =>
    obtain ⟨k, hk, rfl, hno⟩ := hrel
    have HN : Hid (∀ j, j < k → wordAt j ≠ s) := hno
    clear hno
    by_cases h20 : k < 20
    · have hidx := fun w => index_words k h20 w
      go_wp2
      · have h2 : ((wordAt k).toList == s.toList) = true := by assumption
        go_ret
        exact ⟨⟨k, rfl, code_hit (by omega) HN h2⟩, Grown.alloc (Grown.refl _) _ _⟩
      · have h2 : ((wordAt k).toList == s.toList) = false := by assumption
        go_round
        case rel => exact ⟨k + 1, by omega, by simp, code_on HN h2⟩
        case measure => simp [intOf]; omega
    · go_wp2
      go_ret
      exact ⟨⟨-1, rfl, code_miss (by omega) HN⟩, Grown.alloc (Grown.refl _) _ _⟩
end Go.Proofs.Ytmlhcmcmlngenah
