/-
  The contract of spec.Fold: it hands back the folded text (foldFrom). No statement of the seat is proved here.
-/
import Derived.Test.YtbfoijeboaebdaaDoorFoldSpec
namespace Go.Proofs.YtbfoijeboaebdaaDoor
open Go.ChangeShapes Go.WideShapes Go.ChangeAt Go.RowKit
set_option linter.unusedVariables false
set_option maxRecDepth 1000000 in
set_option maxHeartbeats 2000000 in
theorem specFold (s : ByteArray) (hs : s.size ≤ 65536) (w : World) :
    Calls Tryd.prog 13 #[.string s] w fun e w' => e = .returned (.string ⟨(foldFrom s 0).toArray⟩) ∧ Below w.heap.size w w' := by
  have h1 : ¬ ((65536 : Int) < (s.size : Int)) := by omega
  obtain ⟨F, hF⟩ : ∃ F, foldFrom s 0 = F := ⟨_, rfl⟩
  have hFl : F.length ≤ 65536 := by rw [← hF, foldFrom_length s 0 (by omega)]; omega
  have HF : Hid (foldFrom s 0 = F) := hF
  rw [hF]
  clear hF
  go_enter Tryd.func13, Tryd.ntmps13
  go_wp2
  go_loopw [3, 4] (fun v i wr => ∃ (k : Nat) (l : List UInt8), k ≤ s.size ∧ i = .int .i64 (k : Int) ∧ OwnB w.heap.size wr v l ∧ l ++ foldFrom s k = F ∧ Below w.heap.size w wr) (fun _ i _ => s.size - (intOf i).toNat)
  case atStart =>
    refine ⟨0, [], by omega, rfl, ?_, HF, (Below.refl _ w).alloc (Nat.le_refl _) _⟩
    exact ⟨rfl, .inr ⟨w.heap.size, 0, #[], rfl, Nat.le_refl _, heap_alloc_last w _, Nat.le_refl _, by decide, rfl, rfl⟩⟩
  case round =>
    obtain ⟨k, l, hk, rfl, hown, hlF, hB⟩ := hrel
    have HL : Hid (l ++ foldFrom s k = F) := hlF
    have hll : l.length ≤ 65536 := by
      have := congrArg List.length hlF
      rw [List.length_append] at this
      omega
    clear hlF HF
    by_cases hkn : k < s.size
    · have c := specRune s k hs hkn
      have hle := (decode_le s k).1
      have hg1 := (decode_le s k).2.1
      have hg4 := (decode_le s k).2.2
      have hft := decode_fits s k hkn
      have hon := foldFrom_on hkn
      unfold foldPiece at hon
      have hcw := cap_ways ((Utf8.decode s k).1 : Int)
      obtain ⟨R, hR⟩ : ∃ R, (Utf8.decode s k).1 = R := ⟨_, rfl⟩
      obtain ⟨K, hK⟩ : ∃ K, (Utf8.decode s k).2 = K := ⟨_, rfl⟩
      rw [hR] at hle hcw
      rw [hR, hK] at c hon
      rw [hK] at hg1 hg4 hft
      clear hR hK
      have hkz : (k : Int) < (s.size : Int) := by omega
      rcases hcw with ⟨hc, hcw⟩ | ⟨hc, hcw⟩
      · rw [if_pos hc] at hon
        have hsm := cap_small hc
        have hel : (enc2 (R + 32)).length ≤ 2 := by rw [enc2_length]; split <;> omega
        have ce : ∀ w, Calls Tryd.prog 29 #[.int .i64 ((R : Int) + 32)] w fun e w' => e = .returned (.slice (some ⟨w.heap.size, 0, none⟩) (enc2 (R + 32)).length (enc2 (R + 32)).length) ∧ w.alloc (.cells ((enc2 (R + 32)).map bv).toArray 5) = w' := fun w => specEncode (R + 32) hsm.1 w
        have HN : Hid (l ++ enc2 (R + 32) ++ foldFrom s (k + K) = F) := by
          have := HL.out
          rw [hon, ← List.append_assoc] at this
          exact this
        clear hc hon hsm HL
        rcases hcw with h | h | h | h | h | h
        all_goals
          obtain ⟨ha, hb⟩ := h
          go_wp2_with (first
          | (go_at_call 23; go_must (refine (c _).mono ?_; rintro e w1 ⟨rfl, hB1⟩))
          | (go_at_call 29; go_must (refine (ce _).mono ?_; rintro e w2 ⟨rfl, hw2⟩; subst hw2))
          | (at_builtin; refine wpList_appendB rfl (.tmp 59) (.tmp 62) 22 rfl Tryd.underlying22 info5 w.heap.size u3 l rfl ((hown.below hB1).below ((Below.refl _ w1).alloc (Nat.le_refl _) _)) ⟨w1.heap.size, 0, none⟩ _ _ (enc2 (R + 32)) rfl rfl (fcells_new w1 _) (by omega) (by simp; have := hB.size; have := hB1.size; omega) ?_; intro v3 w3 hown3 hB3 hgr3))
          go_wp2
          go_roundw
          case rel => exact ⟨k + K, l ++ enc2 (R + 32), by omega, by go_num, hown3, HN, ((hB.trans (hB1.mono hB.size)).alloc (Nat.le_trans hB.size hB1.size) _).trans hB3⟩
          case measure => simp [intOf]; omega
      · rw [if_neg (by simp [hc])] at hon
        obtain ⟨X, hX⟩ : ∃ X, s.extract k (k + K) = X := ⟨_, rfl⟩
        have hXs : X.size = K := by rw [← hX]; simp; omega
        have hXl : X.data.toList.length = K := (show _ = X.size from Array.length_toList).trans hXs
        rw [hX] at hon
        have HN : Hid (l ++ X.data.toList ++ foldFrom s (k + K) = F) := by
          have := HL.out
          rw [hon, ← List.append_assoc] at this
          exact this
        clear hc hon HL
        have hconv := fun w => Lib.run_convert_string_bytes (P := Tryd.prog) w 9 22 5 X Tryd.underlying9 Tryd.underlying22 Tryd.underlying5
        rcases hcw with h | h | h | h | h | h | h
        all_goals
          go_wp2_with (first
            | (go_at_call 23; go_must (refine (c _).mono ?_; rintro e w1 ⟨rfl, hB1⟩))
            | (at_builtin; refine wpList_appendB rfl (.tmp 64) (.tmp 71) 22 rfl Tryd.underlying22 info5 w.heap.size u3 l rfl ((hown.below hB1).below (bytesWorld_below w1 X)) ⟨w1.heap.size, 0, none⟩ _ _ X.data.toList rfl hXl (bytes_cells w1 X) (by omega) (by rw [Lib.bytesWorld_size]; have := hB.size; have := hB1.size; omega) ?_; intro v3 w3 hown3 hB3 hgr3))
          go_wp2
          go_roundw
          case rel => exact ⟨k + K, l ++ X.data.toList, by omega, by go_num, hown3, HN, ((hB.trans (hB1.mono hB.size)).trans ((bytesWorld_below w1 X).mono (Nat.le_trans hB.size hB1.size))).trans hB3⟩
          case measure => simp [intOf]; omega
    · have hkz : ¬ ((k : Int) < (s.size : Int)) := by omega
      have hl : l = F := by
        have := HL.out
        rw [foldFrom_out hkn, List.append_nil] at this
        exact this
      subst hl
      go_wp2_with (refine wpList_stringOf rfl 22 9 (.tmp 76) rfl Tryd.underlying9 Tryd.underlying22 Tryd.underlying5 w.heap.size u3 l rfl hown ?_)
      go_ret
      exact ⟨rfl, hB⟩
end Go.Proofs.YtbfoijeboaebdaaDoor
