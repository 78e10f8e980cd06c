/-
  The contract of spec.l01Text: it answers as 'readFrom' tells. No statement of the seat is proved here.
-/
import Derived.Test.YtbfoijeboaebdaaDoorText
namespace Go.Proofs.YtbfoijeboaebdaaDoor
open Go.ChangeShapes Go.WideShapes Go.ChangeAt Go.RowKit
set_option linter.unusedVariables false

set_option maxRecDepth 1000000 in
set_option maxHeartbeats 2000000 in
theorem specText (s : ByteArray) (a : Nat) (hs : s.size ≤ 65536) (ha : a < s.size) (w : World) :
    Calls Tryd.prog 59 #[.string s, .int .i64 a] w fun e w' => e = .returned (.tuple #[.string ⟨(readFrom s a (a + 1) []).txt.toArray⟩, .int .i64 (readFrom s a (a + 1) []).stop, .int .i64 (readFrom s a (a + 1) []).code, .int .i64 (readFrom s a (a + 1) []).place]) ∧ Below w.heap.size w w' := by
  obtain ⟨F, hF⟩ : ∃ F, readFrom s a (a + 1) [] = F := ⟨_, rfl⟩
  have HF : Hid (readFrom s a (a + 1) [] = F) := hF
  rw [hF]
  clear hF
  go_enter Tryd.func59, Tryd.ntmps59
  go_wp2
  go_loopw [8, 9] (fun v i wr => ∃ (k : Nat) (l : List UInt8), k ≤ s.size ∧ l.length ≤ k ∧ i = .int .i64 (k : Int) ∧ OwnB w.heap.size wr v l ∧ readFrom s a k l = F ∧ Below w.heap.size w wr) (fun _ i _ => s.size - (intOf i).toNat)
  case atStart =>
    refine ⟨a + 1, [], by omega, by simp, by go_num, ?_, HF, (Below.refl _ w).alloc (Nat.le_refl _) _⟩
    exact ⟨rfl, .inr ⟨w.heap.size, 0, #[], rfl, Nat.le_refl _, heap_alloc_last w _, Nat.le_refl _, by decide, rfl, rfl⟩⟩
  case round =>
    obtain ⟨k, l, hk, hlk, rfl, hown, hlF, hB⟩ := hrel
    have HL : Hid (readFrom s a k l = F) := hlF
    clear hlF HF
    by_cases hkn : k < s.size
    · have c := specRune s k hs hkn
      have cw := specWrong s k hs hkn
      have ce := specEscape s k hs hkn
      have hle := (decode_le s k).1
      have hg1 := (decode_le s k).2.1
      have hg4 := (decode_le s k).2.2
      have hft := decode_fits s k hkn
      have heb := esc_bounds s k
      have rq := read_quote (a := a) (acc := l) hkn
      have rw_ := read_wrong (a := a) (acc := l) hkn
      have rl := read_low (a := a) (acc := l) hkn
      have rb := read_bad (a := a) (acc := l) hkn
      have re := read_esc (a := a) (acc := l) hkn
      have ro := read_on (a := a) (acc := l) hkn
      have hwf := @wrongB_false s k
      rw [HL.out] at rq rw_ rl rb re ro
      obtain ⟨R, hR⟩ : ∃ R, (Utf8.decode s k).1 = R := ⟨_, rfl⟩
      obtain ⟨K, hK⟩ : ∃ K, (Utf8.decode s k).2 = K := ⟨_, rfl⟩
      obtain ⟨W, hW⟩ : ∃ W, wrongB s k = W := ⟨_, rfl⟩
      obtain ⟨eb, heb1⟩ : ∃ x, (esc s k).1 = x := ⟨_, rfl⟩
      obtain ⟨ek, hek⟩ : ∃ x, (esc s k).2 = x := ⟨_, rfl⟩
      rw [hR, hK] at c
      rw [hW] at cw
      rw [heb1, hek] at ce heb
      rw [hR] at rq rw_ rl rb re ro hle hwf
      rw [hK] at ro hg1 hg4 hft
      rw [hW] at rw_ rl rb re ro hwf
      rw [hek] at rb re
      rw [heb1] at re
      clear hR hK hW heb1 hek HL
      have hkz : (k : Int) < (s.size : Int) := by omega
      by_cases h34 : R = 34
      · have hF := rq h34
        subst hF
        subst h34
        clear rq rw_ rl rb re ro cw ce heb hwf
        go_wp2_with (first | (go_at_call 23; go_must (refine (c _).mono ?_; rintro e w1 ⟨rfl, hB1⟩)) | (refine wpList_stringOf rfl 22 9 (.tmp 30) rfl Tryd.underlying9 Tryd.underlying22 Tryd.underlying5 w.heap.size u8 l rfl (hown.below hB1) ?_))
        (try simp only [Exit.inBlock, Exit.then]); refine bodyPost_ret (results_tmp4 rfl _ _ _) rfl ?_
        exact ⟨rfl, hB.trans (hB1.mono hB.size)⟩
      have q34 : ((R : Int) == 34) = false := by rw [beq_eq_false_iff_ne]; omega
      cases W
      · have hW := rfl (a := false)
        by_cases h32 : R < 32
        · have hF := rl h34 rfl h32
          subst hF
          have h32' : (R : Int) < 32 := by omega
          clear rq rw_ rl rb re ro ce heb hwf
          go_wp2_with (first | (go_at_call 23; go_must (refine (c _).mono ?_; rintro e w1 ⟨rfl, hB1⟩)) | (go_at_call 24; go_must (refine (cw _).mono ?_; rintro e w2 ⟨rfl, hB2⟩)))
          (try simp only [Exit.inBlock, Exit.then]); refine bodyPost_ret (results_tmp4 rfl _ _ _) rfl ?_
          exact ⟨rfl, (hB.trans (hB1.mono hB.size)).trans (hB2.mono (Nat.le_trans hB.size hB1.size))⟩
        have h32' : ¬ ((R : Int) < 32) := by omega
        by_cases h92 : R = 92
        · by_cases he : ek = 0
          · have hF := rb rfl h92 he
            subst hF
            subst h92
            subst he
            clear rq rw_ rl rb re ro heb hwf
            go_wp2_with (first | (go_at_call 23; go_must (refine (c _).mono ?_; rintro e w1 ⟨rfl, hB1⟩)) | (go_at_call 24; go_must (refine (cw _).mono ?_; rintro e w2 ⟨rfl, hB2⟩)) | (go_at_call 73; go_must (refine (ce _).mono ?_; rintro e w3 ⟨rfl, hB3⟩)))
            (try simp only [Exit.inBlock, Exit.then]); refine bodyPost_ret (results_tmp4 rfl _ _ _) rfl ?_
            exact ⟨rfl, ((hB.trans (hB1.mono hB.size)).trans (hB2.mono (Nat.le_trans hB.size hB1.size))).trans (hB3.mono (Nat.le_trans hB.size (Nat.le_trans hB1.size hB2.size)))⟩
          · have hF := re rfl h92 he
            have HN : Hid (readFrom s a (k + ek) (l ++ [b8 eb]) = F) := hF.symm
            subst h92
            have qe : ((ek : Int) == 0) = false := by rw [beq_eq_false_iff_ne]; omega
            have heb' := heb.1
            have hek2 : 2 ≤ ek ∧ k + ek ≤ s.size := by omega
            clear rq rw_ rl rb re ro heb hwf hF he
            go_wp2_with (first
              | (go_at_call 23; go_must (refine (c _).mono ?_; rintro e w1 ⟨rfl, hB1⟩))
              | (go_at_call 24; go_must (refine (cw _).mono ?_; rintro e w2 ⟨rfl, hB2⟩))
              | (go_at_call 73; go_must (refine (ce _).mono ?_; rintro e w3 ⟨rfl, hB3⟩))
              | (at_builtin; go_must (refine wpList_appendB rfl (.tmp 55) (.tmp 57) 22 rfl Tryd.underlying22 info5 w.heap.size u8 l rfl ((((hown.below hB1).below hB2).below hB3).below ((Below.refl _ w3).alloc (Nat.le_refl _) _)) ⟨w3.heap.size, 0, none⟩ 1 1 [b8 eb] rfl rfl (one_new w3 eb heb') (by simp; omega) (by simp; have := hB.size; have := hB1.size; have := hB2.size; have := hB3.size; omega) ?_; intro v4 w4 hown4 hB4 hgr4)))
            go_wp2
            go_roundw
            case rel => exact ⟨k + ek, l ++ [b8 eb], by omega, by simp; omega, by go_num, hown4, HN, ((((hB.trans (hB1.mono hB.size)).trans (hB2.mono (Nat.le_trans hB.size hB1.size))).trans (hB3.mono (Nat.le_trans hB.size (Nat.le_trans hB1.size hB2.size)))).alloc (Nat.le_trans hB.size (Nat.le_trans hB1.size (Nat.le_trans hB2.size hB3.size))) _).trans hB4⟩
            case measure => simp [intOf]; omega
        · obtain ⟨X, hX⟩ : ∃ X, s.extract k (k + K) = X := ⟨_, rfl⟩
          have hXs : X.size = K := by rw [← hX]; simp; omega
          have hXl : X.data.toList.length = K := (show _ = X.size from Array.length_toList).trans hXs
          have hF := ro h34 rfl h32 h92
          rw [hX] at hF
          have HN : Hid (readFrom s a (k + K) (l ++ X.data.toList) = F) := hF.symm
          have q92 : ((R : Int) == 92) = false := by rw [beq_eq_false_iff_ne]; omega
          have hconv := fun w => Lib.run_convert_string_bytes (P := Tryd.prog) w 9 22 5 X Tryd.underlying9 Tryd.underlying22 Tryd.underlying5
          clear rq rw_ rl rb re ro heb hwf hF ce
          go_wp2_with (first
            | (go_at_call 23; go_must (refine (c _).mono ?_; rintro e w1 ⟨rfl, hB1⟩))
            | (go_at_call 24; go_must (refine (cw _).mono ?_; rintro e w2 ⟨rfl, hB2⟩))
            | (at_builtin; go_must (refine wpList_appendB rfl (.tmp 62) (.tmp 69) 22 rfl Tryd.underlying22 info5 w.heap.size u8 l rfl (((hown.below hB1).below hB2).below (bytesWorld_below w2 X)) ⟨w2.heap.size, 0, none⟩ _ _ X.data.toList rfl hXl (bytes_cells w2 X) (by omega) (by rw [Lib.bytesWorld_size]; have := hB.size; have := hB1.size; have := hB2.size; omega) ?_; intro v4 w4 hown4 hB4 hgr4)))
          go_wp2
          go_roundw
          case rel => exact ⟨k + K, l ++ X.data.toList, by omega, by rw [List.length_append]; omega, by go_num, hown4, HN, (((hB.trans (hB1.mono hB.size)).trans (hB2.mono (Nat.le_trans hB.size hB1.size))).trans ((bytesWorld_below w2 X).mono (Nat.le_trans hB.size (Nat.le_trans hB1.size hB2.size)))).trans hB4⟩
          case measure => simp [intOf]; omega
      · have hF := rw_ h34 rfl
        subst hF
        clear rq rw_ rl rb re ro ce heb hwf
        go_wp2_with (first | (go_at_call 23; go_must (refine (c _).mono ?_; rintro e w1 ⟨rfl, hB1⟩)) | (go_at_call 24; go_must (refine (cw _).mono ?_; rintro e w2 ⟨rfl, hB2⟩)))
        (try simp only [Exit.inBlock, Exit.then]); refine bodyPost_ret (results_tmp4 rfl _ _ _) rfl ?_
        exact ⟨rfl, (hB.trans (hB1.mono hB.size)).trans (hB2.mono (Nat.le_trans hB.size hB1.size))⟩
    · have hF := HL.out
      rw [read_out hkn] at hF
      subst hF
      have hkz : ¬ ((k : Int) < (s.size : Int)) := by omega
      go_wp2
      (try simp only [Exit.inBlock, Exit.then]); refine bodyPost_ret (results_tmp4 rfl _ _ _) rfl ?_
      exact ⟨rfl, hB⟩
end Go.Proofs.YtbfoijeboaebdaaDoor
