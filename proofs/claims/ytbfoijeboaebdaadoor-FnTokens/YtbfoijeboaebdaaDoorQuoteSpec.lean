/-
  The contract of spec.Quote: it hands back the text's lexeme (quoteOf). No statement of the seat is proved here.
-/
import Derived.Test.YtbfoijeboaebdaaDoorQuote0
namespace Go.Proofs.YtbfoijeboaebdaaDoor
open Go.ChangeShapes Go.WideShapes Go.ChangeAt Go.RowKit
set_option linter.unusedVariables false

theorem cells2 (w : World) (x y : Nat) (hx : x < 256) (hy : y < 256) (j : Nat) (hj : j < [b8 x, b8 y].length) : (w.alloc (.cells #[.int .u8 (x : Int), .int .u8 (y : Int)] 5)).cell? ((⟨w.heap.size, 0, none⟩ : Addr).add j) = some (bv [b8 x, b8 y][j]) :=
  many_new w [x, y] (by intro n hn; simp at hn; omega) j hj
theorem cells4 (w : World) (x y z u : Nat) (hx : x < 256) (hy : y < 256) (hz : z < 256) (hu : u < 256) (j : Nat) (hj : j < [b8 x, b8 y, b8 z, b8 u].length) : (w.alloc (.cells #[.int .u8 (x : Int), .int .u8 (y : Int), .int .u8 (z : Int), .int .u8 (u : Int)] 5)).cell? ((⟨w.heap.size, 0, none⟩ : Addr).add j) = some (bv [b8 x, b8 y, b8 z, b8 u][j]) :=
  many_new w [x, y, z, u] (by intro n hn; simp at hn; omega) j hj

theorem hexGet (n : Nat) (h : n < 16) (h' : n < (⟨#[48, 49, 50, 51, 52, 53, 54, 55, 56, 57, 97, 98, 99, 100, 101, 102]⟩ : ByteArray).size) : (⟨#[48, 49, 50, 51, 52, 53, 54, 55, 56, 57, 97, 98, 99, 100, 101, 102]⟩ : ByteArray)[n]'h' = b8 (hexD n) := by
  obtain rfl | rfl | rfl | rfl | rfl | rfl | rfl | rfl | rfl | rfl | rfl | rfl | rfl | rfl | rfl | rfl : n = 0 ∨ n = 1 ∨ n = 2 ∨ n = 3 ∨ n = 4 ∨ n = 5 ∨ n = 6 ∨ n = 7 ∨ n = 8 ∨ n = 9 ∨ n = 10 ∨ n = 11 ∨ n = 12 ∨ n = 13 ∨ n = 14 ∨ n = 15 := by omega
  all_goals rfl
theorem hexGetI (q : Int) (n : Nat) (hq : q.toNat = n) (h : n < 16) (h' : q.toNat < (⟨#[48, 49, 50, 51, 52, 53, 54, 55, 56, 57, 97, 98, 99, 100, 101, 102]⟩ : ByteArray).size) : (⟨#[48, 49, 50, 51, 52, 53, 54, 55, 56, 57, 97, 98, 99, 100, 101, 102]⟩ : ByteArray)[q.toNat]'h' = b8 (hexD n) := by
  subst hq
  exact hexGet _ h h'
theorem toNat_b8 (n : Nat) (h : n < 256) : (b8 n).toNat = n := by
  unfold b8
  exact UInt8.toNat_ofNat_of_lt' (by simpa using h)
theorem wrap_u8 (q : Int) (h0 : 0 ≤ q) (h1 : q < 256) : IntKind.u8.wrap q = q := by
  simp only [IntKind.wrap, IntKind.bits, IntKind.signed]
  simp
  omega

set_option maxRecDepth 1000000 in
set_option maxHeartbeats 2000000 in
theorem specQuote (s : ByteArray) (hs : s.size ≤ 65536) (w : World) :
    Calls Tryd.prog 8 #[.string s] w fun e w' => e = .returned (.string ⟨([b8 34] ++ qFrom s 0 ++ [b8 34]).toArray⟩) ∧ Below w.heap.size w w' := by
  have h1 : ¬ ((65536 : Int) < (s.size : Int)) := by omega
  obtain ⟨F, hF⟩ : ∃ F, [b8 34] ++ qFrom s 0 = F := ⟨_, rfl⟩
  have HF : Hid ([b8 34] ++ qFrom s 0 = F) := hF
  rw [hF]
  clear hF
  go_enter Tryd.func8, Tryd.ntmps8
  go_wp2
  go_loopw [3, 4] (fun v i wr => ∃ (k : Nat) (l : List UInt8), k ≤ s.size ∧ l.length ≤ 4 * k + 1 ∧ i = .int .i64 (k : Int) ∧ OwnB w.heap.size wr v l ∧ l ++ qFrom s k = F ∧ Below w.heap.size w wr) (fun _ i _ => s.size - (intOf i).toNat)
  case atStart =>
    refine ⟨0, [b8 34], by omega, by simp, rfl, ?_, HF, (Below.refl _ w).alloc (Nat.le_refl _) _⟩
    exact ⟨rfl, .inr ⟨w.heap.size, 1, #[.int .u8 34], rfl, Nat.le_refl _, heap_alloc_last w _, Nat.le_refl _, by decide, rfl, rfl⟩⟩
  case round =>
    obtain ⟨k, l, hk, hlk, rfl, hown, hlF, hB⟩ := hrel
    have HL : Hid (l ++ qFrom s k = F) := hlF
    clear hlF HF
    by_cases hkn : k < s.size
    · have c := specRune s k hs hkn
      have cw := specWrong s k hs hkn
      have hle := (decode_le s k).1
      have hg1 := (decode_le s k).2.1
      have hg4 := (decode_le s k).2.2
      have hft := decode_fits s k hkn
      have hwf := @wrongB_false s k
      have hba := byt_eq s k hkn
      have hbl := byt_lt s k
      have hq := qFrom_on hkn
      unfold qPiece at hq
      obtain ⟨R, hR⟩ : ∃ R, (Utf8.decode s k).1 = R := ⟨_, rfl⟩
      obtain ⟨K, hK⟩ : ∃ K, (Utf8.decode s k).2 = K := ⟨_, rfl⟩
      obtain ⟨W, hW⟩ : ∃ W, wrongB s k = W := ⟨_, rfl⟩
      obtain ⟨b, hb⟩ : ∃ b, byt s k = b := ⟨_, rfl⟩
      rw [hR, hK] at c
      rw [hR, hK, hW, hb] at hq
      rw [hW] at cw hwf
      rw [hR] at hle hwf
      rw [hK] at hg1 hg4 hft
      rw [hb] at hba hbl
      clear hR hK hW hb
      have hkz : (k : Int) < (s.size : Int) := by omega
      have hHL := HL.out
      rw [hq, ← List.append_assoc] at hHL
      clear hq HL
      by_cases h10 : R = 10
      · subst h10
        rw [if_pos rfl] at hHL
        have HN : Hid (l ++ [b8 92, b8 110] ++ qFrom s (k + K) = F) := hHL
        clear hHL cw hwf
        go_wp2_with (first
          | (go_at_call 23; go_must (refine (c _).mono ?_; rintro e w1 ⟨rfl, hB1⟩))
          | (at_builtin; go_must (refine wpList_appendB rfl (.tmp 33) (.tmp 34) 22 rfl Tryd.underlying22 info5 w.heap.size u3 l rfl ((hown.below hB1).below ((Below.refl _ w1).alloc (Nat.le_refl _) _)) ⟨w1.heap.size, 0, none⟩ 2 2 [b8 92, b8 110] rfl rfl (cells2 w1 92 110 (by decide) (by decide)) (by simp; omega) (by simp; have := hB.size; have := hB1.size; omega) ?_; intro v4 w4 hown4 hB4 hgr4)))
        go_wp2
        go_roundw
        case rel => exact ⟨k + K, l ++ [b8 92, b8 110], by omega, by simp; omega, by go_num, hown4, HN, ((hB.trans (hB1.mono hB.size)).alloc (Nat.le_trans hB.size hB1.size) _).trans hB4⟩
        case measure => simp [intOf]; omega
      rw [if_neg h10] at hHL
      have q10 : ((R : Int) == 10) = false := by rw [beq_eq_false_iff_ne]; omega
      by_cases h34 : R = 34 ∨ R = 92
      · rw [if_pos h34] at hHL
        have HN : Hid (l ++ [b8 92, b8 R] ++ qFrom s (k + K) = F) := hHL
        clear hHL cw hwf h10
        rcases h34 with rfl | rfl
        · go_wp2_with (first
            | (go_at_call 23; go_must (refine (c _).mono ?_; rintro e w1 ⟨rfl, hB1⟩))
            | (at_builtin; go_must (refine wpList_appendB rfl (.tmp 43) (.tmp 46) 22 rfl Tryd.underlying22 info5 w.heap.size u3 l rfl ((hown.below hB1).below ((Below.refl _ w1).alloc (Nat.le_refl _) _)) ⟨w1.heap.size, 0, none⟩ 2 2 [b8 92, b8 34] rfl rfl (cells2 w1 92 34 (by decide) (by decide)) (by simp; omega) (by simp; have := hB.size; have := hB1.size; omega) ?_; intro v4 w4 hown4 hB4 hgr4)))
          go_wp2
          go_roundw
          case rel => exact ⟨k + K, l ++ [b8 92, b8 34], by omega, by simp; omega, by go_num, hown4, HN, ((hB.trans (hB1.mono hB.size)).alloc (Nat.le_trans hB.size hB1.size) _).trans hB4⟩
          case measure => simp [intOf]; omega
        · go_wp2_with (first
            | (go_at_call 23; go_must (refine (c _).mono ?_; rintro e w1 ⟨rfl, hB1⟩))
            | (at_builtin; go_must (refine wpList_appendB rfl (.tmp 43) (.tmp 46) 22 rfl Tryd.underlying22 info5 w.heap.size u3 l rfl ((hown.below hB1).below ((Below.refl _ w1).alloc (Nat.le_refl _) _)) ⟨w1.heap.size, 0, none⟩ 2 2 [b8 92, b8 92] rfl rfl (cells2 w1 92 92 (by decide) (by decide)) (by simp; omega) (by simp; have := hB.size; have := hB1.size; omega) ?_; intro v4 w4 hown4 hB4 hgr4)))
          go_wp2
          go_roundw
          case rel => exact ⟨k + K, l ++ [b8 92, b8 92], by omega, by simp; omega, by go_num, hown4, HN, ((hB.trans (hB1.mono hB.size)).alloc (Nat.le_trans hB.size hB1.size) _).trans hB4⟩
          case measure => simp [intOf]; omega
      rw [if_neg h34] at hHL
      have q34 : ((R : Int) == 34) = false := by rw [beq_eq_false_iff_ne]; omega
      have q92 : ((R : Int) == 92) = false := by rw [beq_eq_false_iff_ne]; omega
      by_cases hx : R < 32 ∨ R = 127 ∨ W = true
      · rw [if_pos hx] at hHL
        have HN : Hid (l ++ [b8 92, b8 120, b8 (hexD (b / 16)), b8 (hexD (b % 16))] ++ qFrom s (k + K) = F) := hHL
        have d1 := hexD_lt (b / 16) (by omega)
        have d2 := hexD_lt (b % 16) (by omega)
        have g1 := hexGetI ((b : Int) / 16) (b / 16) (by omega) (by omega)
        have g2 := hexGetI ((b : Int) % 16) (b % 16) (by omega) (by omega)
        have p1 := wrap_u8 ((b : Int) / 16) (by omega) (by omega)
        have p2 := wrap_u8 ((b : Int) % 16) (by omega) (by omega)
        have e1 : (b : Int) / 16 < 16 := by omega
        have tm : (b : Int).tmod 16 = (b : Int) % 16 := Int.tmod_eq_emod_of_nonneg (by omega)
        have n1 : (0 : Int) ≤ (b : Int) / 16 := by omega
        have n2 : (0 : Int) ≤ (b : Int) % 16 := by omega
        have e2 : (b : Int) % 16 < 16 := by omega
        obtain ⟨x, hx1⟩ : ∃ x, hexD (b / 16) = x := ⟨_, rfl⟩
        obtain ⟨y, hy1⟩ : ∃ y, hexD (b % 16) = y := ⟨_, rfl⟩
        rw [hx1] at HN d1 g1
        rw [hy1] at HN d2 g2
        have t1 := toNat_b8 x d1
        have t2 := toNat_b8 y d2
        clear hHL hwf h10 h34 hx1 hy1
        by_cases h32 : R < 32
        · have h32' : (R : Int) < 32 := by omega
          clear hx cw
          go_wp2_with (go_at_call 23; go_must (refine (c _).mono ?_; rintro e w1 ⟨rfl, hB1⟩))
          go_region_law (refine step_appendB rfl (.tmp 60) (.tmp 71) 22 rfl Tryd.underlying22 info5 w.heap.size u3 l (by simp [Act.eval]) ((hown.below hB1).below (((Below.refl _ w1).alloc (Nat.le_refl _) _).drew)) ⟨w1.heap.size, 0, none⟩ 4 4 [b8 92, b8 120, b8 x, b8 y] (by simp [Act.eval]) rfl (cells4 w1 92 120 x y (by decide) (by decide) d1 d2) (by simp; omega) (by simp; have := hB.size; have := hB1.size; omega) ?_; intro v4 w4 hown4 hB4 hgr4)
          all_goals
            go_wp2
            go_roundw
            case rel => exact ⟨k + K, l ++ [b8 92, b8 120, b8 x, b8 y], by omega, by simp; omega, by go_num, hown4, HN, (((hB.trans (hB1.mono hB.size)).alloc (Nat.le_trans hB.size hB1.size) _).drew).trans hB4⟩
            case measure => simp [intOf]; omega
        have h32' : ¬ ((R : Int) < 32) := by omega
        by_cases h127 : R = 127
        · subst h127
          clear hx cw
          go_wp2_with (go_at_call 23; go_must (refine (c _).mono ?_; rintro e w1 ⟨rfl, hB1⟩))
          go_region_law (refine step_appendB rfl (.tmp 60) (.tmp 71) 22 rfl Tryd.underlying22 info5 w.heap.size u3 l (by simp [Act.eval]) ((hown.below hB1).below (((Below.refl _ w1).alloc (Nat.le_refl _) _).drew)) ⟨w1.heap.size, 0, none⟩ 4 4 [b8 92, b8 120, b8 x, b8 y] (by simp [Act.eval]) rfl (cells4 w1 92 120 x y (by decide) (by decide) d1 d2) (by simp; omega) (by simp; have := hB.size; have := hB1.size; omega) ?_; intro v4 w4 hown4 hB4 hgr4)
          all_goals
            go_wp2
            go_roundw
            case rel => exact ⟨k + K, l ++ [b8 92, b8 120, b8 x, b8 y], by omega, by simp; omega, by go_num, hown4, HN, (((hB.trans (hB1.mono hB.size)).alloc (Nat.le_trans hB.size hB1.size) _).drew).trans hB4⟩
            case measure => simp [intOf]; omega
        have q127 : ((R : Int) == 127) = false := by rw [beq_eq_false_iff_ne]; omega
        have hWt : W = true := by
          rcases hx with h | h | h
          · exact absurd h h32
          · exact absurd h h127
          · exact h
        subst hWt
        clear hx h32 h127
        · go_wp2_with (first | (go_at_call 23; go_must (refine (c _).mono ?_; rintro e w1 ⟨rfl, hB1⟩)) | (go_at_call 24; go_must (refine (cw _).mono ?_; rintro e w2 ⟨rfl, hB2⟩)))
          go_region_law (refine step_appendB rfl (.tmp 60) (.tmp 71) 22 rfl Tryd.underlying22 info5 w.heap.size u3 l (by simp [Act.eval]) (((hown.below hB1).below hB2).below (((Below.refl _ w2).alloc (Nat.le_refl _) _).drew)) ⟨w2.heap.size, 0, none⟩ 4 4 [b8 92, b8 120, b8 x, b8 y] (by simp [Act.eval]) rfl (cells4 w2 92 120 x y (by decide) (by decide) d1 d2) (by simp; omega) (by simp; have := hB.size; have := hB1.size; have := hB2.size; omega) ?_; intro v4 w4 hown4 hB4 hgr4)
          all_goals
            go_wp2
            go_roundw
            case rel => exact ⟨k + K, l ++ [b8 92, b8 120, b8 x, b8 y], by omega, by simp; omega, by go_num, hown4, HN, ((((hB.trans (hB1.mono hB.size)).trans (hB2.mono (Nat.le_trans hB.size hB1.size))).alloc (Nat.le_trans hB.size (Nat.le_trans hB1.size hB2.size)) _).drew).trans hB4⟩
            case measure => simp [intOf]; omega
      · rw [if_neg hx] at hHL
        obtain ⟨X, hX⟩ : ∃ X, s.extract k (k + K) = X := ⟨_, rfl⟩
        have hXs : X.size = K := by rw [← hX]; simp; omega
        have hXl : X.data.toList.length = K := (show _ = X.size from Array.length_toList).trans hXs
        rw [hX] at hHL
        have HN : Hid (l ++ X.data.toList ++ qFrom s (k + K) = F) := hHL
        have h32' : ¬ ((R : Int) < 32) := fun h => hx (.inl (by omega))
        have q127 : ((R : Int) == 127) = false := by rw [beq_eq_false_iff_ne]; intro h; exact hx (.inr (.inl (by omega)))
        have hWf : W = false := by
          cases W
          · rfl
          · exact absurd (.inr (.inr rfl)) hx
        subst hWf
        have hconv := fun w => Lib.run_convert_string_bytes (P := Tryd.prog) w 9 22 5 X Tryd.underlying9 Tryd.underlying22 Tryd.underlying5
        clear hHL hwf h10 h34 hx
        go_wp2_with (first
          | (go_at_call 23; go_must (refine (c _).mono ?_; rintro e w1 ⟨rfl, hB1⟩))
          | (go_at_call 24; go_must (refine (cw _).mono ?_; rintro e w2 ⟨rfl, hB2⟩))
          | (at_builtin; go_must (refine wpList_appendB rfl (.tmp 21) (.tmp 28) 22 rfl Tryd.underlying22 info5 w.heap.size u3 l rfl (((hown.below hB1).below hB2).below (bytesWorld_below w2 X)) ⟨w2.heap.size, 0, none⟩ _ _ X.data.toList rfl hXl (bytes_cells w2 X) (by omega) (by rw [Lib.bytesWorld_size]; have := hB.size; have := hB1.size; have := hB2.size; omega) ?_; intro v4 w4 hown4 hB4 hgr4)))
        go_wp2
        go_roundw
        case rel => exact ⟨k + K, l ++ X.data.toList, by omega, by rw [List.length_append]; omega, by go_num, hown4, HN, (((hB.trans (hB1.mono hB.size)).trans (hB2.mono (Nat.le_trans hB.size hB1.size))).trans ((bytesWorld_below w2 X).mono (Nat.le_trans hB.size (Nat.le_trans hB1.size hB2.size)))).trans hB4⟩
        case measure => simp [intOf]; omega
    · have hkz : ¬ ((k : Int) < (s.size : Int)) := by omega
      have hl : l = F := by
        have := HL.out
        rw [qFrom_out hkn, List.append_nil] at this
        exact this
      subst hl
      go_wp2_with (first
        | (at_builtin; go_must (refine wpList_appendB rfl (.tmp 76) (.tmp 77) 22 rfl Tryd.underlying22 info5 w.heap.size u3 l rfl (hown.below ((Below.refl _ wr).alloc (Nat.le_refl _) _)) ⟨wr.heap.size, 0, none⟩ 1 1 [b8 34] rfl rfl (one_new wr 34 (by decide)) (by simp; omega) (by simp; have := hB.size; omega) ?_; intro v4 w4 hown4 hB4 hgr4))
        | (refine wpList_stringOf rfl 22 9 (.tmp 78) rfl Tryd.underlying9 Tryd.underlying22 Tryd.underlying5 w.heap.size v4 (l ++ [b8 34]) rfl hown4 ?_))
      go_ret
      exact ⟨rfl, (hB.alloc hB.size _).trans hB4⟩
end Go.Proofs.YtbfoijeboaebdaaDoor
