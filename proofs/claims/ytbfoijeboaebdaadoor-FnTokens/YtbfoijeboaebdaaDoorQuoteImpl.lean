/-
  The contract of impl.Quote: it hands back the text's lexeme (qFrom between two quotes). No statement of the seat is proved here.
-/
import Derived.Test.YtbfoijeboaebdaaDoorQuote1
import Derived.Test.YtbfoijeboaebdaaDoorQuoteSpec
namespace Go.Proofs.YtbfoijeboaebdaaDoor
open Go.ChangeShapes Go.WideShapes Go.ChangeAt Go.RowKit
set_option linter.unusedVariables false

theorem appendRune' (s : ByteArray) (k : Nat) (hk : k < s.size) (hw : wrongB s k = false) (B : Nat) (v : Value) (l : List UInt8) (w : World) (hown : OwnB B w v l) (hl : l.length ≤ 1000000) (hBw : B ≤ w.heap.size) :
    Calls Tryd.prog 21 #[v, .int .i32 ((Utf8.decode s k).1 : Int)] w fun e w' => ∃ v', e = .returned v' ∧ OwnB B w' v' (l ++ (s.extract k (k + (Utf8.decode s k).2)).data.toList) ∧ Below B w w' ∧ ∀ (j : Nat) (t : ByteArray) (p : Nat), w.heap[j]? = some (.stringIter t p) → w'.heap[j]? = some (.stringIter t p) := by
  have hle := (decode_le s k).1
  refine (Tryd.utf8_AppendRune_plain B v l.length (l.map bv) ((Utf8.decode s k).1 : Int) (by omega) (by omega) w hown (by omega) hBw).mono ?_
  rintro e w' ⟨v', rfl, h1, o, h2⟩
  rw [rune_back s k hk hw] at h1
  refine ⟨v', rfl, ?_, ?_, ?_⟩
  · unfold OwnB
    rw [List.map_append, List.length_append]
    rw [List.length_map] at h1
    exact h1
  · exact ((Below.refl _ w).alloc hBw o).grown h2 (Nat.le_trans hBw (by simp)) (OwnB.block hown)
  · intro j t p hj
    have ha := iter_alloc hj o
    rw [h2.block j (Array.getElem?_eq_some_iff.1 ha).1 (own_ne hown hj)]
    exact ha

/-- What impl.Quote keeps from round to round: the lexeme's beginning l in a row of its own, the iterator at the place k. -/
structure QAt (w : World) (s : ByteArray) (F : List UInt8) (k : Nat) (l : List UInt8) (v : Value) (wr : World) : Prop where
  le : k ≤ s.size
  len : l.length ≤ 4 * k + 1
  all : l ++ qFrom s k = F
  iter : wr.heap[w.heap.size + 1]? = some (.stringIter s k)
  own : OwnB w.heap.size wr v l
  below : Below w.heap.size w wr

/-- A slot that is written: the frame's slots laid out. -/
theorem put_norm {E : Exit → Act → World → Prop} {x : Exit} {tm : Array Value} {ds : List Deferred} {v : Value} {w : World} (h : E x { tmps := tm.setIfInBounds 3 v, defers := ds } w) : E x (Act.put { tmps := tm, defers := ds } (some 3) v) w := h

set_option maxRecDepth 1000000 in
set_option maxHeartbeats 2000000 in
theorem implQuote (s : ByteArray) (hs : s.size ≤ 65536) (w : World) (hT : Lib.Utf8Tabs 0 1 w) :
    Calls Tryd.prog 6 #[.string s] w fun e w' => e = .returned (.string ⟨([b8 34] ++ qFrom s 0 ++ [b8 34]).toArray⟩) ∧ Below w.heap.size w w' := by
  have h1 : ¬ ((65536 : Int) < (s.size : Int)) := by omega
  obtain ⟨F, hF⟩ : ∃ F, [b8 34] ++ qFrom s 0 = F := ⟨_, rfl⟩
  have HF : Hid ([b8 34] ++ qFrom s 0 = F) := hF
  have HT : Hid (Lib.Utf8Tabs 0 1 w) := hT
  rw [hF]
  clear hF hT
  go_enter Tryd.func6, Tryd.ntmps6
  go_wp2
  go_loopw [3] (fun v wr => ∃ (k : Nat) (l : List UInt8), QAt w s F k l v wr) (fun _ wr => s.size - wr.iterPos (w.heap.size + 1))
  case atStart =>
    refine ⟨0, [b8 34], by omega, by simp, HF, ?_, ?_, ?_⟩
    · have := heap_alloc_last (w.alloc (.cells #[.int .u8 34] 5)) (.stringIter s 0)
      rw [show (w.alloc (.cells #[.int .u8 34] 5)).heap.size = w.heap.size + 1 by simp] at this
      exact this
    · have h0 : OwnB w.heap.size (w.alloc (.cells #[.int .u8 34] 5)) (.slice (some ⟨w.heap.size, 0, none⟩) 1 1) [b8 34] :=
        ⟨rfl, .inr ⟨w.heap.size, 1, #[.int .u8 34], rfl, Nat.le_refl _, heap_alloc_last w _, Nat.le_refl _, by decide, rfl, rfl⟩⟩
      exact h0.below ((Below.refl _ _).alloc (Nat.le_refl _) _)
    · exact ((Below.refl _ w).alloc (Nat.le_refl _) _).alloc (by simp) _
  case round =>
    obtain ⟨k, l, hq⟩ := hrel
    have hlk := hq.len
    have hown0 := hq.own
    have hB0 := hq.below
    have hiter := hq.iter
    have HL : Hid (l ++ qFrom s k = F) := hq.all
    have hkle := hq.le
    clear hq HF
    by_cases hkn : k < s.size
    · have hit : wr.iterPos (w.heap.size + 1) = k := iterPos_of' hiter
      have hnx : ∀ ty, (Instr.next (.pointer (some ⟨w.heap.size + 1, 0, none⟩)) true ty).run Tryd.prog wr = _ := fun ty => Lib.run_next_any_at wr (w.heap.size + 1) s k ty hiter hkn
      have hle := (decode_le s k).1
      have hg1 := (decode_le s k).2.1
      have hg4 := (decode_le s k).2.2
      have hft := decode_fits s k hkn
      have hwf := @wrongB_false s k
      have hba := byt_eq s k hkn
      have hbl := byt_lt s k
      have has := decode_ascii' s k
      have car := appendRune' s k hkn
      have hqo := qFrom_on hkn
      have cw := qWrongAt s k hs hkn
      unfold qPiece at hqo
      obtain ⟨R, hR⟩ : ∃ R, (Utf8.decode s k).1 = R := ⟨_, rfl⟩
      obtain ⟨K, hK⟩ : ∃ K, (Utf8.decode s k).2 = K := ⟨_, rfl⟩
      obtain ⟨W, hW⟩ : ∃ W, wrongB s k = W := ⟨_, rfl⟩
      have has' : (byt s k < 128 ∧ R = byt s k) ∨ (128 ≤ byt s k ∧ 128 ≤ R) := by
        rcases has with ⟨h1, h2⟩ | ⟨h1, h2⟩
        · exact .inl ⟨h1, by rw [← hR, h2]⟩
        · exact .inr ⟨h1, by omega⟩
      clear has
      obtain ⟨b, hb⟩ : ∃ b, byt s k = b := ⟨_, rfl⟩
      rw [hR, hK] at hnx
      rw [hR, hK, hW, hb] at hqo
      rw [hW] at hwf car cw
      rw [hR] at hle hwf
      rw [hR, hK] at car
      rw [hK] at hg1 hg4 hft
      rw [hb] at hba hbl has'
      clear hR hK hW hb
      obtain ⟨wt, hwt⟩ : ∃ wt, wr.iterAt (w.heap.size + 1) s (k + K) = wt := ⟨_, rfl⟩
      have hown : OwnB w.heap.size wt u3 l := by rw [← hwt]; exact own_iterAt hown0 hiter _
      have hit1 : wt.heap[w.heap.size + 1]? = some (.stringIter s (k + K)) := by rw [← hwt]; exact Lib.iterAt_heap wr _ _ _ _ hiter
      have hB : Below w.heap.size w wt := by rw [← hwt]; exact Lib.below_iterAt hB0 (by omega) _ _
      rw [hwt] at hnx
      clear hwt hiter hown0 hB0
      have cww := cw wt (Utf8Tabs_below HT.out hB)
      clear cw
      have hHL := HL.out
      rw [hqo, ← List.append_assoc] at hHL
      clear hqo HL
      have hle' : (R : Int) ≤ 1114111 := by omega
      by_cases h10 : R = 10
      · subst h10
        rw [if_pos rfl] at hHL
        have HN : Hid (l ++ [b8 92, b8 110] ++ qFrom s (k + K) = F) := hHL
        clear hHL hwf car cww has'
        go_wp2_with (at_builtin; go_must (refine wpList_appendB rfl (.tmp 33) (.tmp 34) 22 rfl Tryd.underlying22 info5 w.heap.size u3 l rfl (hown.below ((Below.refl _ wt).alloc (Nat.le_refl _) _)) ⟨wt.heap.size, 0, none⟩ 2 2 [b8 92, b8 110] rfl rfl (cells2 wt 92 110 (by decide) (by decide)) (by simp; omega) (by simp; have := hB.size; omega) ?_; intro v4 w4 hown4 hB4 hgr4))
        have hi4 := iter_kept (hown.below ((Below.refl _ wt).alloc (Nat.le_refl _) _)) hgr4 (iter_alloc hit1 _)
        go_wp2
        go_roundw
        case rel => exact ⟨k + K, l ++ [b8 92, b8 110], by omega, by simp; omega, HN, hi4, hown4, (hB.alloc hB.size _).trans hB4⟩
        case measure => rw [iterPos_of' hi4, hit]; omega
      rw [if_neg h10] at hHL
      have q10 : ((R : Int) == 10) = false := by rw [beq_eq_false_iff_ne]; omega
      by_cases h34 : R = 34 ∨ R = 92
      · rw [if_pos h34] at hHL
        have HN : Hid (l ++ [b8 92, b8 R] ++ qFrom s (k + K) = F) := hHL
        have hbR : b = R := by omega
        subst hbR
        clear hHL hwf h10 car cww has'
        rcases h34 with rfl | rfl
        · go_wp2_with (at_builtin; go_must (refine wpList_appendB rfl (.tmp 36) (.tmp 40) 22 rfl Tryd.underlying22 info5 w.heap.size u3 l rfl (hown.below ((Below.refl _ wt).alloc (Nat.le_refl _) _)) ⟨wt.heap.size, 0, none⟩ 2 2 [b8 92, b8 34] rfl rfl (cells2 wt 92 34 (by decide) (by decide)) (by simp; omega) (by simp; have := hB.size; omega) ?_; intro v4 w4 hown4 hB4 hgr4))
          have hi4 := iter_kept (hown.below ((Below.refl _ wt).alloc (Nat.le_refl _) _)) hgr4 (iter_alloc hit1 _)
          go_wp2
          go_roundw
          case rel => exact ⟨k + K, l ++ [b8 92, b8 34], by omega, by simp; omega, HN, hi4, hown4, (hB.alloc hB.size _).trans hB4⟩
          case measure => rw [iterPos_of' hi4, hit]; omega
        · go_wp2_with (at_builtin; go_must (refine wpList_appendB rfl (.tmp 36) (.tmp 40) 22 rfl Tryd.underlying22 info5 w.heap.size u3 l rfl (hown.below ((Below.refl _ wt).alloc (Nat.le_refl _) _)) ⟨wt.heap.size, 0, none⟩ 2 2 [b8 92, b8 92] rfl rfl (cells2 wt 92 92 (by decide) (by decide)) (by simp; omega) (by simp; have := hB.size; omega) ?_; intro v4 w4 hown4 hB4 hgr4))
          have hi4 := iter_kept (hown.below ((Below.refl _ wt).alloc (Nat.le_refl _) _)) hgr4 (iter_alloc hit1 _)
          go_wp2
          go_roundw
          case rel => exact ⟨k + K, l ++ [b8 92, b8 92], by omega, by simp; omega, HN, hi4, hown4, (hB.alloc hB.size _).trans hB4⟩
          case measure => rw [iterPos_of' hi4, hit]; omega
      rw [if_neg h34] at hHL
      have q34 : ((R : Int) == 34) = false := by rw [beq_eq_false_iff_ne]; omega
      have q92 : ((R : Int) == 92) = false := by rw [beq_eq_false_iff_ne]; omega
      by_cases hx : R < 32 ∨ R = 127 ∨ W = true
      · rw [if_pos hx] at hHL
        have HN : Hid (l ++ [b8 92, b8 120, b8 (hexD (b / 16)), b8 (hexD (b % 16))] ++ qFrom s (k + K) = F) := hHL
        have d1 := hexD_lt (b / 16) (by omega)
        have d2 := hexD_lt (b % 16) (by omega)
        have g1 := hexGetI ((b : Int) / 16) (b / 16) (by omega) (by omega)
        have g2 := hexGetI ((b : Int) % 16) (b % 16) (by omega) (by omega)
        have p1 := wrap_u8 ((b : Int) / 16) (by omega) (by omega)
        have p2 := wrap_u8 ((b : Int) % 16) (by omega) (by omega)
        have e1 : (b : Int) / 16 < 16 := by omega
        have tm : (b : Int).tmod 16 = (b : Int) % 16 := Int.tmod_eq_emod_of_nonneg (by omega)
        have n1 : (0 : Int) ≤ (b : Int) / 16 := by omega
        have n2 : (0 : Int) ≤ (b : Int) % 16 := by omega
        have e2 : (b : Int) % 16 < 16 := by omega
        obtain ⟨x, hx1⟩ : ∃ x, hexD (b / 16) = x := ⟨_, rfl⟩
        obtain ⟨y, hy1⟩ : ∃ y, hexD (b % 16) = y := ⟨_, rfl⟩
        rw [hx1] at HN d1 g1
        rw [hy1] at HN d2 g2
        have t1 := toNat_b8 x d1
        have t2 := toNat_b8 y d2
        clear hHL hwf h10 h34 hx1 hy1 car has'
        by_cases h32 : R < 32
        · have h32' : (R : Int) < 32 := by omega
          clear hx cww
          go_wp2
          go_region_law (refine step_appendB rfl (.tmp 42) (.tmp 53) 22 rfl Tryd.underlying22 info5 w.heap.size u3 l (by simp [Act.eval]) (hown.below (((Below.refl _ wt).alloc (Nat.le_refl _) _).drew)) ⟨wt.heap.size, 0, none⟩ 4 4 [b8 92, b8 120, b8 x, b8 y] (by simp [Act.eval]) rfl (cells4 wt 92 120 x y (by decide) (by decide) d1 d2) (by simp; omega) (by simp; have := hB.size; omega) ?_; intro v4 w4 hown4 hB4 hgr4)
          all_goals
            have hi4 := iter_kept (hown.below (((Below.refl _ wt).alloc (Nat.le_refl _) _).drew)) hgr4 (iter_alloc hit1 _)
            refine put_norm ?_; simp only [List.setIfInBounds_toArray, List.set_cons_succ, List.set_cons_zero]
            go_wp2
            go_roundw
            case rel => exact ⟨k + K, l ++ [b8 92, b8 120, b8 x, b8 y], by omega, by simp; omega, HN, hi4, hown4, ((hB.alloc hB.size _).drew).trans hB4⟩
            case measure => rw [iterPos_of' hi4, hit]; omega
        have h32' : ¬ ((R : Int) < 32) := by omega
        by_cases h127 : R = 127
        · subst h127
          clear hx cww
          go_wp2
          go_region_law (refine step_appendB rfl (.tmp 42) (.tmp 53) 22 rfl Tryd.underlying22 info5 w.heap.size u3 l (by simp [Act.eval]) (hown.below (((Below.refl _ wt).alloc (Nat.le_refl _) _).drew)) ⟨wt.heap.size, 0, none⟩ 4 4 [b8 92, b8 120, b8 x, b8 y] (by simp [Act.eval]) rfl (cells4 wt 92 120 x y (by decide) (by decide) d1 d2) (by simp; omega) (by simp; have := hB.size; omega) ?_; intro v4 w4 hown4 hB4 hgr4)
          all_goals
            have hi4 := iter_kept (hown.below (((Below.refl _ wt).alloc (Nat.le_refl _) _).drew)) hgr4 (iter_alloc hit1 _)
            refine put_norm ?_; simp only [List.setIfInBounds_toArray, List.set_cons_succ, List.set_cons_zero]
            go_wp2
            go_roundw
            case rel => exact ⟨k + K, l ++ [b8 92, b8 120, b8 x, b8 y], by omega, by simp; omega, HN, hi4, hown4, ((hB.alloc hB.size _).drew).trans hB4⟩
            case measure => rw [iterPos_of' hi4, hit]; omega
        have q127 : ((R : Int) == 127) = false := by rw [beq_eq_false_iff_ne]; omega
        have hWt : W = true := by
          rcases hx with h | h | h
          · exact absurd h h32
          · exact absurd h h127
          · exact h
        subst hWt
        clear hx h32 h127
        go_wp2_with (go_at_call 20; go_must (refine cww.mono ?_; rintro e w2 ⟨rfl, hB2⟩))
        go_region_law (refine step_appendB rfl (.tmp 42) (.tmp 53) 22 rfl Tryd.underlying22 info5 w.heap.size u3 l (by simp [Act.eval]) ((hown.below hB2).below (((Below.refl _ w2).alloc (Nat.le_refl _) _).drew)) ⟨w2.heap.size, 0, none⟩ 4 4 [b8 92, b8 120, b8 x, b8 y] (by simp [Act.eval]) rfl (cells4 w2 92 120 x y (by decide) (by decide) d1 d2) (by simp; omega) (by simp; have := hB.size; have := hB2.size; omega) ?_; intro v4 w4 hown4 hB4 hgr4)
        all_goals
          have hi4 := iter_kept ((hown.below hB2).below (((Below.refl _ w2).alloc (Nat.le_refl _) _).drew)) hgr4 (iter_alloc (q_iter_below hB2 hit1) _)
          refine put_norm ?_; simp only [List.setIfInBounds_toArray, List.set_cons_succ, List.set_cons_zero]
          go_wp2
          go_roundw
          case rel => exact ⟨k + K, l ++ [b8 92, b8 120, b8 x, b8 y], by omega, by simp; omega, HN, hi4, hown4, (((hB.trans (hB2.mono hB.size)).alloc (Nat.le_trans hB.size hB2.size) _).drew).trans hB4⟩
          case measure => rw [iterPos_of' hi4, hit]; omega
      · rw [if_neg hx] at hHL
        obtain ⟨X, hX⟩ : ∃ X, s.extract k (k + K) = X := ⟨_, rfl⟩
        have hXs : X.size = K := by rw [← hX]; simp; omega
        have hXl : X.data.toList.length = K := (show _ = X.size from Array.length_toList).trans hXs
        rw [hX] at hHL car
        have HN : Hid (l ++ X.data.toList ++ qFrom s (k + K) = F) := hHL
        have h32' : ¬ ((R : Int) < 32) := fun h => hx (.inl (by omega))
        have q127 : ((R : Int) == 127) = false := by rw [beq_eq_false_iff_ne]; intro h; exact hx (.inr (.inl (by omega)))
        have hWf : W = false := by
          cases W
          · rfl
          · exact absurd (.inr (.inr rfl)) hx
        subst hWf
        have ca := fun w2 h => car rfl w.heap.size u3 l w2 h (by omega)
        clear hHL hwf h10 h34 hx car has' hX
        go_wp2_with (first
          | (go_at_call 20; go_must (refine cww.mono ?_; rintro e w2 ⟨rfl, hB2⟩))
          | (go_at_call 21; go_must (refine (ca w2 (hown.below hB2) (Nat.le_trans hB.size hB2.size)).mono ?_; rintro e w4 ⟨v4, rfl, hown4, hB4, hk4⟩)))
        have hi4 := hk4 _ _ _ (q_iter_below hB2 hit1)
        go_roundw
        case rel => exact ⟨k + K, l ++ X.data.toList, by omega, by rw [List.length_append]; omega, HN, hi4, hown4, (hB.trans (hB2.mono hB.size)).trans hB4⟩
        case measure => rw [iterPos_of' hi4, hit]; omega
    · have hnx : ∀ ty, (Instr.next (.pointer (some ⟨w.heap.size + 1, 0, none⟩)) true ty).run Tryd.prog wr = _ := fun ty => Lib.run_next_end_at wr (w.heap.size + 1) s k ty hiter hkn
      have hl : l = F := by
        have := HL.out
        rw [qFrom_out hkn, List.append_nil] at this
        exact this
      subst hl
      clear hiter HL
      go_wp2_with (first
        | (at_builtin; go_must (refine wpList_appendB rfl (.tmp 58) (.tmp 59) 22 rfl Tryd.underlying22 info5 w.heap.size u3 l rfl (hown0.below ((Below.refl _ wr).alloc (Nat.le_refl _) _)) ⟨wr.heap.size, 0, none⟩ 1 1 [b8 34] rfl rfl (one_new wr 34 (by decide)) (by simp; omega) (by simp; have := hB0.size; omega) ?_; intro v4 w4 hown4 hB4 hgr4))
        | (refine wpList_stringOf rfl 22 9 (.tmp 60) rfl Tryd.underlying9 Tryd.underlying22 Tryd.underlying5 w.heap.size v4 (l ++ [b8 34]) rfl hown4 ?_))
      go_ret
      exact ⟨rfl, (hB0.alloc hB0.size _).trans hB4⟩
end Go.Proofs.YtbfoijeboaebdaaDoor
