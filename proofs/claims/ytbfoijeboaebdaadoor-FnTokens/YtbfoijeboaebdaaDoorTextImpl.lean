/-
  The contract of impl.readText: it answers as 'readFrom' tells, under the two tables of unicode/utf8 as they are laid. No statement of the seat is proved here.
-/
import Derived.Test.YtbfoijeboaebdaaDoorText
import Derived.Lib.AppendStr
namespace Go.Proofs.YtbfoijeboaebdaaDoor
open Go.ChangeShapes Go.WideShapes Go.ChangeAt Go.RowKit
set_option linter.unusedVariables false

theorem wpList_appendStr {P : Program} {ops : Array Oper} {rest : List Oper} {o : Oper} {a : Act} {w : World} {Q : Exit → Act → World → Prop} (hgd : o.guard = none) (s x : Operand) (t u : TypeId)
    (ho : o.op = .call { callee := .builtin .append, args := #[s, x], argTypes := #[t, u] })
    (ht : P.underlying t = some (.slice 5)) (hu : P.underlying u = some .string) (hi : (P.info? 5).map (fun i => (i.zero, i.size, i.bytes)) = some (some (.int .u8 0), 1, 1))
    (B : Nat) (v : Value) (l : List UInt8) (hs : a.eval s = v) (hown : OwnB B w v l) (X : ByteArray) (hx : a.eval x = .string X)
    (hsz : l.length + X.size ≤ 10000000) (hB : B ≤ w.heap.size)
    (h : ∀ v' w', OwnB B w' v' (l ++ X.data.toList) → Below B w w' → wpList P ops Q rest (a.put o.dst v') w') : wpList P ops Q (o :: rest) a w := by
  obtain ⟨i, hii, hz0, hz1, hz2⟩ := info_parts hi
  refine Lib.wpList_append_own_string w hgd s x t u ho B 5 i ht hu hii hz0 hz1 hz2 v l.length (l.map bv) hs hown X hx (by unfold maxLen; omega) (by omega) hB ?_
  intro v' w' h1 h2 h3
  refine h v' w' ?_ ((Below.refl _ w).grown h2 hB (OwnB.block hown))
  unfold OwnB
  rw [List.map_append, List.length_append]
  have e : X.data.toList.length = X.size := Array.length_toList
  rw [e]
  exact h1

/-- The place that impl.readText hands back: behind the lexeme, or the fault's. -/
def Told.spot (t : Told) : Nat := if t.code = 0 then t.stop else t.place

set_option maxRecDepth 1000000 in
set_option maxHeartbeats 2000000 in
theorem implText (s : ByteArray) (a : Nat) (hs : s.size ≤ 65536) (ha : a < s.size) (w : World) (hT : Lib.Utf8Tabs 0 1 w) :
    Calls Tryd.prog 22 #[.string s, .int .i64 a] w fun e w' => e = .returned (.tuple #[.string ⟨(readFrom s a (a + 1) []).txt.toArray⟩, .int .i64 (readFrom s a (a + 1) []).code, .int .i64 (readFrom s a (a + 1) []).spot]) ∧ Below w.heap.size w w' := by
  obtain ⟨F, hF⟩ : ∃ F, readFrom s a (a + 1) [] = F := ⟨_, rfl⟩
  have HF : Hid (readFrom s a (a + 1) [] = F) := hF
  rw [hF]
  have HT : Hid (Lib.Utf8Tabs 0 1 w) := hT
  clear hF hT
  go_enter Tryd.func22, Tryd.ntmps22
  go_wp2
  go_loopw [7, 8] (fun v i wr => ∃ (k : Nat) (l : List UInt8), k ≤ s.size ∧ l.length ≤ k ∧ i = .int .i64 (k : Int) ∧ OwnB w.heap.size wr v l ∧ readFrom s a k l = F ∧ Below w.heap.size w wr) (fun _ i _ => s.size - (intOf i).toNat)
  case atStart =>
    exact ⟨a + 1, [], by omega, by simp, by go_num, ⟨rfl, .inl ⟨rfl, rfl⟩⟩, HF, Below.refl _ w⟩
  case round =>
    obtain ⟨k, l, hk, hlk, rfl, hown, hlF, hB⟩ := hrel
    have HL : Hid (readFrom s a k l = F) := hlF
    clear hlF HF
    by_cases hkn : k < s.size
    · have c := implRuneAt s (k : Int) wr (Utf8Tabs_below HT.out hB)
      rw [runeAt_in hs hkn] at c
      have ce := implEscape s k hs hkn
      have hle := (decode_le s k).1
      have hg1 := (decode_le s k).2.1
      have hg4 := (decode_le s k).2.2
      have hft := decode_fits s k hkn
      have heb := esc_bounds s k
      have rq := read_quote (a := a) (acc := l) hkn
      have rw_ := read_wrong (a := a) (acc := l) hkn
      have rl := read_low (a := a) (acc := l) hkn
      have rb := read_bad (a := a) (acc := l) hkn
      have re := read_esc (a := a) (acc := l) hkn
      have ro := read_on (a := a) (acc := l) hkn
      have hwf := @wrongB_false s k
      have hba := byt_eq s k hkn
      have hbl := byt_lt s k
      have has := decode_ascii' s k
      have hwb : wrongB s k = (decide ((Utf8.decode s k).1 = 65533) && decide ((Utf8.decode s k).2 = 1)) := rfl
      rw [HL.out] at rq rw_ rl rb re ro
      obtain ⟨R, hR⟩ : ∃ R, (Utf8.decode s k).1 = R := ⟨_, rfl⟩
      obtain ⟨K, hK⟩ : ∃ K, (Utf8.decode s k).2 = K := ⟨_, rfl⟩
      have has' : (byt s k < 128 ∧ R = byt s k) ∨ (128 ≤ byt s k ∧ 128 ≤ R) := by
        rcases has with ⟨h1, h2⟩ | ⟨h1, h2⟩
        · exact .inl ⟨h1, by rw [← hR, h2]⟩
        · exact .inr ⟨h1, by omega⟩
      clear has
      have cw := implIsWrong R K
      rw [hR, hK] at hwb
      rw [← hwb] at cw
      obtain ⟨b, hb⟩ : ∃ b, byt s k = b := ⟨_, rfl⟩
      obtain ⟨W, hW⟩ : ∃ W, wrongB s k = W := ⟨_, rfl⟩
      obtain ⟨eb, heb1⟩ : ∃ x, (esc s k).1 = x := ⟨_, rfl⟩
      obtain ⟨ek, hek⟩ : ∃ x, (esc s k).2 = x := ⟨_, rfl⟩
      rw [hb] at hba hbl has'
      rw [hR, hK] at c
      rw [hW] at cw
      rw [heb1, hek] at ce heb
      rw [hR] at rq rw_ rl rb re ro hle hwf
      rw [hK] at ro hg1 hg4 hft
      rw [hW] at rw_ rl rb re ro hwf
      rw [hek] at rb re
      rw [heb1] at re
      clear hR hK hW heb1 hek HL hwb hb
      have hkz : (k : Int) < (s.size : Int) := by omega
      have hko : ((k : Int) == (s.size : Int)) = false := by rw [beq_eq_false_iff_ne]; omega
      by_cases h34 : R = 34
      · have hF := rq h34
        subst hF
        have hb34 : b = 34 := by omega
        subst hb34
        clear rq rw_ rl rb re ro cw ce heb hwf c has'
        go_wp2_with (refine wpList_stringOf rfl 22 9 (.tmp 75) rfl Tryd.underlying9 Tryd.underlying22 Tryd.underlying5 w.heap.size u7 l rfl hown ?_)
        go_ret3
        exact ⟨rfl, hB⟩
      have hb34 : ¬ b = 34 := by omega
      have qb : ((b : Int) == 34) = false := by rw [beq_eq_false_iff_ne]; omega
      have qb2 : ((b : Int) != 34) = true := by simp; omega
      clear hb34
      by_cases h32 : R < 32
      · have hF := rl h34 (hwf (by omega)) h32
        subst hF
        have h32' : (R : Int) < 32 := by omega
        clear rq rw_ rl rb re ro ce heb hwf cw has'
        go_wp2_with (go_at_call 36; go_must (refine c.mono ?_; rintro e w1 ⟨rfl, hB1⟩))
        go_ret3
        exact ⟨rfl, hB.trans (hB1.mono hB.size)⟩
      have h32' : ¬ ((R : Int) < 32) := by omega
      cases W
      · by_cases h92 : R = 92
        · by_cases he : ek = 0
          · have hF := rb rfl h92 he
            subst hF
            subst h92
            subst he
            clear rq rw_ rl rb re ro heb hwf has'
            go_wp2_with (first | (go_at_call 36; go_must (refine c.mono ?_; rintro e w1 ⟨rfl, hB1⟩)) | (go_at_call 35; go_must (refine (cw _).mono ?_; rintro e w2 ⟨rfl, rfl⟩)) | (go_at_call 38; go_must (refine (ce _).mono ?_; rintro e w3 ⟨rfl, rfl⟩)))
            go_ret3
            exact ⟨rfl, hB.trans (hB1.mono hB.size)⟩
          · have hF := re rfl h92 he
            have HN : Hid (readFrom s a (k + ek) (l ++ [b8 eb]) = F) := hF.symm
            subst h92
            have qe : ((ek : Int) == 0) = false := by rw [beq_eq_false_iff_ne]; omega
            have heb' := heb.1
            have hek2 : 2 ≤ ek ∧ k + ek ≤ s.size := by omega
            clear rq rw_ rl rb re ro heb hwf hF he has'
            go_wp2_with (first
              | (go_at_call 36; go_must (refine c.mono ?_; rintro e w1 ⟨rfl, hB1⟩))
              | (go_at_call 35; go_must (refine (cw _).mono ?_; rintro e w2 ⟨rfl, rfl⟩))
              | (go_at_call 38; go_must (refine (ce _).mono ?_; rintro e w3 ⟨rfl, rfl⟩))
              | (at_builtin; go_must (refine wpList_appendB rfl (.tmp 63) (.tmp 65) 22 rfl Tryd.underlying22 info5 w.heap.size u7 l rfl ((hown.below hB1).below ((Below.refl _ w1).alloc (Nat.le_refl _) _)) ⟨w1.heap.size, 0, none⟩ 1 1 [b8 eb] rfl rfl (one_new w1 eb heb') (by simp; omega) (by simp; have := hB.size; have := hB1.size; omega) ?_; intro v4 w4 hown4 hB4 hgr4)))
            go_wp2
            go_roundw
            case rel => exact ⟨k + ek, l ++ [b8 eb], by omega, by simp; omega, by go_num, hown4, HN, ((hB.trans (hB1.mono hB.size)).alloc (Nat.le_trans hB.size hB1.size) _).trans hB4⟩
            case measure => simp [intOf]; omega
        · obtain ⟨X, hX⟩ : ∃ X, s.extract k (k + K) = X := ⟨_, rfl⟩
          have hXs : X.size = K := by rw [← hX]; simp; omega
          have hXl : X.data.toList.length = K := (show _ = X.size from Array.length_toList).trans hXs
          have hF := ro h34 rfl h32 h92
          rw [hX] at hF
          have HN : Hid (readFrom s a (k + K) (l ++ X.data.toList) = F) := hF.symm
          have q92 : ((R : Int) == 92) = false := by rw [beq_eq_false_iff_ne]; omega
          clear rq rw_ rl rb re ro heb hwf hF ce has'
          go_wp2_with (first
            | (go_at_call 36; go_must (refine c.mono ?_; rintro e w1 ⟨rfl, hB1⟩))
            | (go_at_call 35; go_must (refine (cw _).mono ?_; rintro e w2 ⟨rfl, rfl⟩))
            | (at_builtin; go_must (refine wpList_appendStr rfl (.tmp 31) (.tmp 37) 22 9 rfl Tryd.underlying22 Tryd.underlying9 info5 w.heap.size u7 l rfl (hown.below hB1) (s.extract k (k + K)) rfl (by rw [hX, hXs]; omega) (Nat.le_trans hB.size hB1.size) ?_; intro v4 w4 hown4 hB4; rw [hX] at hown4)))
          go_wp2
          go_roundw
          case rel => exact ⟨k + K, l ++ X.data.toList, by omega, by rw [List.length_append]; omega, by go_num, hown4, HN, (hB.trans (hB1.mono hB.size)).trans hB4⟩
          case measure => simp [intOf]; omega
      · have hF := rw_ h34 rfl
        subst hF
        clear rq rw_ rl rb re ro ce heb hwf has'
        go_wp2_with (first | (go_at_call 36; go_must (refine c.mono ?_; rintro e w1 ⟨rfl, hB1⟩)) | (go_at_call 35; go_must (refine (cw _).mono ?_; rintro e w2 ⟨rfl, rfl⟩)))
        go_ret3
        exact ⟨rfl, hB.trans (hB1.mono hB.size)⟩
    · have hF := HL.out
      rw [read_out hkn] at hF
      subst hF
      have hkz : ¬ ((k : Int) < (s.size : Int)) := by omega
      have hko : ((k : Int) == (s.size : Int)) = true := by rw [beq_iff_eq]; omega
      go_wp2
      go_ret3
      exact ⟨rfl, hB⟩
end Go.Proofs.YtbfoijeboaebdaaDoor
