/-
  Where a run of runes ends, as plain data; the contracts of impl.runEnd and spec.l01Word. No statement of the seat is proved here.
-/
import Derived.Test.YtbpijollcjdkhaaDoorRuneAtWalks
import Derived.Test.YtbpijollcjdkhaaDoorSigns
import Derived.Test.YtbpijollcjdkhaaDoorTools
namespace Go.Proofs.YtbpijollcjdkhaaDoor
open Go.ChangeShapes Go.WideShapes Go.ChangeAt Go.RowKit
set_option linter.unusedVariables false

theorem decodeN_fits (n b0 b1 b2 b3 : Nat) (hn : 1 ≤ n) : (Lib.decodeN n b0 b1 b2 b3).2 ≤ n := by
  unfold Lib.decodeN
  repeat' split
  all_goals simp only
  all_goals omega
theorem decode_fits (s : ByteArray) (i : Nat) (h : i < s.size) : i + (Utf8.decode s i).2 ≤ s.size := by
  have := decodeN_fits (s.size - i) (byt s i) (byt s (i + 1)) (byt s (i + 2)) (byt s (i + 3)) (by omega)
  rw [decode_byt]
  omega

/-- Where the run of runes that f takes ends, from a place on. -/
def endOf (f : Int → Bool) (s : ByteArray) (pos : Nat) : Nat :=
  if h : pos < s.size then
    if f ((Utf8.decode s pos).1 : Int) then endOf f s (pos + (Utf8.decode s pos).2) else pos
  else s.size
termination_by s.size - pos
decreasing_by
  have := (decode_le s pos).2.1
  omega
theorem endOf_on {f : Int → Bool} {s : ByteArray} {pos : Nat} (h : pos < s.size) (hf : f ((Utf8.decode s pos).1 : Int) = true) : endOf f s pos = endOf f s (pos + (Utf8.decode s pos).2) := by
  rw [endOf, dif_pos h, if_pos hf]
theorem endOf_stop {f : Int → Bool} {s : ByteArray} {pos : Nat} (h : pos < s.size) (hf : f ((Utf8.decode s pos).1 : Int) = false) : endOf f s pos = pos := by
  rw [endOf, dif_pos h, if_neg (by simp [hf])]
theorem endOf_out {f : Int → Bool} {s : ByteArray} {pos : Nat} (h : ¬ pos < s.size) : endOf f s pos = s.size := by
  rw [endOf, dif_neg h]
theorem endOf_ge (f : Int → Bool) (s : ByteArray) (pos : Nat) (h : pos ≤ s.size) : pos ≤ endOf f s pos ∧ endOf f s pos ≤ s.size := by
  by_cases hp : pos < s.size
  · by_cases hf : f ((Utf8.decode s pos).1 : Int) = true
    · rw [endOf_on hp hf]
      have h1 := (decode_le s pos).2.1
      have h2 := decode_fits s pos hp
      have := endOf_ge f s (pos + (Utf8.decode s pos).2) h2
      omega
    · rw [endOf_stop hp (by simpa using hf)]; omega
  · rw [endOf_out hp]; omega
termination_by s.size - pos
decreasing_by
  have := (decode_le s pos).2.1
  omega

set_option maxRecDepth 1000000 in
set_option maxHeartbeats 400000 in
theorem runEndNam (s : ByteArray) (a : Nat) (hs : s.size ≤ 65536) (ha : a ≤ s.size) (w : World) :
    Calls Tryd.prog 80 #[.string s, .int .i64 a, .func (.func 81) #[] #[]] w fun e w' => e = .returned (.int .i64 (endOf isNam s a)) ∧ Below w.heap.size w w' := by
  obtain ⟨E, hE⟩ : ∃ E, endOf isNam s a = E := ⟨_, rfl⟩
  rw [hE]
  have hTs : (s.extract a s.size).size = s.size - a := by simp
  have hdec : ∀ pos, Utf8.decode (s.extract a s.size) pos = Utf8.decode s (a + pos) := fun pos => Lib.tail_decode s a pos
  go_enter Tryd.func80, Tryd.ntmps80
  go_wp2
  generalize s.extract a s.size = T at hTs hdec ⊢
  have HD : Hid (∀ pos, Utf8.decode T pos = Utf8.decode s (a + pos)) := hdec
  have HE : Hid (endOf isNam s a = E) := hE
  clear hdec hE
  go_loopw [7] (fun _ wr => ∃ pos : Nat, pos ≤ T.size ∧ wr = w.iter T pos ∧ endOf isNam s (a + pos) = E) (fun _ wr => T.size - wr.iterPos w.heap.size)
  case atStart => exact ⟨0, by omega, rfl, HE⟩
  case round =>
    obtain ⟨pos, hpos, rfl, hen⟩ := hrel
    have HN : Hid (endOf isNam s (a + pos) = E) := hen
    clear hen HE
    by_cases hp : pos < T.size
    · have hnx : ∀ ty, (Instr.next (.pointer (some ⟨w.heap.size, 0, none⟩)) true ty).run Tryd.prog (w.iter T pos) = _ := fun ty => run_next_any w T pos ty hp
      have c := implNam ((Utf8.decode T pos).1 : Int)
      have hle := (decode_le T pos).1
      have hg1 := (decode_le T pos).2.1
      have hft := decode_fits T pos hp
      obtain ⟨b, hb⟩ : ∃ b, isNam ((Utf8.decode T pos).1 : Int) = b := ⟨_, rfl⟩
      rw [hb] at c
      have HB : Hid (isNam ((Utf8.decode T pos).1 : Int) = b) := hb
      clear hb
      obtain ⟨R, hR⟩ : ∃ R, (Utf8.decode T pos).1 = R := ⟨_, rfl⟩
      obtain ⟨K, hK⟩ : ∃ K, (Utf8.decode T pos).2 = K := ⟨_, rfl⟩
      have HK : Hid ((Utf8.decode T pos).2 = K) := hK
      rw [hR] at c hle hnx
      rw [hK] at hnx hg1 hft
      clear hR hK
      have hle' : (R : Int) ≤ 1114111 := by omega
      cases b
      · go_wp2_with (go_at_call 81; go_must (refine (c _).mono ?_; rintro e w' ⟨rfl, rfl⟩))
        go_ret
        refine ⟨?_, (Below.refl _ w).alloc (Nat.le_refl _) _⟩
        have h1 := HN.out
        rw [endOf_stop (by omega) (by rw [← HD.out]; exact HB)] at h1
        rw [← h1]
        go_num
      · go_wp2_with (go_at_call 81; go_must (refine (c _).mono ?_; rintro e w' ⟨rfl, rfl⟩))
        go_roundw
        case rel =>
          refine ⟨pos + K, by omega, rfl, ?_⟩
          have h1 := HN.out
          rw [endOf_on (by omega) (by rw [← HD.out]; exact HB), ← HD.out, HK.out] at h1
          rw [← Nat.add_assoc]; exact h1
        case measure => simp; omega
    · have hnx : ∀ ty, (Instr.next (.pointer (some ⟨w.heap.size, 0, none⟩)) true ty).run Tryd.prog (w.iter T pos) = _ := fun ty => run_next_end w T pos ty hp
      go_wp2
      go_ret
      refine ⟨?_, (Below.refl _ w).alloc (Nat.le_refl _) _⟩
      have h1 := HN.out
      rw [endOf_out (by omega)] at h1
      rw [← h1]
      rfl

set_option maxRecDepth 1000000 in
set_option maxHeartbeats 400000 in
theorem runEndDig (s : ByteArray) (a : Nat) (hs : s.size ≤ 65536) (ha : a ≤ s.size) (w : World) :
    Calls Tryd.prog 80 #[.string s, .int .i64 a, .func (.func 94) #[] #[]] w fun e w' => e = .returned (.int .i64 (endOf isDig s a)) ∧ Below w.heap.size w w' := by
  obtain ⟨E, hE⟩ : ∃ E, endOf isDig s a = E := ⟨_, rfl⟩
  rw [hE]
  have hTs : (s.extract a s.size).size = s.size - a := by simp
  have hdec : ∀ pos, Utf8.decode (s.extract a s.size) pos = Utf8.decode s (a + pos) := fun pos => Lib.tail_decode s a pos
  go_enter Tryd.func80, Tryd.ntmps80
  go_wp2
  generalize s.extract a s.size = T at hTs hdec ⊢
  have HD : Hid (∀ pos, Utf8.decode T pos = Utf8.decode s (a + pos)) := hdec
  have HE : Hid (endOf isDig s a = E) := hE
  clear hdec hE
  go_loopw [7] (fun _ wr => ∃ pos : Nat, pos ≤ T.size ∧ wr = w.iter T pos ∧ endOf isDig s (a + pos) = E) (fun _ wr => T.size - wr.iterPos w.heap.size)
  case atStart => exact ⟨0, by omega, rfl, HE⟩
  case round =>
    obtain ⟨pos, hpos, rfl, hen⟩ := hrel
    have HN : Hid (endOf isDig s (a + pos) = E) := hen
    clear hen HE
    by_cases hp : pos < T.size
    · have hnx : ∀ ty, (Instr.next (.pointer (some ⟨w.heap.size, 0, none⟩)) true ty).run Tryd.prog (w.iter T pos) = _ := fun ty => run_next_any w T pos ty hp
      have c := implDigit ((Utf8.decode T pos).1 : Int)
      have hle := (decode_le T pos).1
      have hg1 := (decode_le T pos).2.1
      have hft := decode_fits T pos hp
      obtain ⟨b, hb⟩ : ∃ b, isDig ((Utf8.decode T pos).1 : Int) = b := ⟨_, rfl⟩
      rw [hb] at c
      have HB : Hid (isDig ((Utf8.decode T pos).1 : Int) = b) := hb
      clear hb
      obtain ⟨R, hR⟩ : ∃ R, (Utf8.decode T pos).1 = R := ⟨_, rfl⟩
      obtain ⟨K, hK⟩ : ∃ K, (Utf8.decode T pos).2 = K := ⟨_, rfl⟩
      have HK : Hid ((Utf8.decode T pos).2 = K) := hK
      rw [hR] at c hle hnx
      rw [hK] at hnx hg1 hft
      clear hR hK
      have hle' : (R : Int) ≤ 1114111 := by omega
      cases b
      · go_wp2_with (go_at_call 94; go_must (refine (c _).mono ?_; rintro e w' ⟨rfl, rfl⟩))
        go_ret
        refine ⟨?_, (Below.refl _ w).alloc (Nat.le_refl _) _⟩
        have h1 := HN.out
        rw [endOf_stop (by omega) (by rw [← HD.out]; exact HB)] at h1
        rw [← h1]
        go_num
      · go_wp2_with (go_at_call 94; go_must (refine (c _).mono ?_; rintro e w' ⟨rfl, rfl⟩))
        go_roundw
        case rel =>
          refine ⟨pos + K, by omega, rfl, ?_⟩
          have h1 := HN.out
          rw [endOf_on (by omega) (by rw [← HD.out]; exact HB), ← HD.out, HK.out] at h1
          rw [← Nat.add_assoc]; exact h1
        case measure => simp; omega
    · have hnx : ∀ ty, (Instr.next (.pointer (some ⟨w.heap.size, 0, none⟩)) true ty).run Tryd.prog (w.iter T pos) = _ := fun ty => run_next_end w T pos ty hp
      go_wp2
      go_ret
      refine ⟨?_, (Below.refl _ w).alloc (Nat.le_refl _) _⟩
      have h1 := HN.out
      rw [endOf_out (by omega)] at h1
      rw [← h1]
      rfl

/-- Where a name ends that begins at a place: at the place itself if no letter stands there. -/
def wordEnd (s : ByteArray) (a : Nat) : Nat :=
  if a < s.size ∧ isLet ((Utf8.decode s a).1 : Int) = true then endOf isNam s (a + (Utf8.decode s a).2) else a
theorem wordEnd_ge (s : ByteArray) (a : Nat) (h : a ≤ s.size) : a ≤ wordEnd s a ∧ wordEnd s a ≤ s.size := by
  unfold wordEnd
  split
  · rename_i hc
    have h1 := endOf_ge isNam s (a + (Utf8.decode s a).2) (decode_fits s a hc.1)
    omega
  · omega
/-- What the search for a name's end keeps. -/
def AtWord (s : ByteArray) (a i W : Nat) : Prop := (i = a ∧ wordEnd s a = W) ∨ (a < i ∧ endOf isNam s i = W)
theorem AtWord.stop {s : ByteArray} {a i W : Nat} (h : AtWord s a i W) (hi : i < s.size) (h1 : isLet ((Utf8.decode s i).1 : Int) = false) (h2 : a < i → isDig ((Utf8.decode s i).1 : Int) = false) : W = i := by
  rcases h with ⟨rfl, rfl⟩ | ⟨hl, rfl⟩
  · unfold wordEnd; rw [if_neg]; simp [h1]
  · exact endOf_stop hi (by simp [isNam, h1, h2 hl])
theorem AtWord.end {s : ByteArray} {a i W : Nat} (h : AtWord s a i W) (hi : ¬ i < s.size) (hle : i ≤ s.size) : W = i := by
  rcases h with ⟨rfl, rfl⟩ | ⟨hl, rfl⟩
  · unfold wordEnd; rw [if_neg]; simp [hi]
  · rw [endOf_out hi]; omega
theorem AtWord.on {s : ByteArray} {a i W : Nat} (h : AtWord s a i W) (hi : i < s.size) (h1 : isLet ((Utf8.decode s i).1 : Int) = true ∨ (a < i ∧ isDig ((Utf8.decode s i).1 : Int) = true)) : AtWord s a (i + (Utf8.decode s i).2) W := by
  have hk := (decode_le s i).2.1
  rcases h with ⟨rfl, rfl⟩ | ⟨hl, rfl⟩
  · refine .inr ⟨by omega, ?_⟩
    unfold wordEnd; rw [if_pos ⟨hi, by rcases h1 with h | ⟨h, _⟩; exact h; omega⟩]
  · refine .inr ⟨by omega, ?_⟩
    rw [endOf_on hi]
    rcases h1 with h | ⟨_, h⟩ <;> simp [isNam, h]

set_option maxRecDepth 1000000 in
set_option maxHeartbeats 1000000 in
theorem specWord (s : ByteArray) (a : Nat) (hs : s.size ≤ 65536) (ha : a ≤ s.size) (w : World) :
    Calls Tryd.prog 57 #[.string s, .int .i64 a] w fun e w' => e = .returned (.int .i64 ((wordEnd s a : Int) - (a : Int))) ∧ Below w.heap.size w w' := by
  obtain ⟨W, hW⟩ : ∃ W, wordEnd s a = W := ⟨_, rfl⟩
  have hAW : AtWord s a a W := .inl ⟨rfl, hW⟩
  rw [hW]
  clear hW
  go_enter Tryd.func57, Tryd.ntmps57
  go_wp2
  go_loopw [5] (fun i wr => ∃ k : Nat, a ≤ k ∧ k ≤ s.size ∧ i = .int .i64 (k : Int) ∧ AtWord s a k W ∧ Below w.heap.size w wr) (fun i _ => s.size - (intOf i).toNat)
  case atStart => exact ⟨a, by omega, by omega, rfl, hAW, Below.refl _ _⟩
  case round =>
    obtain ⟨k, hk1, hk2, rfl, hkW, hB⟩ := hrel
    clear hAW
    by_cases hk : k < s.size
    · have c := specRune s k hs hk
      have c1 := specLetter ((Utf8.decode s k).1 : Int)
      have c2 := specDigit ((Utf8.decode s k).1 : Int)
      have hle := (decode_le s k).1
      have hg1 := (decode_le s k).2.1
      have hft := decode_fits s k hk
      have hst := AtWord.stop hkW hk
      have hon := AtWord.on hkW hk
      obtain ⟨R, hR⟩ : ∃ R, (Utf8.decode s k).1 = R := ⟨_, rfl⟩
      obtain ⟨K, hK⟩ : ∃ K, (Utf8.decode s k).2 = K := ⟨_, rfl⟩
      rw [hR, hK] at c
      rw [hR] at c1 c2 hst hon hle
      rw [hK] at hg1 hft hon
      clear hR hK hkW
      obtain ⟨bl, hbl⟩ : ∃ b, isLet (R : Int) = b := ⟨_, rfl⟩
      obtain ⟨bd, hbd⟩ : ∃ b, isDig (R : Int) = b := ⟨_, rfl⟩
      rw [hbl] at c1 hst hon
      rw [hbd] at c2 hst hon
      clear hbl hbd
      have hkz : (k : Int) < (s.size : Int) := by omega
      cases bl
      · by_cases hak : (a : Int) < (k : Int)
        · cases bd
          · have e := hst rfl fun _ => rfl
            subst e
            clear hst hon
            go_wp2_with (first | (go_at_call 74; go_must (refine (c _).mono ?_; rintro e w1 ⟨rfl, hB1⟩)) | (go_at_call 75; go_must (refine (c1 _).mono ?_; rintro e w' ⟨rfl, rfl⟩)) | (go_at_call 76; go_must (refine (c2 _).mono ?_; rintro e w' ⟨rfl, rfl⟩)))
            go_ret
            exact ⟨rfl, hB.trans (hB1.mono hB.size)⟩
          · have hn := hon (.inr ⟨by omega, rfl⟩)
            clear hst hon
            go_wp2_with (first | (go_at_call 74; go_must (refine (c _).mono ?_; rintro e w1 ⟨rfl, hB1⟩)) | (go_at_call 75; go_must (refine (c1 _).mono ?_; rintro e w' ⟨rfl, rfl⟩)) | (go_at_call 76; go_must (refine (c2 _).mono ?_; rintro e w' ⟨rfl, rfl⟩)))
            go_roundw
            case rel => exact ⟨k + K, by omega, by omega, by go_num, hn, hB.trans (hB1.mono hB.size)⟩
            case measure => simp [intOf]; omega
        · have e := hst rfl (fun h => absurd h (by omega))
          subst e
          clear hst hon
          go_wp2_with (first | (go_at_call 74; go_must (refine (c _).mono ?_; rintro e w1 ⟨rfl, hB1⟩)) | (go_at_call 75; go_must (refine (c1 _).mono ?_; rintro e w' ⟨rfl, rfl⟩)) | (go_at_call 76; go_must (refine (c2 _).mono ?_; rintro e w' ⟨rfl, rfl⟩)))
          go_ret
          exact ⟨rfl, hB.trans (hB1.mono hB.size)⟩
      · have hn := hon (.inl rfl)
        clear hst hon c2
        go_wp2_with (first | (go_at_call 74; go_must (refine (c _).mono ?_; rintro e w1 ⟨rfl, hB1⟩)) | (go_at_call 75; go_must (refine (c1 _).mono ?_; rintro e w' ⟨rfl, rfl⟩)))
        go_roundw
        case rel => exact ⟨k + K, by omega, by omega, by go_num, hn, hB.trans (hB1.mono hB.size)⟩
        case measure => simp [intOf]; omega
    · have e := AtWord.end hkW hk hk2
      subst e
      have hkz : ¬ ((W : Int) < (s.size : Int)) := by omega
      go_wp2
      go_ret
      exact ⟨rfl, hB⟩
end Go.Proofs.YtbpijollcjdkhaaDoor
