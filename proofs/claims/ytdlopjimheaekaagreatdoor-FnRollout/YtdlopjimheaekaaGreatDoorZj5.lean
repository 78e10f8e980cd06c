/-
  Where a run of runes ends, as plain data; the contracts of impl.runEnd and spec.l01Word. The contracts of spec.NameOK and impl.NameOK: both answer 'nameOK'. impl.NameOK under the two tables of unicode/utf8 as they are laid. Numbers as the document reads them; the contract of spec.l00Number. Spans as the document reads them; the contract of spec.l08Span. What a text is by a rule; the contract of spec.l08Fit. Paths: parts at points, two ways told; a name has no point. Plain facts. No statement of the seat is proved here.
-/
import Derived.Test.YtdlopjimheaekaaGreatDoorZj4
import Derived.Deep.Cut
import Derived.Deep.CutRange
import Derived.Lib.Split
namespace Go.Proofs.YtdlopjimheaekaaGreatDoor
open Go.ChangeShapes Go.WideShapes Go.ChangeAt Go.RowKit
set_option linter.unusedVariables false

theorem decodeN_fits (n b0 b1 b2 b3 : Nat) (hn : 1 ≤ n) : (Lib.decodeN n b0 b1 b2 b3).2 ≤ n := by
  unfold Lib.decodeN
  repeat' split
  all_goals simp only
  all_goals omega
theorem decode_fits (s : ByteArray) (i : Nat) (h : i < s.size) : i + (Utf8.decode s i).2 ≤ s.size := by
  have := decodeN_fits (s.size - i) (byt s i) (byt s (i + 1)) (byt s (i + 2)) (byt s (i + 3)) (by omega)
  rw [decode_byt]
  omega

/-- Where the run of runes that f takes ends, from a place on. -/
def endOf (f : Int → Bool) (s : ByteArray) (pos : Nat) : Nat :=
  if h : pos < s.size then
    if f ((Utf8.decode s pos).1 : Int) then endOf f s (pos + (Utf8.decode s pos).2) else pos
  else s.size
termination_by s.size - pos
decreasing_by
  have := (decode_le s pos).2.1
  omega
theorem endOf_on {f : Int → Bool} {s : ByteArray} {pos : Nat} (h : pos < s.size) (hf : f ((Utf8.decode s pos).1 : Int) = true) : endOf f s pos = endOf f s (pos + (Utf8.decode s pos).2) := by
  rw [endOf, dif_pos h, if_pos hf]
theorem endOf_stop {f : Int → Bool} {s : ByteArray} {pos : Nat} (h : pos < s.size) (hf : f ((Utf8.decode s pos).1 : Int) = false) : endOf f s pos = pos := by
  rw [endOf, dif_pos h, if_neg (by simp [hf])]
theorem endOf_out {f : Int → Bool} {s : ByteArray} {pos : Nat} (h : ¬ pos < s.size) : endOf f s pos = s.size := by
  rw [endOf, dif_neg h]
theorem endOf_ge (f : Int → Bool) (s : ByteArray) (pos : Nat) (h : pos ≤ s.size) : pos ≤ endOf f s pos ∧ endOf f s pos ≤ s.size := by
  by_cases hp : pos < s.size
  · by_cases hf : f ((Utf8.decode s pos).1 : Int) = true
    · rw [endOf_on hp hf]
      have h1 := (decode_le s pos).2.1
      have h2 := decode_fits s pos hp
      have := endOf_ge f s (pos + (Utf8.decode s pos).2) h2
      omega
    · rw [endOf_stop hp (by simpa using hf)]; omega
  · rw [endOf_out hp]; omega
termination_by s.size - pos
decreasing_by
  have := (decode_le s pos).2.1
  omega

set_option maxRecDepth 1000000 in
set_option maxHeartbeats 400000 in
theorem runEndNam (s : ByteArray) (a : Nat) (hs : s.size ≤ 65536) (ha : a ≤ s.size) (w : World) :
    Calls Tryz.prog 85 #[.string s, .int .i64 a, .func (.func 86) #[] #[]] w fun e w' => e = .returned (.int .i64 (endOf isNam s a)) ∧ Below w.heap.size w w' := by
  obtain ⟨E, hE⟩ : ∃ E, endOf isNam s a = E := ⟨_, rfl⟩
  rw [hE]
  have hTs : (s.extract a s.size).size = s.size - a := by simp
  have hdec : ∀ pos, Utf8.decode (s.extract a s.size) pos = Utf8.decode s (a + pos) := fun pos => Lib.tail_decode s a pos
  go_enter Tryz.func85, Tryz.ntmps85
  go_wp2
  generalize s.extract a s.size = T at hTs hdec ⊢
  have HD : Hid (∀ pos, Utf8.decode T pos = Utf8.decode s (a + pos)) := hdec
  have HE : Hid (endOf isNam s a = E) := hE
  clear hdec hE
  go_loopw [7] (fun _ wr => ∃ pos : Nat, pos ≤ T.size ∧ wr = w.iter T pos ∧ endOf isNam s (a + pos) = E) (fun _ wr => T.size - wr.iterPos w.heap.size)
  case atStart => exact ⟨0, by omega, rfl, HE⟩
  case round =>
    obtain ⟨pos, hpos, rfl, hen⟩ := hrel
    have HN : Hid (endOf isNam s (a + pos) = E) := hen
    clear hen HE
    by_cases hp : pos < T.size
    · have hnx : ∀ ty, (Instr.next (.pointer (some ⟨w.heap.size, 0, none⟩)) true ty).run Tryz.prog (w.iter T pos) = _ := fun ty => run_next_any w T pos ty hp
      have c := implNam ((Utf8.decode T pos).1 : Int)
      have hle := (decode_le T pos).1
      have hg1 := (decode_le T pos).2.1
      have hft := decode_fits T pos hp
      obtain ⟨b, hb⟩ : ∃ b, isNam ((Utf8.decode T pos).1 : Int) = b := ⟨_, rfl⟩
      rw [hb] at c
      have HB : Hid (isNam ((Utf8.decode T pos).1 : Int) = b) := hb
      clear hb
      obtain ⟨R, hR⟩ : ∃ R, (Utf8.decode T pos).1 = R := ⟨_, rfl⟩
      obtain ⟨K, hK⟩ : ∃ K, (Utf8.decode T pos).2 = K := ⟨_, rfl⟩
      have HK : Hid ((Utf8.decode T pos).2 = K) := hK
      rw [hR] at c hle hnx
      rw [hK] at hnx hg1 hft
      clear hR hK
      have hle' : (R : Int) ≤ 1114111 := by omega
      cases b
      · go_wp2_with (go_at_call 86; go_must (refine (c _).mono ?_; rintro e w' ⟨rfl, rfl⟩))
        go_ret
        refine ⟨?_, (Below.refl _ w).alloc (Nat.le_refl _) _⟩
        have h1 := HN.out
        rw [endOf_stop (by omega) (by rw [← HD.out]; exact HB)] at h1
        rw [← h1]
        go_num
      · go_wp2_with (go_at_call 86; go_must (refine (c _).mono ?_; rintro e w' ⟨rfl, rfl⟩))
        go_roundw
        case rel =>
          refine ⟨pos + K, by omega, rfl, ?_⟩
          have h1 := HN.out
          rw [endOf_on (by omega) (by rw [← HD.out]; exact HB), ← HD.out, HK.out] at h1
          rw [← Nat.add_assoc]; exact h1
        case measure => simp; omega
    · have hnx : ∀ ty, (Instr.next (.pointer (some ⟨w.heap.size, 0, none⟩)) true ty).run Tryz.prog (w.iter T pos) = _ := fun ty => run_next_end w T pos ty hp
      go_wp2
      go_ret
      refine ⟨?_, (Below.refl _ w).alloc (Nat.le_refl _) _⟩
      have h1 := HN.out
      rw [endOf_out (by omega)] at h1
      rw [← h1]
      rfl

set_option maxRecDepth 1000000 in
set_option maxHeartbeats 400000 in
theorem runEndDig (s : ByteArray) (a : Nat) (hs : s.size ≤ 65536) (ha : a ≤ s.size) (w : World) :
    Calls Tryz.prog 85 #[.string s, .int .i64 a, .func (.func 104) #[] #[]] w fun e w' => e = .returned (.int .i64 (endOf isDig s a)) ∧ Below w.heap.size w w' := by
  obtain ⟨E, hE⟩ : ∃ E, endOf isDig s a = E := ⟨_, rfl⟩
  rw [hE]
  have hTs : (s.extract a s.size).size = s.size - a := by simp
  have hdec : ∀ pos, Utf8.decode (s.extract a s.size) pos = Utf8.decode s (a + pos) := fun pos => Lib.tail_decode s a pos
  go_enter Tryz.func85, Tryz.ntmps85
  go_wp2
  generalize s.extract a s.size = T at hTs hdec ⊢
  have HD : Hid (∀ pos, Utf8.decode T pos = Utf8.decode s (a + pos)) := hdec
  have HE : Hid (endOf isDig s a = E) := hE
  clear hdec hE
  go_loopw [7] (fun _ wr => ∃ pos : Nat, pos ≤ T.size ∧ wr = w.iter T pos ∧ endOf isDig s (a + pos) = E) (fun _ wr => T.size - wr.iterPos w.heap.size)
  case atStart => exact ⟨0, by omega, rfl, HE⟩
  case round =>
    obtain ⟨pos, hpos, rfl, hen⟩ := hrel
    have HN : Hid (endOf isDig s (a + pos) = E) := hen
    clear hen HE
    by_cases hp : pos < T.size
    · have hnx : ∀ ty, (Instr.next (.pointer (some ⟨w.heap.size, 0, none⟩)) true ty).run Tryz.prog (w.iter T pos) = _ := fun ty => run_next_any w T pos ty hp
      have c := implDigit ((Utf8.decode T pos).1 : Int)
      have hle := (decode_le T pos).1
      have hg1 := (decode_le T pos).2.1
      have hft := decode_fits T pos hp
      obtain ⟨b, hb⟩ : ∃ b, isDig ((Utf8.decode T pos).1 : Int) = b := ⟨_, rfl⟩
      rw [hb] at c
      have HB : Hid (isDig ((Utf8.decode T pos).1 : Int) = b) := hb
      clear hb
      obtain ⟨R, hR⟩ : ∃ R, (Utf8.decode T pos).1 = R := ⟨_, rfl⟩
      obtain ⟨K, hK⟩ : ∃ K, (Utf8.decode T pos).2 = K := ⟨_, rfl⟩
      have HK : Hid ((Utf8.decode T pos).2 = K) := hK
      rw [hR] at c hle hnx
      rw [hK] at hnx hg1 hft
      clear hR hK
      have hle' : (R : Int) ≤ 1114111 := by omega
      cases b
      · go_wp2_with (go_at_call 104; go_must (refine (c _).mono ?_; rintro e w' ⟨rfl, rfl⟩))
        go_ret
        refine ⟨?_, (Below.refl _ w).alloc (Nat.le_refl _) _⟩
        have h1 := HN.out
        rw [endOf_stop (by omega) (by rw [← HD.out]; exact HB)] at h1
        rw [← h1]
        go_num
      · go_wp2_with (go_at_call 104; go_must (refine (c _).mono ?_; rintro e w' ⟨rfl, rfl⟩))
        go_roundw
        case rel =>
          refine ⟨pos + K, by omega, rfl, ?_⟩
          have h1 := HN.out
          rw [endOf_on (by omega) (by rw [← HD.out]; exact HB), ← HD.out, HK.out] at h1
          rw [← Nat.add_assoc]; exact h1
        case measure => simp; omega
    · have hnx : ∀ ty, (Instr.next (.pointer (some ⟨w.heap.size, 0, none⟩)) true ty).run Tryz.prog (w.iter T pos) = _ := fun ty => run_next_end w T pos ty hp
      go_wp2
      go_ret
      refine ⟨?_, (Below.refl _ w).alloc (Nat.le_refl _) _⟩
      have h1 := HN.out
      rw [endOf_out (by omega)] at h1
      rw [← h1]
      rfl

/-- Where a name ends that begins at a place: at the place itself if no letter stands there. -/
def wordEnd (s : ByteArray) (a : Nat) : Nat :=
  if a < s.size ∧ isLet ((Utf8.decode s a).1 : Int) = true then endOf isNam s (a + (Utf8.decode s a).2) else a
theorem wordEnd_ge (s : ByteArray) (a : Nat) (h : a ≤ s.size) : a ≤ wordEnd s a ∧ wordEnd s a ≤ s.size := by
  unfold wordEnd
  split
  · rename_i hc
    have h1 := endOf_ge isNam s (a + (Utf8.decode s a).2) (decode_fits s a hc.1)
    omega
  · omega
/-- What the search for a name's end keeps. -/
def AtWord (s : ByteArray) (a i W : Nat) : Prop := (i = a ∧ wordEnd s a = W) ∨ (a < i ∧ endOf isNam s i = W)
theorem AtWord.stop {s : ByteArray} {a i W : Nat} (h : AtWord s a i W) (hi : i < s.size) (h1 : isLet ((Utf8.decode s i).1 : Int) = false) (h2 : a < i → isDig ((Utf8.decode s i).1 : Int) = false) : W = i := by
  rcases h with ⟨rfl, rfl⟩ | ⟨hl, rfl⟩
  · unfold wordEnd; rw [if_neg]; simp [h1]
  · exact endOf_stop hi (by simp [isNam, h1, h2 hl])
theorem AtWord.end {s : ByteArray} {a i W : Nat} (h : AtWord s a i W) (hi : ¬ i < s.size) (hle : i ≤ s.size) : W = i := by
  rcases h with ⟨rfl, rfl⟩ | ⟨hl, rfl⟩
  · unfold wordEnd; rw [if_neg]; simp [hi]
  · rw [endOf_out hi]; omega
theorem AtWord.on {s : ByteArray} {a i W : Nat} (h : AtWord s a i W) (hi : i < s.size) (h1 : isLet ((Utf8.decode s i).1 : Int) = true ∨ (a < i ∧ isDig ((Utf8.decode s i).1 : Int) = true)) : AtWord s a (i + (Utf8.decode s i).2) W := by
  have hk := (decode_le s i).2.1
  rcases h with ⟨rfl, rfl⟩ | ⟨hl, rfl⟩
  · refine .inr ⟨by omega, ?_⟩
    unfold wordEnd; rw [if_pos ⟨hi, by rcases h1 with h | ⟨h, _⟩; exact h; omega⟩]
  · refine .inr ⟨by omega, ?_⟩
    rw [endOf_on hi]
    rcases h1 with h | ⟨_, h⟩ <;> simp [isNam, h]

set_option maxRecDepth 1000000 in
set_option maxHeartbeats 1000000 in
theorem specWord (s : ByteArray) (a : Nat) (hs : s.size ≤ 65536) (ha : a ≤ s.size) (w : World) :
    Calls Tryz.prog 38 #[.string s, .int .i64 a] w fun e w' => e = .returned (.int .i64 ((wordEnd s a : Int) - (a : Int))) ∧ Below w.heap.size w w' := by
  obtain ⟨W, hW⟩ : ∃ W, wordEnd s a = W := ⟨_, rfl⟩
  have hAW : AtWord s a a W := .inl ⟨rfl, hW⟩
  rw [hW]
  clear hW
  go_enter Tryz.func38, Tryz.ntmps38
  go_wp2
  go_loopw [5] (fun i wr => ∃ k : Nat, a ≤ k ∧ k ≤ s.size ∧ i = .int .i64 (k : Int) ∧ AtWord s a k W ∧ Below w.heap.size w wr) (fun i _ => s.size - (intOf i).toNat)
  case atStart => exact ⟨a, by omega, by omega, rfl, hAW, Below.refl _ _⟩
  case round =>
    obtain ⟨k, hk1, hk2, rfl, hkW, hB⟩ := hrel
    clear hAW
    by_cases hk : k < s.size
    · have c := specRune s k hs hk
      have c1 := specLetter ((Utf8.decode s k).1 : Int)
      have c2 := specDigit ((Utf8.decode s k).1 : Int)
      have hle := (decode_le s k).1
      have hg1 := (decode_le s k).2.1
      have hft := decode_fits s k hk
      have hst := AtWord.stop hkW hk
      have hon := AtWord.on hkW hk
      obtain ⟨R, hR⟩ : ∃ R, (Utf8.decode s k).1 = R := ⟨_, rfl⟩
      obtain ⟨K, hK⟩ : ∃ K, (Utf8.decode s k).2 = K := ⟨_, rfl⟩
      rw [hR, hK] at c
      rw [hR] at c1 c2 hst hon hle
      rw [hK] at hg1 hft hon
      clear hR hK hkW
      obtain ⟨bl, hbl⟩ : ∃ b, isLet (R : Int) = b := ⟨_, rfl⟩
      obtain ⟨bd, hbd⟩ : ∃ b, isDig (R : Int) = b := ⟨_, rfl⟩
      rw [hbl] at c1 hst hon
      rw [hbd] at c2 hst hon
      clear hbl hbd
      have hkz : (k : Int) < (s.size : Int) := by omega
      cases bl
      · by_cases hak : (a : Int) < (k : Int)
        · cases bd
          · have e := hst rfl fun _ => rfl
            subst e
            clear hst hon
            go_wp2_with (first | (go_at_call 72; go_must (refine (c _).mono ?_; rintro e w1 ⟨rfl, hB1⟩)) | (go_at_call 73; go_must (refine (c1 _).mono ?_; rintro e w' ⟨rfl, rfl⟩)) | (go_at_call 74; go_must (refine (c2 _).mono ?_; rintro e w' ⟨rfl, rfl⟩)))
            go_ret
            exact ⟨rfl, hB.trans (hB1.mono hB.size)⟩
          · have hn := hon (.inr ⟨by omega, rfl⟩)
            clear hst hon
            go_wp2_with (first | (go_at_call 72; go_must (refine (c _).mono ?_; rintro e w1 ⟨rfl, hB1⟩)) | (go_at_call 73; go_must (refine (c1 _).mono ?_; rintro e w' ⟨rfl, rfl⟩)) | (go_at_call 74; go_must (refine (c2 _).mono ?_; rintro e w' ⟨rfl, rfl⟩)))
            go_roundw
            case rel => exact ⟨k + K, by omega, by omega, by go_num, hn, hB.trans (hB1.mono hB.size)⟩
            case measure => simp [intOf]; omega
        · have e := hst rfl (fun h => absurd h (by omega))
          subst e
          clear hst hon
          go_wp2_with (first | (go_at_call 72; go_must (refine (c _).mono ?_; rintro e w1 ⟨rfl, hB1⟩)) | (go_at_call 73; go_must (refine (c1 _).mono ?_; rintro e w' ⟨rfl, rfl⟩)) | (go_at_call 74; go_must (refine (c2 _).mono ?_; rintro e w' ⟨rfl, rfl⟩)))
          go_ret
          exact ⟨rfl, hB.trans (hB1.mono hB.size)⟩
      · have hn := hon (.inl rfl)
        clear hst hon c2
        go_wp2_with (first | (go_at_call 72; go_must (refine (c _).mono ?_; rintro e w1 ⟨rfl, hB1⟩)) | (go_at_call 73; go_must (refine (c1 _).mono ?_; rintro e w' ⟨rfl, rfl⟩)))
        go_roundw
        case rel => exact ⟨k + K, by omega, by omega, by go_num, hn, hB.trans (hB1.mono hB.size)⟩
        case measure => simp [intOf]; omega
    · have e := AtWord.end hkW hk hk2
      subst e
      have hkz : ¬ ((W : Int) < (s.size : Int)) := by omega
      go_wp2
      go_ret
      exact ⟨rfl, hB⟩
end Go.Proofs.YtdlopjimheaekaaGreatDoor

namespace Go.Proofs.YtdlopjimheaekaaGreatDoor
open Go.ChangeShapes Go.WideShapes Go.ChangeAt Go.RowKit
set_option linter.unusedVariables false

def nameOK (s : ByteArray) : Bool := decide (0 < s.size) && decide (s.size ≤ 40) && decide (wordEnd s 0 = s.size) && !hasB resList s

set_option maxRecDepth 100000 in
set_option maxHeartbeats 400000 in
theorem specNameOK (s : ByteArray) (w : World) :
    Calls Tryz.prog 14 #[.string s] w fun e w' => e = .returned (.bool (nameOK s)) ∧ Below w.heap.size w w' := by
  by_cases h0 : s.size = 0
  · have e : nameOK s = false := by simp [nameOK, h0]
    rw [e]
    have h1 : (s.size : Int) = 0 := by omega
    go_enter Tryz.func14, Tryz.ntmps14
    go_wp2_with fail
    go_ret
    exact ⟨rfl, Below.refl _ _⟩
  by_cases h1 : 40 < s.size
  · have e : nameOK s = false := by
      have : decide (s.size ≤ 40) = false := by simp; omega
      simp [nameOK, this]
    rw [e]
    have h2 : (40 : Int) < (s.size : Int) := by omega
    go_enter Tryz.func14, Tryz.ntmps14
    go_wp2_with fail
    go_ret
    exact ⟨rfl, Below.refl _ _⟩
  obtain ⟨E, hE⟩ : ∃ E, wordEnd s 0 = E := ⟨_, rfl⟩
  obtain ⟨B, hB⟩ : ∃ B, hasB resList s = B := ⟨_, rfl⟩
  have c1 : ∀ w, Calls Tryz.prog 38 #[.string s, .int .i64 0] w fun e w' => e = .returned (.int .i64 (E : Int)) ∧ Below w.heap.size w w' := by
    intro w
    have := specWord s 0 (by omega) (by omega) w
    rw [hE] at this
    simpa using this
  have c2 := specReserved s
  rw [hB] at c2
  have e : nameOK s = (decide (E = s.size) && !B) := by
    have a1 : decide (0 < s.size) = true := by simp; omega
    have a2 : decide (s.size ≤ 40) = true := by simp; omega
    simp [nameOK, a1, a2, hE, hB]
  rw [e]
  clear hE hB e
  have p1 : (0 : Int) < (s.size : Int) := by omega
  have p2 : (s.size : Int) ≤ 40 := by omega
  by_cases hEs : (E : Int) = (s.size : Int)
  · have e2 : E = s.size := by omega
    have e3 : decide (E = s.size) = true := by simp [e2]
    have q : ((E : Int) == (s.size : Int)) = true := by simp [e2]
    rw [e3]
    clear e2 e3 hEs
    go_enter Tryz.func14, Tryz.ntmps14
    go_wp2_with (first | (go_at_call 38; go_must (refine (c1 _).mono ?_; rintro e w1 ⟨rfl, hB1⟩)) | (go_at_call 39; go_must (refine (c2 _).mono ?_; rintro e w2 ⟨rfl, hB2⟩)))
    go_ret
    refine ⟨?_, hB1.trans (hB2.mono hB1.size)⟩
    cases B <;> rfl
  · have e3 : decide (E = s.size) = false := by simp; omega
    have q : ((E : Int) == (s.size : Int)) = false := by simp; omega
    rw [e3]
    clear e3 hEs
    go_enter Tryz.func14, Tryz.ntmps14
    go_wp2_with (first | (go_at_call 38; go_must (refine (c1 _).mono ?_; rintro e w1 ⟨rfl, hB1⟩)) | (go_at_call 39; go_must (refine (c2 _).mono ?_; rintro e w2 ⟨rfl, hB2⟩)))
    go_ret
    exact ⟨rfl, hB1⟩

theorem word_of_end (s : ByteArray) (h : 0 < s.size) : decide (wordEnd s 0 = s.size) = (isLet ((Utf8.decode s 0).1 : Int) && decide (endOf isNam s 0 = s.size)) := by
  unfold wordEnd
  cases hl : isLet ((Utf8.decode s 0).1 : Int)
  · rw [if_neg (by simp)]; simp; omega
  · rw [if_pos ⟨h, rfl⟩, endOf_on (f := isNam) h (by simp [isNam, hl])]
    simp

set_option maxRecDepth 100000 in
set_option maxHeartbeats 400000 in
theorem implNameOK (s : ByteArray) (w : World) (hT : Lib.Utf8Tabs 0 1 w) :
    Calls Tryz.prog 48 #[.string s] w fun e w' => e = .returned (.bool (nameOK s)) ∧ Below w.heap.size w w' := by
  by_cases h0 : s.size = 0
  · have e : nameOK s = false := by simp [nameOK, h0]
    rw [e]
    clear hT
    have h1 : (s.size : Int) = 0 := by omega
    go_enter Tryz.func48, Tryz.ntmps48
    go_wp2_with fail
    go_ret
    exact ⟨rfl, Below.refl _ _⟩
  by_cases h1 : 40 < s.size
  · have e : nameOK s = false := by
      have : decide (s.size ≤ 40) = false := by simp; omega
      simp [nameOK, this]
    rw [e]
    clear hT
    have h2 : (40 : Int) < (s.size : Int) := by omega
    go_enter Tryz.func48, Tryz.ntmps48
    go_wp2_with fail
    go_ret
    exact ⟨rfl, Below.refl _ _⟩
  have c0 := implReserved s
  have hr := runeAt_in (s := s) (i := 0) (by omega) (by omega)
  have c1 := fun w hT => implRuneAt s 0 w hT
  have hr' : runeAt s 0 = (((Utf8.decode s 0).1 : Int), ((Utf8.decode s 0).2 : Int)) := hr
  rw [hr'] at c1
  have c2 := implLetter ((Utf8.decode s 0).1 : Int)
  have c3 : ∀ w, Calls Tryz.prog 85 #[.string s, .int .i64 0, .func (.func 86) #[] #[]] w fun e w' => e = .returned (.int .i64 (endOf isNam s 0)) ∧ Below w.heap.size w w' := fun w => runEndNam s 0 (by omega) (by omega) w
  have hw := word_of_end s (by omega)
  obtain ⟨B, hB⟩ : ∃ B, hasB resList s = B := ⟨_, rfl⟩
  obtain ⟨E, hE⟩ : ∃ E, endOf isNam s 0 = E := ⟨_, rfl⟩
  have e : nameOK s = (isLet ((Utf8.decode s 0).1 : Int) && decide (E = s.size) && !B) := by
    have a1 : decide (0 < s.size) = true := by simp; omega
    have a2 : decide (s.size ≤ 40) = true := by simp; omega
    simp only [nameOK, a1, a2, hB, hw, hE, Bool.true_and]
  rw [e]
  rw [hB] at c0
  rw [hE] at c3
  obtain ⟨R, hR⟩ : ∃ R, (Utf8.decode s 0).1 = R := ⟨_, rfl⟩
  obtain ⟨K, hK⟩ : ∃ K, (Utf8.decode s 0).2 = K := ⟨_, rfl⟩
  rw [hR] at c1 c2 ⊢
  rw [hK] at c1
  obtain ⟨Lb, hL⟩ : ∃ L, isLet (R : Int) = L := ⟨_, rfl⟩
  rw [hL] at c2 ⊢
  have HT : Hid (Lib.Utf8Tabs 0 1 w) := hT
  clear hE hB e hw hr hr' hR hK hL hT
  have p1 : ((s.size : Int) == 0) = false := by rw [beq_eq_false_iff_ne]; omega
  have p2 : (s.size : Int) ≤ 40 := by omega
  cases B
  · cases Lb
    · go_enter Tryz.func48, Tryz.ntmps48
      go_wp2_with (first | (go_at_call 82; go_must (refine (c0 _).mono ?_; rintro e w1 ⟨rfl, rfl⟩)) | (go_at_call 83; go_must (refine (c1 _ HT.out).mono ?_; rintro e w2 ⟨rfl, hB2⟩)) | (go_at_call 84; go_must (refine (c2 _).mono ?_; rintro e w' ⟨rfl, rfl⟩)) | (go_at_call 85; go_must (refine (c3 _).mono ?_; rintro e w3 ⟨rfl, hB3⟩)))
      go_ret
      exact ⟨rfl, hB2⟩
    · go_enter Tryz.func48, Tryz.ntmps48
      go_wp2_with (first | (go_at_call 82; go_must (refine (c0 _).mono ?_; rintro e w1 ⟨rfl, rfl⟩)) | (go_at_call 83; go_must (refine (c1 _ HT.out).mono ?_; rintro e w2 ⟨rfl, hB2⟩)) | (go_at_call 84; go_must (refine (c2 _).mono ?_; rintro e w' ⟨rfl, rfl⟩)) | (go_at_call 85; go_must (refine (c3 _).mono ?_; rintro e w3 ⟨rfl, hB3⟩)))
      go_ret
      refine ⟨?_, hB2.trans (hB3.mono hB2.size)⟩
      refine congrArg (fun b => Ending.returned (Value.bool b)) ?_
      rw [Bool.eq_iff_iff]
      simp
      omega
  · have e4 : (Lb && decide (E = s.size) && !true) = false := by simp
    rw [e4]
    go_enter Tryz.func48, Tryz.ntmps48
    go_wp2_with (first | (go_at_call 82; go_must (refine (c0 _).mono ?_; rintro e w1 ⟨rfl, rfl⟩)))
    go_ret
    exact ⟨rfl, Below.refl _ _⟩
end Go.Proofs.YtdlopjimheaekaaGreatDoor

namespace Go.Proofs.YtdlopjimheaekaaGreatDoor
open Go.ChangeShapes Go.WideShapes Go.ChangeAt Go.RowKit
set_option linter.unusedVariables false
set_option linter.unusedSimpArgs false

def numOf (l : List UInt8) : Nat := l.foldl (fun n b => n * 10 + (b.toNat - 48)) 0
theorem numOf_succ (d : ByteArray) (k : Nat) (h : k < d.size) : numOf (d.data.toList.take (k + 1)) = numOf (d.data.toList.take k) * 10 + (byt d k - 48) := by
  have hl : k < d.data.toList.length := by simpa using h
  unfold numOf
  rw [List.take_succ_eq_append_getElem hl, List.foldl_append]
  simp only [List.foldl_cons, List.foldl_nil]
  have : (d.data.toList[k]).toNat = byt d k := by
    rw [← byt_eq d k h]; rfl
  rw [this]
theorem numOf_lt (d : ByteArray) (k : Nat) (hd : ∀ i, i < k → 48 ≤ byt d i ∧ byt d i ≤ 57) (h : k ≤ d.size) : numOf (d.data.toList.take k) < 10 ^ k := by
  induction k with
  | zero => simp [numOf]
  | succ k ih =>
    rw [numOf_succ d k (by omega), Nat.pow_succ]
    have := ih (fun i hi => hd i (by omega)) (by omega)
    have := hd k (by omega)
    omega
def digsB (d : ByteArray) : Bool := (List.range d.size).all fun i => decide (48 ≤ byt d i) && decide (byt d i ≤ 57)
def negB (t : ByteArray) : Bool := decide (0 < t.size) && decide (byt t 0 = 45)
def absT (t : ByteArray) : ByteArray := if negB t then t.extract 1 t.size else t
def headB (d : ByteArray) (neg : Bool) : Bool := decide (d.size = 0) || decide (18 < d.size) || (decide (byt d 0 = 48) && (decide (1 < d.size) || neg))
def numB (t : ByteArray) : Bool := !headB (absT t) (negB t) && digsB (absT t)
def numV (t : ByteArray) : Int := if numB t then (if negB t then -1 else 1) * (numOf (absT t).data.toList : Int) else 0
theorem digs_no {d : ByteArray} {k : Nat} (hk : k < d.size) (h : ¬ (48 ≤ byt d k ∧ byt d k ≤ 57)) : digsB d = false := by
  unfold digsB
  rw [List.all_eq_false]
  exact ⟨k, List.mem_range.2 hk, by simpa using h⟩
theorem digs_yes {d : ByteArray} (h : ∀ i, i < d.size → 48 ≤ byt d i ∧ byt d i ≤ 57) : digsB d = true := by
  unfold digsB
  rw [List.all_eq_true]
  intro i hi
  simpa using h i (List.mem_range.1 hi)
set_option maxRecDepth 100000 in
set_option maxHeartbeats 2000000 in
theorem specNumber (t : ByteArray) (ht : t.size ≤ 1048576) (w : World) :
    Calls Tryz.prog 70 #[.string t] w fun e w' => e = .returned (.tuple #[.int .i64 (numV t), .bool (numB t)]) ∧ w' = w := by
  have hbt := fun h => byt_eq t 0 h
  have hts : (t.size : Int) ≤ 1048576 := by omega
  have hda : (absT t).size ≤ 1048576 := by
    unfold absT; split
    · rw [ByteArray.size_extract]; omega
    · exact ht
  have hval : numV t = if numB t then (if negB t then -1 else 1) * (numOf (absT t).data.toList : Int) else 0 := rfl
  have hnb : numB t = (!headB (absT t) (negB t) && digsB (absT t)) := rfl
  have hneg : negB t = (decide (0 < t.size) && decide (byt t 0 = 45)) := rfl
  have habs : absT t = if negB t then t.extract 1 t.size else t := rfl
  obtain ⟨NV, hNV⟩ : ∃ NV, numV t = NV := ⟨_, rfl⟩
  obtain ⟨NB, hNB⟩ : ∃ NB, numB t = NB := ⟨_, rfl⟩
  obtain ⟨d, hd⟩ : ∃ d, absT t = d := ⟨_, rfl⟩
  obtain ⟨ng, hng⟩ : ∃ ng, negB t = ng := ⟨_, rfl⟩
  rw [hNV, hNB, hng, hd] at hval
  rw [hNB, hd, hng] at hnb
  rw [hng] at hneg habs
  rw [hd] at habs hda
  rw [hNV, hNB]
  have HV : Hid (NV = if NB = true then (if ng = true then -1 else 1) * (numOf d.data.toList : Int) else 0) := hval
  have HNB : Hid (NB = (!headB d ng && digsB d)) := hnb
  have HNG : Hid (ng = (decide (0 < t.size) && decide (byt t 0 = 45))) := hneg
  have HAB : Hid (d = if ng = true then t.extract 1 t.size else t) := habs
  clear hNV hNB hd hng hval hnb hneg habs
  cases ng
  case true =>
    have hn := HNG.out
    obtain ⟨h0, h45⟩ : 0 < t.size ∧ byt t 0 = 45 := by simpa using hn.symm
    have h0' : (0 : Int) < (t.size : Int) := by omega
    have hb45 := hbt h0
    rw [h45] at hb45
    have hab0 := HAB.out
    rw [if_pos rfl] at hab0
    have HAB2 : Hid (d = t.extract 1 t.size) := hab0
    clear hab0 HAB
    have hlo : (1 : Int) ≤ (t.size : Int) := by omega
    clear hbt hn
    go_enter Tryz.func70, Tryz.ntmps70
    go_upto_region 5 with fail
    rw [← HAB2.out]
    go_cut [38] from 17 to 39 (fun s38 wx => s38 = .bool (headB d true) ∧ wx = w)
    case first =>
      have HH : Hid (headB d true = (decide (d.size = 0) || decide (18 < d.size) || (decide (byt d 0 = 48) && (decide (1 < d.size) || true)))) := (show headB d true = (decide (d.size = 0) || decide (18 < d.size) || (decide (byt d 0 = 48) && (decide (1 < d.size) || true))) from rfl)
      by_cases s0 : d.size = 0
      · have s0' : ((d.size : Int) == 0) = true := by rw [beq_iff_eq]; omega
        have e := HH.out
        rw [decide_eq_true s0] at e
        simp only [Bool.true_or] at e
        have HE : Hid (headB d true = true) := e
        clear e
        go_wp2_with fail
        go_meet
        exact ⟨by rw [HE.out], rfl⟩
      have s0' : ((d.size : Int) == 0) = false := by rw [beq_eq_false_iff_ne]; omega
      by_cases s18 : 18 < d.size
      · have s18' : (18 : Int) < (d.size : Int) := by omega
        have e := HH.out
        rw [decide_eq_true s18] at e
        simp only [Bool.true_or, Bool.or_true] at e
        have HE : Hid (headB d true = true) := e
        clear e
        go_wp2_with fail
        go_meet
        exact ⟨by rw [HE.out], rfl⟩
      have s18' : ¬ ((18 : Int) < (d.size : Int)) := by omega
      have hpos : (0 : Int) < (d.size : Int) := by omega
      have hb0 := byt_eq d 0 (by omega)
      by_cases b48 : byt d 0 = 48
      · rw [b48] at hb0
        by_cases s1 : 1 < d.size
        · have s1' : (1 : Int) < (d.size : Int) := by omega
          have e := HH.out
          rw [decide_eq_true b48, decide_eq_true s1] at e
          simp only [Bool.true_or, Bool.or_true, Bool.true_and] at e
          have HE : Hid (headB d true = true) := e
          clear e
          go_wp2_with fail
          go_meet
          exact ⟨by rw [HE.out], rfl⟩
        · have s1' : ¬ ((1 : Int) < (d.size : Int)) := by omega
          have e := HH.out
          rw [decide_eq_true b48, decide_eq_false s1, decide_eq_false s0, decide_eq_false s18] at e
          simp only [Bool.or_false, Bool.false_or, Bool.true_and] at e
          have HE : Hid (headB d true = true) := e
          clear e
          go_wp2_with fail
          go_meet
          exact ⟨by rw [HE.out], rfl⟩
      · have q48 : ((byt d 0 : Int) == 48) = false := by rw [beq_eq_false_iff_ne]; omega
        have e := HH.out
        rw [decide_eq_false b48, decide_eq_false s0, decide_eq_false s18] at e
        simp only [Bool.or_false, Bool.false_or, Bool.false_and] at e
        have HE : Hid (headB d true = false) := e
        obtain ⟨c, hc⟩ : ∃ c, byt d 0 = c := ⟨_, rfl⟩
        rw [hc] at hb0 q48
        clear hc
        clear e b48
        go_wp2_with fail
        go_meet
        exact ⟨by rw [HE.out], rfl⟩
    case rest =>
      obtain ⟨rfl, rfl⟩ := hcut
      obtain ⟨W, hW⟩ : ∃ W, W = wc := ⟨_, rfl⟩
      subst hW
      cases hh : headB d true
      case true =>
        have hn := HNB.out
        rw [hh] at hn
        simp only [Bool.not_true, Bool.false_and] at hn
        subst hn
        have hv := HV.out
        rw [if_neg (by simp)] at hv
        subst hv
        go_wp2_with fail
        go_ret2
        exact ⟨rfl, rfl⟩
      case false =>
      have hn := HNB.out
      rw [hh] at hn
      simp only [Bool.not_false, Bool.true_and] at hn
      have HN2 : Hid (NB = digsB d) := hn
      have h18 : 1 ≤ d.size ∧ d.size ≤ 18 := by
        unfold headB at hh
        simp only [Bool.or_eq_false_iff, decide_eq_false_iff_not] at hh
        omega
      clear hn hh
      go_wp2_with fail
      go_loopw [5, 6] (fun i5 i6 wr => ∃ k : Nat, k ≤ d.size ∧ i6 = .int .i64 (k : Int) ∧ i5 = .int .i64 ((numOf (d.data.toList.take k) : Nat) : Int) ∧ (∀ i, i < k → 48 ≤ byt d i ∧ byt d i ≤ 57) ∧ wr = W) (fun _ i6 _ => d.size - (intOf i6).toNat)
      case atStart => exact ⟨0, by omega, rfl, rfl, fun i hi => by omega, rfl⟩
      case round =>
        obtain ⟨k, hk, rfl, rfl, hdg, rfl⟩ := hrel
        have HDG : Hid (∀ i, i < k → 48 ≤ byt d i ∧ byt d i ≤ 57) := hdg
        have hlt := numOf_lt d k hdg hk
        clear hdg
        by_cases hkn : k < d.size
        · have hkn' : (k : Int) < (d.size : Int) := by omega
          have hbk := byt_eq d k hkn
          have hsu := numOf_succ d k hkn
          have hpw : 10 ^ k ≤ 10 ^ 17 := Nat.pow_le_pow_right (by omega) (by omega)
          have hno := digs_no hkn
          have hst : 48 ≤ byt d k ∧ byt d k ≤ 57 → ∀ i, i < k + 1 → 48 ≤ byt d i ∧ byt d i ≤ 57 := fun h0 i hi => by
            by_cases e : i = k
            · subst e; exact h0
            · exact HDG.out i (by omega)
          obtain ⟨c, hc⟩ : ∃ c, byt d k = c := ⟨_, rfl⟩
          obtain ⟨n, hn⟩ : ∃ n, numOf (d.data.toList.take k) = n := ⟨_, rfl⟩
          obtain ⟨m, hm⟩ : ∃ m, numOf (d.data.toList.take (k + 1)) = m := ⟨_, rfl⟩
          have HM : Hid (numOf (d.data.toList.take (k + 1)) = m) := hm
          rw [hc] at hbk hsu hno hst
          rw [hn] at hlt hsu ⊢
          rw [hm] at hsu
          have HST : Hid (48 ≤ c ∧ c ≤ 57 → ∀ i, i < k + 1 → 48 ≤ byt d i ∧ byt d i ≤ 57) := hst
          have HNO : Hid (¬ (48 ≤ c ∧ c ≤ 57) → digsB d = false) := hno
          have HSU : Hid (m = n * 10 + (c - 48)) := hsu
          have hn17 : n < 100000000000000000 := by omega
          clear hm hn hc hlt hpw hno hst hsu
          by_cases c1 : c < 48
          · have c1' : (c : Int) < 48 := by omega
            have hf := HNO.out (by omega)
            have h1 := HN2.out
            rw [hf] at h1
            subst h1
            have hv := HV.out
            rw [if_neg (by simp)] at hv
            subst hv
            go_wp2_with fail
            go_ret2
            exact ⟨rfl, rfl⟩
          by_cases c2 : 57 < c
          · have c1' : ¬ ((c : Int) < 48) := by omega
            have c2' : (57 : Int) < (c : Int) := by omega
            have hf := HNO.out (by omega)
            have h1 := HN2.out
            rw [hf] at h1
            subst h1
            have hv := HV.out
            rw [if_neg (by simp)] at hv
            subst hv
            go_wp2_with fail
            go_ret2
            exact ⟨rfl, rfl⟩
          have c1' : ¬ ((c : Int) < 48) := by omega
          have c2' : ¬ ((57 : Int) < (c : Int)) := by omega
          go_wp2_with fail
          exact ⟨⟨k + 1, by omega, by go_num, by rw [HM.out, HSU.out]; congr 1; omega, HST.out ⟨by omega, by omega⟩, by trivial⟩, by simp [intOf]; omega⟩
        · obtain rfl : k = d.size := by omega
          have hkn' : ¬ ((d.size : Int) < (d.size : Int)) := by omega
          have hy := digs_yes HDG.out
          have h1 := HN2.out
          rw [hy] at h1
          subst h1
          have hv := HV.out
          simp only [↓reduceIte, Bool.false_eq_true] at hv
          have htk : numOf (d.data.toList.take d.size) = numOf d.data.toList := by rw [List.take_of_length_le (by simp)]
          rw [htk] at hlt ⊢
          have hpw : 10 ^ d.size ≤ 10 ^ 18 := Nat.pow_le_pow_right (by omega) (by omega)
          obtain ⟨N, hN⟩ : ∃ N, numOf d.data.toList = N := ⟨_, rfl⟩
          rw [hN] at hv hlt ⊢
          have hN18 : N < 1000000000000000000 := by omega
          clear hN hlt hpw htk
          have HV2 : Hid (NV = (-1) * (N : Int)) := hv
          clear hv
          go_wp2_with fail
          go_ret2
          exact ⟨by rw [HV2.out]; simp, rfl⟩
  case false =>
    have hab := HAB.out
    rw [if_neg (by simp)] at hab
    subst hab
    have hn := HNG.out
    by_cases h0 : 0 < d.size
    case neg =>
      have h0' : ¬ ((0 : Int) < (d.size : Int)) := by omega
      clear hbt hn
      have hz : ((d.size : Int) == 0) = true := by rw [beq_iff_eq]; omega
      have hd0 : d.size = 0 := by omega
      have h1 := HNB.out
      unfold headB at h1
      rw [decide_eq_true hd0] at h1
      simp only [Bool.true_or, Bool.not_true, Bool.false_and] at h1
      subst h1
      have hv := HV.out
      rw [if_neg (by simp)] at hv
      subst hv
      clear hd0
      go_enter Tryz.func70, Tryz.ntmps70
      go_wp2_with fail
      go_ret2
      exact ⟨rfl, rfl⟩
    have h0' : (0 : Int) < (d.size : Int) := by omega
    have hb45 := hbt h0
    have hne : byt d 0 ≠ 45 := fun e => by rw [decide_eq_true h0, decide_eq_true e] at hn; cases hn
    have q45 : ((byt d 0 : Int) == 45) = false := by rw [beq_eq_false_iff_ne]; omega
    obtain ⟨c45, hc45⟩ : ∃ c, byt d 0 = c := ⟨_, rfl⟩
    rw [hc45] at hb45 q45
    have HC45 : Hid (byt d 0 = c45) := hc45
    clear hbt hn hne hc45
    go_enter Tryz.func70, Tryz.ntmps70
    go_upto_region 5 with fail
    go_cut [38] from 17 to 39 (fun s38 wx => s38 = .bool (headB d false) ∧ wx = w)
    case first =>
      have HH : Hid (headB d false = (decide (d.size = 0) || decide (18 < d.size) || (decide (byt d 0 = 48) && (decide (1 < d.size) || false)))) := (show headB d false = (decide (d.size = 0) || decide (18 < d.size) || (decide (byt d 0 = 48) && (decide (1 < d.size) || false))) from rfl)
      by_cases s0 : d.size = 0
      · have s0' : ((d.size : Int) == 0) = true := by rw [beq_iff_eq]; omega
        have e := HH.out
        rw [decide_eq_true s0] at e
        simp only [Bool.true_or] at e
        have HE : Hid (headB d false = true) := e
        clear e
        go_wp2_with fail
        go_meet
        exact ⟨by rw [HE.out], rfl⟩
      have s0' : ((d.size : Int) == 0) = false := by rw [beq_eq_false_iff_ne]; omega
      by_cases s18 : 18 < d.size
      · have s18' : (18 : Int) < (d.size : Int) := by omega
        have e := HH.out
        rw [decide_eq_true s18] at e
        simp only [Bool.true_or, Bool.or_true] at e
        have HE : Hid (headB d false = true) := e
        clear e
        go_wp2_with fail
        go_meet
        exact ⟨by rw [HE.out], rfl⟩
      have s18' : ¬ ((18 : Int) < (d.size : Int)) := by omega
      have hpos : (0 : Int) < (d.size : Int) := by omega
      by_cases b48 : byt d 0 = 48
      · have e48 : c45 = 48 := HC45.out.symm.trans b48
        subst e48
        by_cases s1 : 1 < d.size
        · have s1' : (1 : Int) < (d.size : Int) := by omega
          have e := HH.out
          rw [decide_eq_true b48, decide_eq_true s1] at e
          simp only [Bool.true_or, Bool.or_true, Bool.true_and] at e
          have HE : Hid (headB d false = true) := e
          clear e
          go_wp2_with fail
          go_meet
          exact ⟨by rw [HE.out], rfl⟩
        · have s1' : ¬ ((1 : Int) < (d.size : Int)) := by omega
          have e := HH.out
          rw [decide_eq_true b48, decide_eq_false s1, decide_eq_false s0, decide_eq_false s18] at e
          simp only [Bool.or_false, Bool.false_or, Bool.true_and] at e
          have HE : Hid (headB d false = false) := e
          clear e
          go_wp2_with fail
          go_meet
          exact ⟨by rw [HE.out], rfl⟩
      · have q48 : ((c45 : Int) == 48) = false := by have := HC45.out; rw [beq_eq_false_iff_ne]; omega
        have e := HH.out
        rw [decide_eq_false b48, decide_eq_false s0, decide_eq_false s18] at e
        simp only [Bool.or_false, Bool.false_or, Bool.false_and] at e
        have HE : Hid (headB d false = false) := e
        clear e b48
        go_wp2_with fail
        go_meet
        exact ⟨by rw [HE.out], rfl⟩
    case rest =>
      obtain ⟨rfl, rfl⟩ := hcut
      obtain ⟨W, hW⟩ : ∃ W, W = wc := ⟨_, rfl⟩
      subst hW
      cases hh : headB d false
      case true =>
        have hn := HNB.out
        rw [hh] at hn
        simp only [Bool.not_true, Bool.false_and] at hn
        subst hn
        have hv := HV.out
        rw [if_neg (by simp)] at hv
        subst hv
        go_wp2_with fail
        go_ret2
        exact ⟨rfl, rfl⟩
      case false =>
      have hn := HNB.out
      rw [hh] at hn
      simp only [Bool.not_false, Bool.true_and] at hn
      have HN2 : Hid (NB = digsB d) := hn
      have h18 : 1 ≤ d.size ∧ d.size ≤ 18 := by
        unfold headB at hh
        simp only [Bool.or_eq_false_iff, decide_eq_false_iff_not] at hh
        omega
      clear hn hh
      go_wp2_with fail
      go_loopw [5, 6] (fun i5 i6 wr => ∃ k : Nat, k ≤ d.size ∧ i6 = .int .i64 (k : Int) ∧ i5 = .int .i64 ((numOf (d.data.toList.take k) : Nat) : Int) ∧ (∀ i, i < k → 48 ≤ byt d i ∧ byt d i ≤ 57) ∧ wr = W) (fun _ i6 _ => d.size - (intOf i6).toNat)
      case atStart => exact ⟨0, by omega, rfl, rfl, fun i hi => by omega, rfl⟩
      case round =>
        obtain ⟨k, hk, rfl, rfl, hdg, rfl⟩ := hrel
        have HDG : Hid (∀ i, i < k → 48 ≤ byt d i ∧ byt d i ≤ 57) := hdg
        have hlt := numOf_lt d k hdg hk
        clear hdg
        by_cases hkn : k < d.size
        · have hkn' : (k : Int) < (d.size : Int) := by omega
          have hbk := byt_eq d k hkn
          have hsu := numOf_succ d k hkn
          have hpw : 10 ^ k ≤ 10 ^ 17 := Nat.pow_le_pow_right (by omega) (by omega)
          have hno := digs_no hkn
          have hst : 48 ≤ byt d k ∧ byt d k ≤ 57 → ∀ i, i < k + 1 → 48 ≤ byt d i ∧ byt d i ≤ 57 := fun h0 i hi => by
            by_cases e : i = k
            · subst e; exact h0
            · exact HDG.out i (by omega)
          obtain ⟨c, hc⟩ : ∃ c, byt d k = c := ⟨_, rfl⟩
          obtain ⟨n, hn⟩ : ∃ n, numOf (d.data.toList.take k) = n := ⟨_, rfl⟩
          obtain ⟨m, hm⟩ : ∃ m, numOf (d.data.toList.take (k + 1)) = m := ⟨_, rfl⟩
          have HM : Hid (numOf (d.data.toList.take (k + 1)) = m) := hm
          rw [hc] at hbk hsu hno hst
          rw [hn] at hlt hsu ⊢
          rw [hm] at hsu
          have HST : Hid (48 ≤ c ∧ c ≤ 57 → ∀ i, i < k + 1 → 48 ≤ byt d i ∧ byt d i ≤ 57) := hst
          have HNO : Hid (¬ (48 ≤ c ∧ c ≤ 57) → digsB d = false) := hno
          have HSU : Hid (m = n * 10 + (c - 48)) := hsu
          have hn17 : n < 100000000000000000 := by omega
          clear hm hn hc hlt hpw hno hst hsu
          by_cases c1 : c < 48
          · have c1' : (c : Int) < 48 := by omega
            have hf := HNO.out (by omega)
            have h1 := HN2.out
            rw [hf] at h1
            subst h1
            have hv := HV.out
            rw [if_neg (by simp)] at hv
            subst hv
            go_wp2_with fail
            go_ret2
            exact ⟨rfl, rfl⟩
          by_cases c2 : 57 < c
          · have c1' : ¬ ((c : Int) < 48) := by omega
            have c2' : (57 : Int) < (c : Int) := by omega
            have hf := HNO.out (by omega)
            have h1 := HN2.out
            rw [hf] at h1
            subst h1
            have hv := HV.out
            rw [if_neg (by simp)] at hv
            subst hv
            go_wp2_with fail
            go_ret2
            exact ⟨rfl, rfl⟩
          have c1' : ¬ ((c : Int) < 48) := by omega
          have c2' : ¬ ((57 : Int) < (c : Int)) := by omega
          go_wp2_with fail
          exact ⟨⟨k + 1, by omega, by go_num, by rw [HM.out, HSU.out]; congr 1; omega, HST.out ⟨by omega, by omega⟩, by trivial⟩, by simp [intOf]; omega⟩
        · obtain rfl : k = d.size := by omega
          have hkn' : ¬ ((d.size : Int) < (d.size : Int)) := by omega
          have hy := digs_yes HDG.out
          have h1 := HN2.out
          rw [hy] at h1
          subst h1
          have hv := HV.out
          simp only [↓reduceIte, Bool.false_eq_true] at hv
          have htk : numOf (d.data.toList.take d.size) = numOf d.data.toList := by rw [List.take_of_length_le (by simp)]
          rw [htk] at hlt ⊢
          have hpw : 10 ^ d.size ≤ 10 ^ 18 := Nat.pow_le_pow_right (by omega) (by omega)
          obtain ⟨N, hN⟩ : ∃ N, numOf d.data.toList = N := ⟨_, rfl⟩
          rw [hN] at hv hlt ⊢
          have hN18 : N < 1000000000000000000 := by omega
          clear hN hlt hpw htk
          have HV2 : Hid (NV = 1 * (N : Int)) := hv
          clear hv
          go_wp2_with fail
          go_ret2
          exact ⟨by rw [HV2.out]; simp, rfl⟩
end Go.Proofs.YtdlopjimheaekaaGreatDoor

namespace Go.Proofs.YtdlopjimheaekaaGreatDoor
open Go.ChangeShapes Go.WideShapes Go.ChangeAt Go.RowKit
set_option linter.unusedVariables false
set_option linter.unusedSimpArgs false

def uT : Nat → ByteArray
  | 0 => ⟨#[109, 115]⟩
  | 1 => ⟨#[115]⟩
  | 2 => ⟨#[109]⟩
  | _ => ⟨#[104]⟩
def mT : Nat → Nat
  | 0 => 1
  | 1 => 1000
  | 2 => 60000
  | _ => 3600000
def uL : Nat → List UInt8
  | 0 => [109, 115]
  | 1 => [115]
  | 2 => [109]
  | _ => [104]
/-- What a text is as a span of the i-th unit. -/
def spanAt (t : ByteArray) (i : Nat) : Option Int :=
  if decide ((uT i).size < t.size) && ((t.extract (t.size - (uT i).size) t.size).toList == uL i) then
    (if numB (t.extract 0 (t.size - (uT i).size)) && decide (0 ≤ numV (t.extract 0 (t.size - (uT i).size))) && decide (numV (t.extract 0 (t.size - (uT i).size)) ≤ ((999999999999999999 / mT i : Nat) : Int))
      then some (numV (t.extract 0 (t.size - (uT i).size)) * (mT i : Int)) else none)
  else none
def spanO (t : ByteArray) : Option Int := (List.range 4).findSome? (spanAt t)
def spanV (t : ByteArray) : Int := (spanO t).getD 0
def spanB (t : ByteArray) : Bool := (spanO t).isSome
theorem span_hit {t : ByteArray} {k : Nat} {v : Int} (hk : k < 4) (h : ∀ i, i < k → spanAt t i = none) (hv : spanAt t k = some v) : spanO t = some v := by
  unfold spanO
  rw [List.findSome?_eq_some_iff]
  refine ⟨List.range k, k, (List.range' (k + 1) (3 - k)), ?_, hv, fun x hx => h x (List.mem_range.1 hx)⟩
  have : k = 0 ∨ k = 1 ∨ k = 2 ∨ k = 3 := by omega
  rcases this with rfl | rfl | rfl | rfl <;> rfl
theorem span_miss {t : ByteArray} (h : ∀ i, i < 4 → spanAt t i = none) : spanO t = none := by
  unfold spanO
  rw [List.findSome?_eq_none_iff]
  exact fun x hx => h x (List.mem_range.1 hx)
theorem uT_size (i : Nat) : 1 ≤ (uT i).size ∧ (uT i).size ≤ 2 := by
  unfold uT; split <;> decide
theorem mT_size (i : Nat) : 1 ≤ mT i ∧ mT i ≤ 3600000 := by
  unfold mT; split <;> decide
set_option maxRecDepth 100000 in
set_option maxHeartbeats 2000000 in
theorem specSpan (t : ByteArray) (ht : t.size ≤ 1048576) (w : World) :
    Calls Tryz.prog 71 #[.string t] w fun e w' => e = .returned (.tuple #[.int .i64 (spanV t), .bool (spanB t)]) ∧ Below w.heap.size w w' := by
  have hts : (t.size : Int) ≤ 1048576 := by omega
  have hU : ∀ W0, W0 = ((w.alloc (.cells #[.string ⟨#[109, 115]⟩, .string ⟨#[115]⟩, .string ⟨#[109]⟩, .string ⟨#[104]⟩] 9)).alloc (.cells #[.int .i64 1, .int .i64 1000, .int .i64 60000, .int .i64 3600000] 3)) →
      Blk W0 w.heap.size 9 #[.string ⟨#[109, 115]⟩, .string ⟨#[115]⟩, .string ⟨#[109]⟩, .string ⟨#[104]⟩] ∧ Blk W0 (w.heap.size + 1) 3 #[.int .i64 1, .int .i64 1000, .int .i64 60000, .int .i64 3600000] ∧ Below w.heap.size w W0 := by
    rintro W0 rfl
    have h1 : Blk (w.alloc (.cells #[.string ⟨#[109, 115]⟩, .string ⟨#[115]⟩, .string ⟨#[109]⟩, .string ⟨#[104]⟩] 9)) w.heap.size 9 #[.string ⟨#[109, 115]⟩, .string ⟨#[115]⟩, .string ⟨#[109]⟩, .string ⟨#[104]⟩] := heap_alloc_last w _
    refine ⟨Blk.below h1 ((Below.refl _ _).alloc (Nat.le_refl _) _), ?_, ((Below.refl _ w).alloc (Nat.le_refl _) _).alloc (by simp) _⟩
    have h2 := heap_alloc_last (w.alloc (.cells #[.string ⟨#[109, 115]⟩, .string ⟨#[115]⟩, .string ⟨#[109]⟩, .string ⟨#[104]⟩] 9)) (.cells #[.int .i64 1, .int .i64 1000, .int .i64 60000, .int .i64 3600000] 3)
    rwa [World.size_alloc] at h2
  have cN := fun (p : ByteArray) (hp : p.size ≤ 1048576) (w : World) => specNumber p hp w
  have HCN : Hid (∀ (p : ByteArray) (hp : p.size ≤ 1048576) (w : World), Calls Tryz.prog 70 #[.string p] w fun e w' => e = .returned (.tuple #[.int .i64 (numV p), .bool (numB p)]) ∧ w' = w) := cN
  clear cN
  go_enter Tryz.func71, Tryz.ntmps71
  go_wp2_with fail
  obtain ⟨W0, hW0⟩ : ∃ W0, W0 = ((w.alloc (.cells #[.string ⟨#[109, 115]⟩, .string ⟨#[115]⟩, .string ⟨#[109]⟩, .string ⟨#[104]⟩] 9)).alloc (.cells #[.int .i64 1, .int .i64 1000, .int .i64 60000, .int .i64 3600000] 3)) := ⟨_, rfl⟩
  obtain ⟨k1, k2, k3⟩ := hU W0 hW0
  rw [← hW0]
  clear hU hW0
  obtain ⟨gU, hgU⟩ : ∃ gU, w.heap.size = gU := ⟨_, rfl⟩
  rw [hgU] at k1 k2 ⊢
  have K1 : Hid (Blk W0 gU 9 #[.string ⟨#[109, 115]⟩, .string ⟨#[115]⟩, .string ⟨#[109]⟩, .string ⟨#[104]⟩]) := k1
  have K2 : Hid (Blk W0 (gU + 1) 3 #[.int .i64 1, .int .i64 1000, .int .i64 60000, .int .i64 3600000]) := k2
  have K3 : Hid (Below w.heap.size w W0) := k3
  have HG : Hid (w.heap.size = gU) := hgU
  clear k1 k2 k3 hgU
  go_loopw [6] (fun i6 wr => ∃ k : Nat, i6 = .int .i64 (k : Int) ∧ k ≤ 4 ∧ (∀ i, i < k → spanAt t i = none) ∧ Below W0.heap.size W0 wr) (fun i6 _ => 4 - (intOf i6).toNat)
  case atStart => exact ⟨0, rfl, by omega, fun i hi => by omega, Below.refl _ _⟩
  case round =>
    obtain ⟨k, rfl, hk, hno, hb⟩ := hrel
    have HNO : Hid (∀ i, i < k → spanAt t i = none) := hno
    have HB : Hid (Below W0.heap.size W0 wr) := hb
    clear hno
    by_cases hkn : k < 4
    · have hst : spanAt t k = none → ∀ i, i < k + 1 → spanAt t i = none := fun h0 i hi => by
        by_cases e : i = k
        · subst e; exact h0
        · exact HNO.out i (by omega)
      have hhi := fun v hv => span_hit (v := v) hkn HNO.out hv
      have HST : Hid (spanAt t k = none → ∀ i, i < k + 1 → spanAt t i = none) := hst
      have HHI : Hid (∀ v, spanAt t k = some v → spanO t = some v) := hhi
      clear hst hhi hb
      have q1 := Blk.below K1.out HB.out
      have q2 := Blk.below K2.out HB.out
      have hsa : spanAt t k = if decide ((uT k).size < t.size) && ((t.extract (t.size - (uT k).size) t.size).toList == uL k) then (if numB (t.extract 0 (t.size - (uT k).size)) && decide (0 ≤ numV (t.extract 0 (t.size - (uT k).size))) && decide (numV (t.extract 0 (t.size - (uT k).size)) ≤ ((999999999999999999 / mT k : Nat) : Int)) then some (numV (t.extract 0 (t.size - (uT k).size)) * (mT k : Int)) else none) else none := rfl
      have e4 : k = 0 ∨ k = 1 ∨ k = 2 ∨ k = 3 := by omega
      rcases e4 with rfl | rfl | rfl | rfl
      · have c1 := q1.cell 0
        have c2 := q2.cell 0
        simp at c1 c2
        have hsz : (⟨#[109, 115]⟩ : ByteArray).size = 2 := rfl
        simp only [show uT 0 = ⟨#[109, 115]⟩ from rfl, show uL 0 = [109, 115] from rfl, show mT 0 = 1 from rfl, hsz] at hsa
        have HSA : Hid (spanAt t 0 = if decide (2 < t.size) && ((t.extract (t.size - 2) t.size).toList == ([109, 115] : List UInt8)) then (if numB (t.extract 0 (t.size - 2)) && decide (0 ≤ numV (t.extract 0 (t.size - 2))) && decide (numV (t.extract 0 (t.size - 2)) ≤ ((999999999999999999 / 1 : Nat) : Int)) then some (numV (t.extract 0 (t.size - 2)) * ((1 : Nat) : Int)) else none) else none) := hsa
        clear hsa q1 q2
        by_cases hlt : 2 < t.size
        case neg =>
          have hle : (t.size : Int) - 2 ≤ 0 := by omega
          have hn := HSA.out
          rw [decide_eq_false hlt] at hn
          simp only [Bool.false_and, Bool.false_eq_true, ↓reduceIte] at hn
          have HN : Hid (spanAt t 0 = none) := hn
          clear hn
          go_upto_region 7 with fail
          go_quiet (fail)
          go_wp2_with fail
          exact ⟨⟨0 + 1, by go_num, by omega, HST.out HN.out, bel_drewN HB.out nq⟩, by simp [intOf]⟩
        obtain ⟨kk, hkk⟩ : ∃ kk, t.size - 2 = kk := ⟨_, rfl⟩
        have ek : (t.size : Int) - 2 = (kk : Int) := by omega
        have hkp : ¬ (kk = 0) := by omega
        have hkt : (kk : Int) ≤ (t.size : Int) := by omega
        have hkt' : kk ≤ t.size := by omega
        have hsa2 := HSA.out
        rw [hkk, decide_eq_true hlt] at hsa2
        simp only [Bool.true_and] at hsa2
        have HS2 : Hid (spanAt t 0 = if ((t.extract kk t.size).toList == ([109, 115] : List UInt8)) = true then (if (numB (t.extract 0 kk) && decide (0 ≤ numV (t.extract 0 kk)) && decide (numV (t.extract 0 kk) ≤ ((999999999999999999 / 1 : Nat) : Int))) = true then some (numV (t.extract 0 kk) * ((1 : Nat) : Int)) else none) else none) := hsa2
        clear hsa2 HSA hkk
        cases hq : ((t.extract kk t.size).toList == ([109, 115] : List UInt8))
        case false =>
          have hn := HS2.out
          rw [hq, if_neg (by simp)] at hn
          have HN : Hid (spanAt t 0 = none) := hn
          clear hn
          go_upto_region 7 with fail
          go_quiet (fail)
          go_wp2_with fail
          exact ⟨⟨0 + 1, by go_num, by omega, HST.out HN.out, bel_drewN HB.out nq⟩, by simp [intOf]⟩
        have hs3 := HS2.out
        rw [hq, if_pos rfl] at hs3
        have cn := fun w => HCN.out (t.extract 0 kk) (by rw [ByteArray.size_extract]; omega) w
        obtain ⟨NV, hNV⟩ : ∃ NV, numV (t.extract 0 kk) = NV := ⟨_, rfl⟩
        obtain ⟨NB, hNB⟩ : ∃ NB, numB (t.extract 0 kk) = NB := ⟨_, rfl⟩
        rw [hNV, hNB] at hs3 cn
        have HS3 : Hid (spanAt t 0 = if (NB && decide (0 ≤ NV) && decide (NV ≤ ((999999999999999999 / 1 : Nat) : Int))) = true then some (NV * ((1 : Nat) : Int)) else none) := hs3
        clear hs3 hNV hNB HS2
        go_upto_region 7 with fail
        go_quiet (fail)
        cases NB
        case false =>
          have hn := HS3.out
          rw [Bool.false_and, Bool.false_and, if_neg (by simp)] at hn
          have HN : Hid (spanAt t 0 = none) := hn
          clear hn
          go_wp2_with (go_at_call 70; go_must (refine (cn _).mono ?_; rintro e w2 ⟨rfl, rfl⟩))
          exact ⟨⟨0 + 1, by go_num, by omega, HST.out HN.out, bel_drewN HB.out nq⟩, by simp [intOf]⟩
        by_cases hv0 : 0 ≤ NV
        case neg =>
          have hn := HS3.out
          rw [decide_eq_false hv0, Bool.and_false, Bool.false_and, if_neg (by simp)] at hn
          have HN : Hid (spanAt t 0 = none) := hn
          clear hn
          go_wp2_with (go_at_call 70; go_must (refine (cn _).mono ?_; rintro e w2 ⟨rfl, rfl⟩))
          exact ⟨⟨0 + 1, by go_num, by omega, HST.out HN.out, bel_drewN HB.out nq⟩, by simp [intOf]⟩
        have hq2 : ((999999999999999999 / 1 : Nat) : Int) = 999999999999999999 := rfl
        by_cases hv1 : NV ≤ 999999999999999999
        case neg =>
          have hn := HS3.out
          rw [hq2, decide_eq_false hv1, Bool.and_false, if_neg (by simp)] at hn
          have HN : Hid (spanAt t 0 = none) := hn
          clear hn hq2
          go_wp2_with (go_at_call 70; go_must (refine (cn _).mono ?_; rintro e w2 ⟨rfl, rfl⟩))
          exact ⟨⟨0 + 1, by go_num, by omega, HST.out HN.out, bel_drewN HB.out nq⟩, by simp [intOf]⟩
        have hn := HS3.out
        rw [hq2, decide_eq_true hv1, decide_eq_true hv0] at hn
        simp only [Bool.and_self, ↓reduceIte] at hn
        have hh := HHI.out _ hn
        have HH : Hid (spanO t = some (NV * ((1 : Nat) : Int))) := hh
        clear hn hq2 hh
        go_wp2_with (go_at_call 70; go_must (refine (cn _).mono ?_; rintro e w2 ⟨rfl, rfl⟩))
        go_ret2
        exact ⟨by unfold spanV spanB; rw [HH.out]; simp, good_below K3.out (bel_drewN HB.out nq)⟩
      · have c1 := q1.cell 1
        have c2 := q2.cell 1
        simp at c1 c2
        have hsz : (⟨#[115]⟩ : ByteArray).size = 1 := rfl
        simp only [show uT 1 = ⟨#[115]⟩ from rfl, show uL 1 = [115] from rfl, show mT 1 = 1000 from rfl, hsz] at hsa
        have HSA : Hid (spanAt t 1 = if decide (1 < t.size) && ((t.extract (t.size - 1) t.size).toList == ([115] : List UInt8)) then (if numB (t.extract 0 (t.size - 1)) && decide (0 ≤ numV (t.extract 0 (t.size - 1))) && decide (numV (t.extract 0 (t.size - 1)) ≤ ((999999999999999999 / 1000 : Nat) : Int)) then some (numV (t.extract 0 (t.size - 1)) * ((1000 : Nat) : Int)) else none) else none) := hsa
        clear hsa q1 q2
        by_cases hlt : 1 < t.size
        case neg =>
          have hle : (t.size : Int) - 1 ≤ 0 := by omega
          have hn := HSA.out
          rw [decide_eq_false hlt] at hn
          simp only [Bool.false_and, Bool.false_eq_true, ↓reduceIte] at hn
          have HN : Hid (spanAt t 1 = none) := hn
          clear hn
          go_upto_region 7 with fail
          go_quiet (fail)
          go_wp2_with fail
          exact ⟨⟨1 + 1, by go_num, by omega, HST.out HN.out, bel_drewN HB.out nq⟩, by simp [intOf]⟩
        obtain ⟨kk, hkk⟩ : ∃ kk, t.size - 1 = kk := ⟨_, rfl⟩
        have ek : (t.size : Int) - 1 = (kk : Int) := by omega
        have hkp : ¬ (kk = 0) := by omega
        have hkt : (kk : Int) ≤ (t.size : Int) := by omega
        have hkt' : kk ≤ t.size := by omega
        have hsa2 := HSA.out
        rw [hkk, decide_eq_true hlt] at hsa2
        simp only [Bool.true_and] at hsa2
        have HS2 : Hid (spanAt t 1 = if ((t.extract kk t.size).toList == ([115] : List UInt8)) = true then (if (numB (t.extract 0 kk) && decide (0 ≤ numV (t.extract 0 kk)) && decide (numV (t.extract 0 kk) ≤ ((999999999999999999 / 1000 : Nat) : Int))) = true then some (numV (t.extract 0 kk) * ((1000 : Nat) : Int)) else none) else none) := hsa2
        clear hsa2 HSA hkk
        cases hq : ((t.extract kk t.size).toList == ([115] : List UInt8))
        case false =>
          have hn := HS2.out
          rw [hq, if_neg (by simp)] at hn
          have HN : Hid (spanAt t 1 = none) := hn
          clear hn
          go_upto_region 7 with fail
          go_quiet (fail)
          go_wp2_with fail
          exact ⟨⟨1 + 1, by go_num, by omega, HST.out HN.out, bel_drewN HB.out nq⟩, by simp [intOf]⟩
        have hs3 := HS2.out
        rw [hq, if_pos rfl] at hs3
        have cn := fun w => HCN.out (t.extract 0 kk) (by rw [ByteArray.size_extract]; omega) w
        obtain ⟨NV, hNV⟩ : ∃ NV, numV (t.extract 0 kk) = NV := ⟨_, rfl⟩
        obtain ⟨NB, hNB⟩ : ∃ NB, numB (t.extract 0 kk) = NB := ⟨_, rfl⟩
        rw [hNV, hNB] at hs3 cn
        have HS3 : Hid (spanAt t 1 = if (NB && decide (0 ≤ NV) && decide (NV ≤ ((999999999999999999 / 1000 : Nat) : Int))) = true then some (NV * ((1000 : Nat) : Int)) else none) := hs3
        clear hs3 hNV hNB HS2
        go_upto_region 7 with fail
        go_quiet (fail)
        cases NB
        case false =>
          have hn := HS3.out
          rw [Bool.false_and, Bool.false_and, if_neg (by simp)] at hn
          have HN : Hid (spanAt t 1 = none) := hn
          clear hn
          go_wp2_with (go_at_call 70; go_must (refine (cn _).mono ?_; rintro e w2 ⟨rfl, rfl⟩))
          exact ⟨⟨1 + 1, by go_num, by omega, HST.out HN.out, bel_drewN HB.out nq⟩, by simp [intOf]⟩
        by_cases hv0 : 0 ≤ NV
        case neg =>
          have hn := HS3.out
          rw [decide_eq_false hv0, Bool.and_false, Bool.false_and, if_neg (by simp)] at hn
          have HN : Hid (spanAt t 1 = none) := hn
          clear hn
          go_wp2_with (go_at_call 70; go_must (refine (cn _).mono ?_; rintro e w2 ⟨rfl, rfl⟩))
          exact ⟨⟨1 + 1, by go_num, by omega, HST.out HN.out, bel_drewN HB.out nq⟩, by simp [intOf]⟩
        have hq2 : ((999999999999999999 / 1000 : Nat) : Int) = 999999999999999 := rfl
        by_cases hv1 : NV ≤ 999999999999999
        case neg =>
          have hn := HS3.out
          rw [hq2, decide_eq_false hv1, Bool.and_false, if_neg (by simp)] at hn
          have HN : Hid (spanAt t 1 = none) := hn
          clear hn hq2
          go_wp2_with (go_at_call 70; go_must (refine (cn _).mono ?_; rintro e w2 ⟨rfl, rfl⟩))
          exact ⟨⟨1 + 1, by go_num, by omega, HST.out HN.out, bel_drewN HB.out nq⟩, by simp [intOf]⟩
        have hn := HS3.out
        rw [hq2, decide_eq_true hv1, decide_eq_true hv0] at hn
        simp only [Bool.and_self, ↓reduceIte] at hn
        have hh := HHI.out _ hn
        have HH : Hid (spanO t = some (NV * ((1000 : Nat) : Int))) := hh
        clear hn hq2 hh
        go_wp2_with (go_at_call 70; go_must (refine (cn _).mono ?_; rintro e w2 ⟨rfl, rfl⟩))
        go_ret2
        exact ⟨by unfold spanV spanB; rw [HH.out]; simp, good_below K3.out (bel_drewN HB.out nq)⟩
      · have c1 := q1.cell 2
        have c2 := q2.cell 2
        simp at c1 c2
        have hsz : (⟨#[109]⟩ : ByteArray).size = 1 := rfl
        simp only [show uT 2 = ⟨#[109]⟩ from rfl, show uL 2 = [109] from rfl, show mT 2 = 60000 from rfl, hsz] at hsa
        have HSA : Hid (spanAt t 2 = if decide (1 < t.size) && ((t.extract (t.size - 1) t.size).toList == ([109] : List UInt8)) then (if numB (t.extract 0 (t.size - 1)) && decide (0 ≤ numV (t.extract 0 (t.size - 1))) && decide (numV (t.extract 0 (t.size - 1)) ≤ ((999999999999999999 / 60000 : Nat) : Int)) then some (numV (t.extract 0 (t.size - 1)) * ((60000 : Nat) : Int)) else none) else none) := hsa
        clear hsa q1 q2
        by_cases hlt : 1 < t.size
        case neg =>
          have hle : (t.size : Int) - 1 ≤ 0 := by omega
          have hn := HSA.out
          rw [decide_eq_false hlt] at hn
          simp only [Bool.false_and, Bool.false_eq_true, ↓reduceIte] at hn
          have HN : Hid (spanAt t 2 = none) := hn
          clear hn
          go_upto_region 7 with fail
          go_quiet (fail)
          go_wp2_with fail
          exact ⟨⟨2 + 1, by go_num, by omega, HST.out HN.out, bel_drewN HB.out nq⟩, by simp [intOf]⟩
        obtain ⟨kk, hkk⟩ : ∃ kk, t.size - 1 = kk := ⟨_, rfl⟩
        have ek : (t.size : Int) - 1 = (kk : Int) := by omega
        have hkp : ¬ (kk = 0) := by omega
        have hkt : (kk : Int) ≤ (t.size : Int) := by omega
        have hkt' : kk ≤ t.size := by omega
        have hsa2 := HSA.out
        rw [hkk, decide_eq_true hlt] at hsa2
        simp only [Bool.true_and] at hsa2
        have HS2 : Hid (spanAt t 2 = if ((t.extract kk t.size).toList == ([109] : List UInt8)) = true then (if (numB (t.extract 0 kk) && decide (0 ≤ numV (t.extract 0 kk)) && decide (numV (t.extract 0 kk) ≤ ((999999999999999999 / 60000 : Nat) : Int))) = true then some (numV (t.extract 0 kk) * ((60000 : Nat) : Int)) else none) else none) := hsa2
        clear hsa2 HSA hkk
        cases hq : ((t.extract kk t.size).toList == ([109] : List UInt8))
        case false =>
          have hn := HS2.out
          rw [hq, if_neg (by simp)] at hn
          have HN : Hid (spanAt t 2 = none) := hn
          clear hn
          go_upto_region 7 with fail
          go_quiet (fail)
          go_wp2_with fail
          exact ⟨⟨2 + 1, by go_num, by omega, HST.out HN.out, bel_drewN HB.out nq⟩, by simp [intOf]⟩
        have hs3 := HS2.out
        rw [hq, if_pos rfl] at hs3
        have cn := fun w => HCN.out (t.extract 0 kk) (by rw [ByteArray.size_extract]; omega) w
        obtain ⟨NV, hNV⟩ : ∃ NV, numV (t.extract 0 kk) = NV := ⟨_, rfl⟩
        obtain ⟨NB, hNB⟩ : ∃ NB, numB (t.extract 0 kk) = NB := ⟨_, rfl⟩
        rw [hNV, hNB] at hs3 cn
        have HS3 : Hid (spanAt t 2 = if (NB && decide (0 ≤ NV) && decide (NV ≤ ((999999999999999999 / 60000 : Nat) : Int))) = true then some (NV * ((60000 : Nat) : Int)) else none) := hs3
        clear hs3 hNV hNB HS2
        go_upto_region 7 with fail
        go_quiet (fail)
        cases NB
        case false =>
          have hn := HS3.out
          rw [Bool.false_and, Bool.false_and, if_neg (by simp)] at hn
          have HN : Hid (spanAt t 2 = none) := hn
          clear hn
          go_wp2_with (go_at_call 70; go_must (refine (cn _).mono ?_; rintro e w2 ⟨rfl, rfl⟩))
          exact ⟨⟨2 + 1, by go_num, by omega, HST.out HN.out, bel_drewN HB.out nq⟩, by simp [intOf]⟩
        by_cases hv0 : 0 ≤ NV
        case neg =>
          have hn := HS3.out
          rw [decide_eq_false hv0, Bool.and_false, Bool.false_and, if_neg (by simp)] at hn
          have HN : Hid (spanAt t 2 = none) := hn
          clear hn
          go_wp2_with (go_at_call 70; go_must (refine (cn _).mono ?_; rintro e w2 ⟨rfl, rfl⟩))
          exact ⟨⟨2 + 1, by go_num, by omega, HST.out HN.out, bel_drewN HB.out nq⟩, by simp [intOf]⟩
        have hq2 : ((999999999999999999 / 60000 : Nat) : Int) = 16666666666666 := rfl
        by_cases hv1 : NV ≤ 16666666666666
        case neg =>
          have hn := HS3.out
          rw [hq2, decide_eq_false hv1, Bool.and_false, if_neg (by simp)] at hn
          have HN : Hid (spanAt t 2 = none) := hn
          clear hn hq2
          go_wp2_with (go_at_call 70; go_must (refine (cn _).mono ?_; rintro e w2 ⟨rfl, rfl⟩))
          exact ⟨⟨2 + 1, by go_num, by omega, HST.out HN.out, bel_drewN HB.out nq⟩, by simp [intOf]⟩
        have hn := HS3.out
        rw [hq2, decide_eq_true hv1, decide_eq_true hv0] at hn
        simp only [Bool.and_self, ↓reduceIte] at hn
        have hh := HHI.out _ hn
        have HH : Hid (spanO t = some (NV * ((60000 : Nat) : Int))) := hh
        clear hn hq2 hh
        go_wp2_with (go_at_call 70; go_must (refine (cn _).mono ?_; rintro e w2 ⟨rfl, rfl⟩))
        go_ret2
        exact ⟨by unfold spanV spanB; rw [HH.out]; simp, good_below K3.out (bel_drewN HB.out nq)⟩
      · have c1 := q1.cell 3
        have c2 := q2.cell 3
        simp at c1 c2
        have hsz : (⟨#[104]⟩ : ByteArray).size = 1 := rfl
        simp only [show uT 3 = ⟨#[104]⟩ from rfl, show uL 3 = [104] from rfl, show mT 3 = 3600000 from rfl, hsz] at hsa
        have HSA : Hid (spanAt t 3 = if decide (1 < t.size) && ((t.extract (t.size - 1) t.size).toList == ([104] : List UInt8)) then (if numB (t.extract 0 (t.size - 1)) && decide (0 ≤ numV (t.extract 0 (t.size - 1))) && decide (numV (t.extract 0 (t.size - 1)) ≤ ((999999999999999999 / 3600000 : Nat) : Int)) then some (numV (t.extract 0 (t.size - 1)) * ((3600000 : Nat) : Int)) else none) else none) := hsa
        clear hsa q1 q2
        by_cases hlt : 1 < t.size
        case neg =>
          have hle : (t.size : Int) - 1 ≤ 0 := by omega
          have hn := HSA.out
          rw [decide_eq_false hlt] at hn
          simp only [Bool.false_and, Bool.false_eq_true, ↓reduceIte] at hn
          have HN : Hid (spanAt t 3 = none) := hn
          clear hn
          go_upto_region 7 with fail
          go_quiet (fail)
          go_wp2_with fail
          exact ⟨⟨3 + 1, by go_num, by omega, HST.out HN.out, bel_drewN HB.out nq⟩, by simp [intOf]⟩
        obtain ⟨kk, hkk⟩ : ∃ kk, t.size - 1 = kk := ⟨_, rfl⟩
        have ek : (t.size : Int) - 1 = (kk : Int) := by omega
        have hkp : ¬ (kk = 0) := by omega
        have hkt : (kk : Int) ≤ (t.size : Int) := by omega
        have hkt' : kk ≤ t.size := by omega
        have hsa2 := HSA.out
        rw [hkk, decide_eq_true hlt] at hsa2
        simp only [Bool.true_and] at hsa2
        have HS2 : Hid (spanAt t 3 = if ((t.extract kk t.size).toList == ([104] : List UInt8)) = true then (if (numB (t.extract 0 kk) && decide (0 ≤ numV (t.extract 0 kk)) && decide (numV (t.extract 0 kk) ≤ ((999999999999999999 / 3600000 : Nat) : Int))) = true then some (numV (t.extract 0 kk) * ((3600000 : Nat) : Int)) else none) else none) := hsa2
        clear hsa2 HSA hkk
        cases hq : ((t.extract kk t.size).toList == ([104] : List UInt8))
        case false =>
          have hn := HS2.out
          rw [hq, if_neg (by simp)] at hn
          have HN : Hid (spanAt t 3 = none) := hn
          clear hn
          go_upto_region 7 with fail
          go_quiet (fail)
          go_wp2_with fail
          exact ⟨⟨3 + 1, by go_num, by omega, HST.out HN.out, bel_drewN HB.out nq⟩, by simp [intOf]⟩
        have hs3 := HS2.out
        rw [hq, if_pos rfl] at hs3
        have cn := fun w => HCN.out (t.extract 0 kk) (by rw [ByteArray.size_extract]; omega) w
        obtain ⟨NV, hNV⟩ : ∃ NV, numV (t.extract 0 kk) = NV := ⟨_, rfl⟩
        obtain ⟨NB, hNB⟩ : ∃ NB, numB (t.extract 0 kk) = NB := ⟨_, rfl⟩
        rw [hNV, hNB] at hs3 cn
        have HS3 : Hid (spanAt t 3 = if (NB && decide (0 ≤ NV) && decide (NV ≤ ((999999999999999999 / 3600000 : Nat) : Int))) = true then some (NV * ((3600000 : Nat) : Int)) else none) := hs3
        clear hs3 hNV hNB HS2
        go_upto_region 7 with fail
        go_quiet (fail)
        cases NB
        case false =>
          have hn := HS3.out
          rw [Bool.false_and, Bool.false_and, if_neg (by simp)] at hn
          have HN : Hid (spanAt t 3 = none) := hn
          clear hn
          go_wp2_with (go_at_call 70; go_must (refine (cn _).mono ?_; rintro e w2 ⟨rfl, rfl⟩))
          exact ⟨⟨3 + 1, by go_num, by omega, HST.out HN.out, bel_drewN HB.out nq⟩, by simp [intOf]⟩
        by_cases hv0 : 0 ≤ NV
        case neg =>
          have hn := HS3.out
          rw [decide_eq_false hv0, Bool.and_false, Bool.false_and, if_neg (by simp)] at hn
          have HN : Hid (spanAt t 3 = none) := hn
          clear hn
          go_wp2_with (go_at_call 70; go_must (refine (cn _).mono ?_; rintro e w2 ⟨rfl, rfl⟩))
          exact ⟨⟨3 + 1, by go_num, by omega, HST.out HN.out, bel_drewN HB.out nq⟩, by simp [intOf]⟩
        have hq2 : ((999999999999999999 / 3600000 : Nat) : Int) = 277777777777 := rfl
        by_cases hv1 : NV ≤ 277777777777
        case neg =>
          have hn := HS3.out
          rw [hq2, decide_eq_false hv1, Bool.and_false, if_neg (by simp)] at hn
          have HN : Hid (spanAt t 3 = none) := hn
          clear hn hq2
          go_wp2_with (go_at_call 70; go_must (refine (cn _).mono ?_; rintro e w2 ⟨rfl, rfl⟩))
          exact ⟨⟨3 + 1, by go_num, by omega, HST.out HN.out, bel_drewN HB.out nq⟩, by simp [intOf]⟩
        have hn := HS3.out
        rw [hq2, decide_eq_true hv1, decide_eq_true hv0] at hn
        simp only [Bool.and_self, ↓reduceIte] at hn
        have hh := HHI.out _ hn
        have HH : Hid (spanO t = some (NV * ((3600000 : Nat) : Int))) := hh
        clear hn hq2 hh
        go_wp2_with (go_at_call 70; go_must (refine (cn _).mono ?_; rintro e w2 ⟨rfl, rfl⟩))
        go_ret2
        exact ⟨by unfold spanV spanB; rw [HH.out]; simp, good_below K3.out (bel_drewN HB.out nq)⟩
    · obtain rfl : k = 4 := by omega
      have hm := span_miss HNO.out
      go_wp2_with fail
      go_ret2
      exact ⟨by unfold spanV spanB; rw [hm]; rfl, good_below K3.out HB.out⟩
end Go.Proofs.YtdlopjimheaekaaGreatDoor

namespace Go.Proofs.YtdlopjimheaekaaGreatDoor
open Go.ChangeShapes Go.WideShapes Go.ChangeAt Go.RowKit
set_option linter.unusedVariables false
set_option linter.unusedSimpArgs false

def yesB (t : ByteArray) : Bool := t.toList == [121, 101, 115]
def noB (t : ByteArray) : Bool := t.toList == [110, 111]
def chO (cs : List ByteArray) (t : ByteArray) : Option Nat := cs.findIdx? fun c => c.toList == t.toList
/-- A text's number by a rule, if it is of the rule's form. -/
def formO (r : Rule) (t : ByteArray) : Option Int :=
  if r.kind = 1 then (if numB t then some (numV t) else none)
  else if r.kind = 2 then (if yesB t then some 1 else if noB t then some 0 else none)
  else if r.kind = 3 then some (t.size : Int)
  else if r.kind = 4 then Option.map (fun (i : Nat) => (i : Int)) (chO r.choices t)
  else (if spanB t then some (spanV t) else none)
def boundB (r : Rule) : Bool := !(r.kind == 2) && !(r.kind == 4)
def fitO (BB : Bool) (mi ma : Int) : Option Int → Int × Int
  | none => (0, 3)
  | some n => if BB && (decide (n < mi) || decide (ma < n)) then (0, 9) else (n, 0)
def fitP (r : Rule) (t : ByteArray) : Int × Int := fitO (boundB r) r.min' r.max' (formO r t)
theorem fitO_none (BB : Bool) (mi ma : Int) : fitO BB mi ma none = (0, 3) := rfl
theorem fitO_some (BB : Bool) (mi ma n : Int) : fitO BB mi ma (some n) = if BB && (decide (n < mi) || decide (ma < n)) then (0, 9) else (n, 0) := rfl
theorem fitO_free (mi ma n : Int) : fitO false mi ma (some n) = (n, 0) := rfl
def rVal (r : Rule) (cv : Value) : Value := .agg #[.string r.path, .int .i64 r.kind, .int .i64 r.min', .int .i64 r.max', cv, .bool r.must, .string r.default']
theorem ch_hit {l : List ByteArray} {t : ByteArray} {k : Nat} (hk : k < l.length) (h : ∀ i (hi : i < l.length), i < k → (l[i].toList == t.toList) = false) (h1 : (l[k].toList == t.toList) = true) : chO l t = some k := by
  unfold chO
  rw [List.findIdx?_eq_some_iff_getElem]
  exact ⟨hk, h1, fun j hj => by rw [h j (by omega) hj]; simp⟩
theorem ch_miss {l : List ByteArray} {t : ByteArray} (h : ∀ i (hi : i < l.length), (l[i].toList == t.toList) = false) : chO l t = none := by
  unfold chO
  rw [List.findIdx?_eq_none_iff]
  intro x hx
  obtain ⟨i, hi, rfl⟩ := List.getElem_of_mem hx
  exact h i hi
set_option maxRecDepth 100000 in
set_option maxHeartbeats 4000000 in
theorem specFit {S : Nat → Prop} (r : Rule) (cv : Value) (w : World) (hS : ∀ b, S b → b < w.heap.size) (hch : TxtsAt S w cv r.choices) (t : ByteArray) (ht : t.size ≤ 1048576) :
    Calls Tryz.prog 37 #[rVal r cv, .string t] w fun e w' => e = .returned (.tuple #[.int .i64 (fitP r t).1, .int .i64 (fitP r t).2]) ∧ Below w.heap.size w w' := by
  have hfp : fitP r t = fitO (boundB r) r.min' r.max' (formO r t) := rfl
  have hfo : formO r t = if r.kind = 1 then (if numB t then some (numV t) else none) else if r.kind = 2 then (if yesB t then some 1 else if noB t then some 0 else none) else if r.kind = 3 then some (t.size : Int) else if r.kind = 4 then Option.map (fun (i : Nat) => (i : Int)) (chO r.choices t) else (if spanB t then some (spanV t) else none) := rfl
  have hbb : boundB r = (!(r.kind == 2) && !(r.kind == 4)) := rfl
  have hts : (t.size : Int) ≤ 1048576 := by omega
  have cN := fun w => specNumber t ht w
  have cS := fun w => specSpan t ht w
  unfold rVal
  obtain ⟨PV, hPV⟩ : ∃ PV, fitP r t = PV := ⟨_, rfl⟩
  obtain ⟨FO, hFO⟩ : ∃ FO, formO r t = FO := ⟨_, rfl⟩
  obtain ⟨BB, hBB⟩ : ∃ BB, boundB r = BB := ⟨_, rfl⟩
  rw [hPV, hFO, hBB] at hfp
  rw [hFO] at hfo
  rw [hBB] at hbb
  rw [hPV]
  clear hPV hFO hBB
  obtain ⟨rp, rk, rmi, rma, rc, rm, rd⟩ := r
  dsimp only at hfp hfo hbb hch ⊢
  have HFP : Hid (PV = fitO BB rmi rma FO) := hfp
  have HFO : Hid (FO = if rk = 1 then (if numB t = true then some (numV t) else none) else if rk = 2 then (if yesB t = true then some 1 else if noB t = true then some 0 else none) else if rk = 3 then some (t.size : Int) else if rk = 4 then Option.map (fun (i : Nat) => (i : Int)) (chO rc t) else (if spanB t = true then some (spanV t) else none)) := hfo
  have HBB : Hid (BB = (!(rk == 2) && !(rk == 4))) := hbb
  have hw1 : Below w.heap.size w (w.alloc (.cells #[.string rp, .int .i64 rk, .int .i64 rmi, .int .i64 rma, cv, .bool rm, .string rd] 68)) := (Below.refl _ w).alloc (Nat.le_refl _) _
  have hbk : Blk (w.alloc (.cells #[.string rp, .int .i64 rk, .int .i64 rmi, .int .i64 rma, cv, .bool rm, .string rd] 68)) w.heap.size 68 #[.string rp, .int .i64 rk, .int .i64 rmi, .int .i64 rma, cv, .bool rm, .string rd] := heap_alloc_last w _
  have HCH : Hid (TxtsAt S w cv rc) := hch
  have HS : Hid (∀ b, S b → b < w.heap.size) := hS
  have HW1 : Hid (Below w.heap.size w (w.alloc (.cells #[.string rp, .int .i64 rk, .int .i64 rmi, .int .i64 rma, cv, .bool rm, .string rd] 68))) := hw1
  have HBK : Hid (Blk (w.alloc (.cells #[.string rp, .int .i64 rk, .int .i64 rmi, .int .i64 rma, cv, .bool rm, .string rd] 68)) w.heap.size 68 #[.string rp, .int .i64 rk, .int .i64 rmi, .int .i64 rma, cv, .bool rm, .string rd]) := hbk
  clear hfp hfo hbb hch hS hw1 hbk
  obtain ⟨a, cap, hcv⟩ := HCH.out.shape
  subst hcv
  by_cases k1 : rk = 1
  · subst k1
    have hf2 := HFO.out
    rw [if_pos rfl] at hf2
    have hb2 := HBB.out
    have hb3 : BB = true := by rw [hb2]; rfl
    have HB2 : Hid (BB = true) := hb3
    obtain ⟨NN, hNN⟩ : ∃ NN, numV t = NN := ⟨_, rfl⟩
    obtain ⟨OK, hOK⟩ : ∃ OK, numB t = OK := ⟨_, rfl⟩
    rw [hNN, hOK] at hf2 cN
    have HF2 : Hid (FO = if OK = true then some NN else none) := hf2
    have q0 := HBK.out.cell 1
    have q2 := HBK.out.cell 2
    have q3 := HBK.out.cell 3
    simp at q0 q2 q3
    clear hf2 hb2 hb3 hNN hOK cS
    cases OK
    case false =>
      have hp := HFP.out
      rw [HF2.out, if_neg (by simp), fitO_none] at hp
      subst hp
      go_enter Tryz.func37, Tryz.ntmps37
      go_wp2_with (go_at_call 70; go_must (refine (cN _).mono ?_; rintro e w2 ⟨rfl, rfl⟩))
      go_ret2
      exact ⟨rfl, HW1.out⟩
    have hp := HFP.out
    rw [HF2.out, if_pos rfl, HB2.out, fitO_some] at hp
    simp only [Bool.true_and] at hp
    have HP : Hid (PV = if (decide (NN < rmi) || decide (rma < NN)) = true then (0, 9) else (NN, 0)) := hp
    clear hp
    by_cases n1 : NN < rmi
    · have hp := HP.out
      rw [decide_eq_true n1, Bool.true_or, if_pos rfl] at hp
      subst hp
      go_enter Tryz.func37, Tryz.ntmps37
      go_wp2_with (go_at_call 70; go_must (refine (cN _).mono ?_; rintro e w2 ⟨rfl, rfl⟩))
      go_ret2
      exact ⟨rfl, HW1.out⟩
    by_cases n2 : rma < NN
    · have hp := HP.out
      rw [decide_eq_true n2, Bool.or_true, if_pos rfl] at hp
      subst hp
      go_enter Tryz.func37, Tryz.ntmps37
      go_wp2_with (go_at_call 70; go_must (refine (cN _).mono ?_; rintro e w2 ⟨rfl, rfl⟩))
      go_ret2
      exact ⟨rfl, HW1.out⟩
    have hp := HP.out
    rw [decide_eq_false n1, decide_eq_false n2, Bool.or_false, if_neg (by simp)] at hp
    subst hp
    go_enter Tryz.func37, Tryz.ntmps37
    go_wp2_with (go_at_call 70; go_must (refine (cN _).mono ?_; rintro e w2 ⟨rfl, rfl⟩))
    go_ret2
    exact ⟨rfl, HW1.out⟩
  have b1 : ((rk : Int) == 1) = false := by rw [beq_eq_false_iff_ne]; exact k1
  by_cases k2 : rk = 2
  · subst k2
    have hf2 := HFO.out
    rw [if_neg k1, if_pos rfl] at hf2
    have hb3 : BB = false := by rw [HBB.out]; rfl
    have q0 := HBK.out.cell 1
    simp at q0
    have hp := HFP.out
    rw [hf2, hb3] at hp
    have HP : Hid (PV = fitO false rmi rma (if yesB t = true then some (1 : Int) else if noB t = true then some 0 else none)) := hp
    clear hp hf2 hb3 cN cS
    unfold yesB noB at HP
    cases y1 : (t.toList == [121, 101, 115])
    case true =>
      have hp := HP.out
      rw [y1, if_pos rfl, fitO_free] at hp
      subst hp
      go_enter Tryz.func37, Tryz.ntmps37
      go_wp2_with fail
      go_ret2
      exact ⟨rfl, HW1.out⟩
    cases y2 : (t.toList == [110, 111])
    case true =>
      have hp := HP.out
      rw [y1, if_neg (by simp), y2, if_pos rfl, fitO_free] at hp
      subst hp
      go_enter Tryz.func37, Tryz.ntmps37
      go_wp2_with fail
      go_ret2
      exact ⟨rfl, HW1.out⟩
    have hp := HP.out
    rw [y1, if_neg (by simp), y2, if_neg (by simp), fitO_none] at hp
    subst hp
    go_enter Tryz.func37, Tryz.ntmps37
    go_wp2_with fail
    go_ret2
    exact ⟨rfl, HW1.out⟩
  have b2 : ((rk : Int) == 2) = false := by rw [beq_eq_false_iff_ne]; exact k2
  by_cases k3 : rk = 3
  · subst k3
    have hf2 := HFO.out
    rw [if_neg k1, if_neg k2, if_pos rfl] at hf2
    have hb3 : BB = true := by rw [HBB.out]; rfl
    have HB2 : Hid (BB = true) := hb3
    obtain ⟨NN, hNN⟩ : ∃ NN, (t.size : Int) = NN := ⟨_, rfl⟩
    obtain ⟨OK, hOK⟩ : ∃ OK, true = OK := ⟨_, rfl⟩
    have hf3 : FO = if OK = true then some NN else none := by rw [hf2, ← hOK, if_pos rfl, hNN]
    have HF2 : Hid (FO = if OK = true then some NN else none) := hf3
    have q0 := HBK.out.cell 1
    have q2 := HBK.out.cell 2
    have q3 := HBK.out.cell 3
    simp at q0 q2 q3
    clear hf2 hb3 hf3 cN cS
    subst hOK
    have hp := HFP.out
    rw [HF2.out, if_pos rfl, HB2.out, fitO_some] at hp
    simp only [Bool.true_and] at hp
    have HP : Hid (PV = if (decide (NN < rmi) || decide (rma < NN)) = true then (0, 9) else (NN, 0)) := hp
    clear hp
    by_cases n1 : NN < rmi
    · have hp := HP.out
      rw [decide_eq_true n1, Bool.true_or, if_pos rfl] at hp
      subst hp
      go_enter Tryz.func37, Tryz.ntmps37
      go_wp2_with fail
      go_ret2
      exact ⟨rfl, HW1.out⟩
    by_cases n2 : rma < NN
    · have hp := HP.out
      rw [decide_eq_true n2, Bool.or_true, if_pos rfl] at hp
      subst hp
      go_enter Tryz.func37, Tryz.ntmps37
      go_wp2_with fail
      go_ret2
      exact ⟨rfl, HW1.out⟩
    have hp := HP.out
    rw [decide_eq_false n1, decide_eq_false n2, Bool.or_false, if_neg (by simp)] at hp
    subst hp
    go_enter Tryz.func37, Tryz.ntmps37
    go_wp2_with fail
    go_ret2
    exact ⟨rfl, HW1.out⟩
  have b3 : ((rk : Int) == 3) = false := by rw [beq_eq_false_iff_ne]; exact k3
  by_cases k4 : rk = 4
  · subst k4
    have hf2 := HFO.out
    rw [if_neg k1, if_neg k2, if_neg k3, if_pos rfl] at hf2
    have hb3 : BB = false := by rw [HBB.out]; rfl
    have hp := HFP.out
    rw [hf2, hb3] at hp
    have HP : Hid (PV = fitO false rmi rma (Option.map (fun (i : Nat) => (i : Int)) (chO rc t))) := hp
    have hlm := HCH.out.1
    have hlm' : (rc.length : Int) ≤ 9223372036854775807 := by simp [maxLen] at hlm; omega
    have q0 := HBK.out.cell 1
    simp at q0
    go_enter Tryz.func37, Tryz.ntmps37
    go_wp2_with fail
    obtain ⟨wA, hwA⟩ : ∃ wA, w.alloc (.cells #[.string rp, .int .i64 4, .int .i64 rmi, .int .i64 rma, .slice a rc.length cap, .bool rm, .string rd] 68) = wA := ⟨_, rfl⟩
    have HW2 : Hid (Below w.heap.size w wA) := hwA ▸ HW1.out
    have HK2 : Hid (Blk wA w.heap.size 68 #[.string rp, .int .i64 4, .int .i64 rmi, .int .i64 rma, .slice a rc.length cap, .bool rm, .string rd]) := hwA ▸ HBK.out
    rw [hwA]
    have hc1 : 0 < rc.length → ∃ b off, a = some ⟨b, off, none⟩ ∧ b < wA.heap.size ∧ ∀ j (hj : j < rc.length), wA.cell? ⟨b, off + j, none⟩ = some (.string rc[j]) := fun h0 => by
      obtain ⟨_, ta, tc, htv, hcell⟩ := HCH.out
      simp only [Value.slice.injEq] at htv
      obtain ⟨rfl, -, rfl⟩ := htv
      obtain ⟨b, off, rfl, hbS, hcell⟩ := hcell h0
      exact ⟨b, off, rfl, Nat.lt_of_lt_of_le (HS.out b hbS) HW2.out.size, fun j hj => (HW2.out.cell (p := ⟨b, off + j, none⟩) (HS.out b hbS)).trans (hcell j hj)⟩
    have HC1 : Hid (0 < rc.length → ∃ b off, a = some ⟨b, off, none⟩ ∧ b < wA.heap.size ∧ ∀ j (hj : j < rc.length), wA.cell? ⟨b, off + j, none⟩ = some (.string rc[j])) := hc1
    obtain ⟨gB, hgB⟩ : ∃ gB, w.heap.size = gB := ⟨_, rfl⟩
    rw [hgB] at HK2 ⊢
    have q4 := HK2.out.cell 4
    simp at q4
    clear hp hf2 hb3 cN cS hlm hc1 hwA HW1 HBK q0 HBB HFO hgB
    go_loopw [8] (fun i8 wr => ∃ k : Nat, i8 = .int .i64 (k : Int) ∧ k ≤ rc.length ∧ (∀ i (h : i < rc.length), i < k → (rc[i].toList == t.toList) = false) ∧ wr = wA) (fun i8 _ => rc.length - (intOf i8).toNat)
    case atStart => exact ⟨0, rfl, by omega, fun i _ h => by omega, rfl⟩
    case round =>
      obtain ⟨k, rfl, hk, hno, rfl⟩ := hrel
      have HNO : Hid (∀ i (h : i < rc.length), i < k → (rc[i].toList == t.toList) = false) := hno
      clear hno
      by_cases hkn : k < rc.length
      · have hkn' : (k : Int) < (rc.length : Int) := by omega
        obtain ⟨b, off, rfl, hbw, hcell⟩ := HC1.out (by omega)
        have d0 := hcell k hkn
        have hht := fun h1 => ch_hit (t := t) hkn HNO.out h1
        have hst : (rc[k].toList == t.toList) = false → ∀ i (h : i < rc.length), i < k + 1 → (rc[i].toList == t.toList) = false := fun h0 i hi hik => by
          by_cases e : i = k
          · subst e; exact h0
          · exact HNO.out i hi (by omega)
        obtain ⟨x, hx⟩ : ∃ x, rc[k] = x := ⟨_, rfl⟩
        rw [hx] at d0 hht hst
        have HHT : Hid ((x.toList == t.toList) = true → chO rc t = some k) := hht
        have HST : Hid ((x.toList == t.toList) = false → ∀ i (h : i < rc.length), i < k + 1 → (rc[i].toList == t.toList) = false) := hst
        clear hht hst hx hcell
        cases hq : (x.toList == t.toList)
        · go_wp2_with fail
          exact ⟨⟨k + 1, by go_num, by omega, HST.out hq, by trivial⟩, by simp [intOf]; omega⟩
        · have hp := HP.out
          rw [HHT.out hq, Option.map_some, fitO_free] at hp
          subst hp
          go_wp2_with fail
          go_ret2
          exact ⟨rfl, HW2.out⟩
      · obtain rfl : k = rc.length := by omega
        have hkn' : ¬ ((rc.length : Int) < (rc.length : Int)) := by omega
        have hp := HP.out
        rw [ch_miss (fun i hi => HNO.out i hi hi), Option.map_none, fitO_none] at hp
        subst hp
        go_wp2_with fail
        go_ret2
        exact ⟨rfl, HW2.out⟩
  have b4 : ((rk : Int) == 4) = false := by rw [beq_eq_false_iff_ne]; exact k4
  have hf2 := HFO.out
  rw [if_neg k1, if_neg k2, if_neg k3, if_neg k4] at hf2
  have hb3 : BB = true := by rw [HBB.out, b2, b4]; rfl
  have HB2 : Hid (BB = true) := hb3
  obtain ⟨NN, hNN⟩ : ∃ NN, spanV t = NN := ⟨_, rfl⟩
  obtain ⟨OK, hOK⟩ : ∃ OK, spanB t = OK := ⟨_, rfl⟩
  rw [hNN, hOK] at hf2 cS
  have HF2 : Hid (FO = if OK = true then some NN else none) := hf2
  have q0 := HBK.out.cell 1
  simp at q0
  have hkp : ∀ w2, Below (w.alloc (.cells #[.string rp, .int .i64 rk, .int .i64 rmi, .int .i64 rma, .slice a rc.length cap, .bool rm, .string rd] 68)).heap.size (w.alloc (.cells #[.string rp, .int .i64 rk, .int .i64 rmi, .int .i64 rma, .slice a rc.length cap, .bool rm, .string rd] 68)) w2 → w2.cell? ⟨w.heap.size, 2, none⟩ = some (.int .i64 rmi) ∧ w2.cell? ⟨w.heap.size, 3, none⟩ = some (.int .i64 rma) := fun w2 hb2 => by
    have h := Blk.below HBK.out hb2
    exact ⟨h.cell 2, h.cell 3⟩
  have HKP : Hid (∀ w2, Below (w.alloc (.cells #[.string rp, .int .i64 rk, .int .i64 rmi, .int .i64 rma, .slice a rc.length cap, .bool rm, .string rd] 68)).heap.size (w.alloc (.cells #[.string rp, .int .i64 rk, .int .i64 rmi, .int .i64 rma, .slice a rc.length cap, .bool rm, .string rd] 68)) w2 → w2.cell? ⟨w.heap.size, 2, none⟩ = some (.int .i64 rmi) ∧ w2.cell? ⟨w.heap.size, 3, none⟩ = some (.int .i64 rma)) := hkp
  clear hf2 hb3 hNN hOK cN hkp
  cases OK
  case false =>
    have hp := HFP.out
    rw [HF2.out, if_neg (by simp), fitO_none] at hp
    subst hp
    go_enter Tryz.func37, Tryz.ntmps37
    go_wp2_with (go_at_call 71; go_must (refine (cS _).mono ?_; rintro e w2 ⟨rfl, hb2⟩; have q2 := (HKP.out _ hb2).1; have q3 := (HKP.out _ hb2).2))
    go_ret2
    exact ⟨rfl, good_below HW1.out hb2⟩
  have hp := HFP.out
  rw [HF2.out, if_pos rfl, HB2.out, fitO_some] at hp
  simp only [Bool.true_and] at hp
  have HP : Hid (PV = if (decide (NN < rmi) || decide (rma < NN)) = true then (0, 9) else (NN, 0)) := hp
  clear hp
  by_cases n1 : NN < rmi
  · have hp := HP.out
    rw [decide_eq_true n1, Bool.true_or, if_pos rfl] at hp
    subst hp
    go_enter Tryz.func37, Tryz.ntmps37
    go_wp2_with (go_at_call 71; go_must (refine (cS _).mono ?_; rintro e w2 ⟨rfl, hb2⟩; have q2 := (HKP.out _ hb2).1; have q3 := (HKP.out _ hb2).2))
    go_ret2
    exact ⟨rfl, good_below HW1.out hb2⟩
  by_cases n2 : rma < NN
  · have hp := HP.out
    rw [decide_eq_true n2, Bool.or_true, if_pos rfl] at hp
    subst hp
    go_enter Tryz.func37, Tryz.ntmps37
    go_wp2_with (go_at_call 71; go_must (refine (cS _).mono ?_; rintro e w2 ⟨rfl, hb2⟩; have q2 := (HKP.out _ hb2).1; have q3 := (HKP.out _ hb2).2))
    go_ret2
    exact ⟨rfl, good_below HW1.out hb2⟩
  have hp := HP.out
  rw [decide_eq_false n1, decide_eq_false n2, Bool.or_false, if_neg (by simp)] at hp
  subst hp
  go_enter Tryz.func37, Tryz.ntmps37
  go_wp2_with (go_at_call 71; go_must (refine (cS _).mono ?_; rintro e w2 ⟨rfl, hb2⟩; have q2 := (HKP.out _ hb2).1; have q3 := (HKP.out _ hb2).2))
  go_ret2
  exact ⟨rfl, good_below HW1.out hb2⟩
end Go.Proofs.YtdlopjimheaekaaGreatDoor

namespace Go.Proofs.YtdlopjimheaekaaGreatDoor
open Go.ChangeShapes Go.WideShapes Go.ChangeAt Go.RowKit
set_option linter.unusedVariables false

/-! A name has no point. -/
theorem decN_in {n b0 b1 b2 b3 : Nat} (hn : 1 ≤ n) (h0 : b0 < 256) (h1 : b1 < 256) (h2 : b2 < 256) (h3 : b3 < 256) :
    (b0 = 46 → (Lib.decodeN n b0 b1 b2 b3).1 = 46) ∧ (1 < (Lib.decodeN n b0 b1 b2 b3).2 → 128 ≤ b1) ∧ (2 < (Lib.decodeN n b0 b1 b2 b3).2 → 128 ≤ b2) ∧ (3 < (Lib.decodeN n b0 b1 b2 b3).2 → 128 ≤ b3) ∧ (Lib.decodeN n b0 b1 b2 b3).2 ≤ 4 := by
  unfold Lib.decodeN
  repeat' split
  all_goals (simp only; omega)
theorem dec_in (s : ByteArray) (i : Nat) (h : i < s.size) : (byt s i = 46 → (Utf8.decode s i).1 = 46) ∧ ∀ j, 0 < j → j < (Utf8.decode s i).2 → 128 ≤ byt s (i + j) := by
  have := decN_in (n := s.size - i) (b0 := byt s i) (b1 := byt s (i + 1)) (b2 := byt s (i + 2)) (b3 := byt s (i + 3)) (by omega) (byt_lt _ _) (byt_lt _ _) (byt_lt _ _) (byt_lt _ _)
  rw [← decode_byt] at this
  obtain ⟨h1, h2, h3, h4, h5⟩ := this
  refine ⟨h1, fun j hj hjk => ?_⟩
  rcases (show j = 1 ∨ j = 2 ∨ j = 3 by omega) with rfl | rfl | rfl
  · exact h2 hjk
  · exact h3 hjk
  · exact h4 hjk
theorem end_no_dot (s : ByteArray) (pos : Nat) (h : endOf isNam s pos = s.size) (i : Nat) (hp : pos ≤ i) (hi : i < s.size) : byt s i ≠ 46 := by
  by_cases hf : isNam ((Utf8.decode s pos).1 : Int) = true
  · rw [endOf_on (by omega) hf] at h
    obtain ⟨d1, d2⟩ := dec_in s pos (by omega)
    have hk := (decode_le s pos).2.1
    by_cases h1 : i = pos
    · subst h1
      intro e
      rw [d1 e] at hf
      revert hf
      decide
    · by_cases h2 : i < pos + (Utf8.decode s pos).2
      · have := d2 (i - pos) (by omega) (by omega)
        rw [show pos + (i - pos) = i by omega] at this
        omega
      · exact end_no_dot s (pos + (Utf8.decode s pos).2) h i (by omega) hi
  · rw [endOf_stop (by omega) (by simpa using hf)] at h
    omega
termination_by s.size - pos
theorem name_no_dot {s : ByteArray} (h : nameOK s = true) (i : Nat) (hi : i < s.size) : byt s i ≠ 46 := by
  have hw : wordEnd s 0 = s.size := by
    unfold nameOK at h
    simp only [Bool.and_eq_true, decide_eq_true_eq] at h
    exact h.1.2
  unfold wordEnd at hw
  split at hw
  · rename_i hc
    obtain ⟨d1, d2⟩ := dec_in s 0 hc.1
    by_cases h0 : i = 0
    · subst h0
      intro e
      have hf := hc.2
      rw [d1 e] at hf
      revert hf
      decide
    · by_cases h2 : i < 0 + (Utf8.decode s 0).2
      · have := d2 i (by omega) (by omega)
        rw [Nat.zero_add] at this
        omega
      · exact end_no_dot s _ hw i (by omega) hi
  · omega
theorem name_small {s : ByteArray} (h : nameOK s = true) : s.size ≤ 40 := by
  unfold nameOK at h
  simp only [Bool.and_eq_true, decide_eq_true_eq] at h
  exact h.1.1.2
theorem byt_list (s : ByteArray) (i : Nat) (h : i < s.size) : s.data.toList[i]? = some s[i] := by
  rw [List.getElem?_eq_getElem (by simpa using h)]
  rfl
theorem name_no_dot' {s : ByteArray} (h : nameOK s = true) : (46 : UInt8) ∉ s.data.toList := by
  intro hm
  obtain ⟨i, hi, he⟩ := List.getElem_of_mem hm
  have hi' : i < s.size := by simpa using hi
  refine name_no_dot h i hi' ?_
  rw [← byt_eq s i hi']
  have h2 := byt_list s i hi'
  rw [List.getElem?_eq_getElem hi, he] at h2
  simp only [Option.some.injEq] at h2
  rw [← h2]; rfl

/-! Parts. -/
def cutR : List UInt8 → List (List UInt8)
  | [] => [[]]
  | c :: l => if c = 46 then [] :: cutR l else match cutR l with
    | [] => [[c]]
    | h :: t => (c :: h) :: t
theorem cutR_none {a : List UInt8} (h : (46 : UInt8) ∉ a) : cutR a = [a] := by
  induction a with
  | nil => rfl
  | cons c l ih =>
    simp only [List.mem_cons, not_or] at h
    unfold cutR
    rw [if_neg (fun e => h.1 e.symm), ih h.2]
theorem cutR_dot {a : List UInt8} (h : (46 : UInt8) ∉ a) (b : List UInt8) : cutR (a ++ 46 :: b) = a :: cutR b := by
  induction a with
  | nil => simp [cutR]
  | cons c l ih =>
    simp only [List.mem_cons, not_or] at h
    rw [List.cons_append]
    conv => lhs; unfold cutR
    rw [if_neg (fun e => h.1 e.symm), ih h.2]
theorem cutR_sum : ∀ l : List UInt8, ((cutR l).map (fun x => x.length + 1)).sum = l.length + 1
  | [] => rfl
  | c :: l => by
    have ih := cutR_sum l
    unfold cutR
    by_cases h : c = 46
    · rw [if_pos h]; simp [ih]; omega
    · rw [if_neg h]
      cases hc : cutR l with
      | nil => rw [hc] at ih; simp at ih
      | cons a t => rw [hc] at ih; simp at ih ⊢; omega
theorem cutR_pos (l : List UInt8) : 0 < (cutR l).length := by
  cases hc : cutR l with
  | nil => have := cutR_sum l; rw [hc] at this; simp at this
  | cons a t => simp
theorem at_dot {l : List UInt8} {i : Nat} (h1 : l[i]? = some 46) (h2 : ∀ k, k < i → l[k]? ≠ some 46) : l = l.take i ++ 46 :: l.drop (i + 1) ∧ (46 : UInt8) ∉ l.take i := by
  obtain ⟨hi, he⟩ := List.getElem?_eq_some_iff.1 h1
  refine ⟨?_, fun hm => ?_⟩
  · conv => lhs; rw [← List.take_append_drop i l]
    rw [List.drop_eq_getElem_cons hi, he]
  · obtain ⟨k, hk, e⟩ := List.mem_take_iff_getElem.1 hm
    exact h2 k (by omega) (by rw [List.getElem?_eq_getElem (by omega), e])
theorem no_dot_of {l : List UInt8} (h : ∀ k : Nat, l[k]? ≠ some 46) : (46 : UInt8) ∉ l := fun hm => by
  obtain ⟨k, hk, e⟩ := List.getElem_of_mem hm
  exact h k (by rw [List.getElem?_eq_getElem hk, e])
theorem split_all {P : List UInt8 → Bool} (hP : ∀ x, P x = true → (46 : UInt8) ∉ x) : ∀ (k : Nat) (l : List UInt8), (Lib.splitK [46] 0 k l).all P = (decide ((cutR l).length ≤ k + 1) && (cutR l).all P)
  | 0, l => by
    unfold Lib.splitK
    by_cases h : (46 : UInt8) ∈ l
    · have hP0 : P l = false := by
        cases hp : P l
        · rfl
        · exact absurd h (hP l hp)
      obtain ⟨k, hk, e⟩ := List.getElem_of_mem h
      have h2 : ¬ (cutR l).length ≤ 1 := by
        rcases (show Lib.indexByte l 46 = -1 ∨ ∃ o : Nat, Lib.indexByte l 46 = o from by
          have := Lib.indexByte_ge l 46
          by_cases e : Lib.indexByte l 46 = -1
          · exact .inl e
          · exact .inr ⟨(Lib.indexByte l 46).toNat, by omega⟩) with q | ⟨o, q⟩
        · exact absurd (by rw [List.getElem?_eq_getElem hk, e]) (Lib.indexByte_none q k)
        · obtain ⟨q1, q2⟩ := Lib.indexByte_some q
          obtain ⟨s1, s2⟩ := at_dot q1 q2
          have := cutR_dot s2 (l.drop (o + 1))
          rw [← s1] at this
          rw [this]
          have := cutR_pos (l.drop (o + 1))
          simp only [List.length_cons]; omega
      rw [decide_eq_false h2]
      simp [hP0]
    · rw [cutR_none h]; simp
  | k + 1, l => by
    unfold Lib.splitK
    rw [Lib.index_one]
    by_cases h : (46 : UInt8) ∈ l
    · obtain ⟨j, hj, e⟩ := List.getElem_of_mem h
      rcases (show Lib.indexByte l 46 = -1 ∨ ∃ o : Nat, Lib.indexByte l 46 = o from by
        have := Lib.indexByte_ge l 46
        by_cases e : Lib.indexByte l 46 = -1
        · exact .inl e
        · exact .inr ⟨(Lib.indexByte l 46).toNat, by omega⟩) with q | ⟨o, q⟩
      · exact absurd (by rw [List.getElem?_eq_getElem hj, e]) (Lib.indexByte_none q j)
      · obtain ⟨q1, q2⟩ := Lib.indexByte_some q
        obtain ⟨s1, s2⟩ := at_dot q1 q2
        have hc := cutR_dot s2 (l.drop (o + 1))
        rw [← s1] at hc
        rw [hc, q, if_neg (by simp)]
        have ih := split_all hP k (l.drop (o + 1))
        simp only [List.all_cons, List.length_cons, Nat.add_zero, List.length_nil, Nat.zero_add, show ((o : Int)).toNat = o from rfl]
        rw [ih]
        have hd : decide ((cutR (l.drop (o + 1))).length + 1 ≤ k + 1 + 1) = decide ((cutR (l.drop (o + 1))).length ≤ k + 1) := by
          rw [Bool.eq_iff_iff]; simp
        rw [hd]
        cases P (l.take o) <;> cases decide ((cutR (l.drop (o + 1))).length ≤ k + 1) <;> simp
    · have q : Lib.indexByte l 46 = -1 := by
        by_cases e : Lib.indexByte l 46 = -1
        · exact e
        · have := Lib.indexByte_ge l 46
          obtain ⟨q1, _⟩ := Lib.indexByte_some (l := l) (c := 46) (o := (Lib.indexByte l 46).toNat) (by omega)
          exact absurd (List.mem_of_getElem? q1) h
      rw [q, if_pos (by decide), cutR_none h]
      simp
theorem ofNat46 {x : Nat} (h : x < 256) (e : UInt8.ofNat x = 46) : x = 46 := by
  have := congrArg UInt8.toNat e
  rw [UInt8.toNat_ofNat', Nat.mod_eq_of_lt h] at this
  exact this
/-- What is cut, going on from byte to byte, is what is cut at the first point, and so on. -/
theorem byteAt_list (t : ByteArray) (k : Nat) (h : k < t.size) : t.data.toList[k]? = some (UInt8.ofNat (byteAt t k)) := by
  rw [byt_list t k h]
  unfold byteAt
  rw [dif_pos h]
  simp
theorem cutUp_is (t : ByteArray) : ∀ k, k ≤ t.size → (∀ i, (cutUp t 46 k).2 ≤ i → i < k → byteAt t i ≠ 46) ∧ ((cutUp t 46 k).1.map (·.data.toList)) ++ cutR (t.data.toList.drop (cutUp t 46 k).2) = cutR t.data.toList
  | 0, _ => by
    unfold cutUp
    exact ⟨fun i _ h => by omega, by simp⟩
  | k + 1, hk => by
    obtain ⟨h1, h2⟩ := cutUp_is t k (by omega)
    have hle := (cutUp_le t 46 k).1
    obtain ⟨ls, f, hc⟩ : ∃ ls f, cutUp t 46 k = (ls, f) := ⟨_, _, rfl⟩
    rw [hc] at h1 h2 hle
    dsimp only at h1 h2 hle
    by_cases hb : byteAt t k = 46
    · have e : cutUp t 46 (k + 1) = (ls ++ [t.extract f k], k + 1) := by
        conv => lhs; unfold cutUp
        rw [if_pos hb, hc]
      rw [e]
      dsimp only
      refine ⟨fun i _ _ => by omega, ?_⟩
      rw [← h2]
      have hkl : k < t.size := by omega
      have hd : t.data.toList.drop f = (t.data.toList.drop f).take (k - f) ++ 46 :: (t.data.toList.drop f).drop (k - f + 1) ∧ (46 : UInt8) ∉ (t.data.toList.drop f).take (k - f) := by
        refine at_dot ?_ (fun j hj hh => ?_)
        · rw [List.getElem?_drop, show f + (k - f) = k by omega, byteAt_list t k hkl, hb]; rfl
        · rw [List.getElem?_drop, byteAt_list t (f + j) (by omega)] at hh
          have hlt : byteAt t (f + j) < 256 := by
            unfold byteAt; split
            · exact UInt8.toNat_lt _
            · omega
          have hne := h1 (f + j) (by omega) (by omega)
          simp only [Option.some.injEq] at hh
          exact hne (ofNat46 hlt hh)
      rw [hd.1, cutR_dot hd.2]
      have ex : (t.extract f k).data.toList = (t.data.toList.drop f).take (k - f) := by
        rw [Lib.extract_data]
      rw [List.map_append, List.append_assoc]
      simp only [List.map_cons, List.map_nil, List.singleton_append, ex, List.drop_drop]
      rw [show f + (k - f + 1) = k + 1 by omega]
    · have e : cutUp t 46 (k + 1) = (ls, f) := by
        conv => lhs; unfold cutUp
        rw [if_neg hb, hc]
      rw [e]
      refine ⟨fun i hi hik => ?_, h2⟩
      by_cases ei : i = k
      · subst ei; exact hb
      · exact h1 i hi (by omega)
theorem cutF_is (t : ByteArray) : (cutF t 46).map (·.data.toList) = cutR t.data.toList := by
  obtain ⟨h1, h2⟩ := cutUp_is t t.size (Nat.le_refl _)
  have hle := (cutUp_le t 46 t.size).1
  unfold cutF
  rw [List.map_append, ← h2]
  congr 1
  have hn : (46 : UInt8) ∉ t.data.toList.drop (cutUp t 46 t.size).2 := by
    refine no_dot_of (fun j hh => ?_)
    rw [List.getElem?_drop] at hh
    have hl : (cutUp t 46 t.size).2 + j < t.size := by
      have := (List.getElem?_eq_some_iff.1 hh).1
      simpa using this
    rw [byteAt_list t _ hl] at hh
    have hlt : byteAt t ((cutUp t 46 t.size).2 + j) < 256 := by
      unfold byteAt; split
      · exact UInt8.toNat_lt _
      · omega
    simp only [Option.some.injEq] at hh
    exact h1 _ (by omega) hl (ofNat46 hlt hh)
  rw [cutR_none hn]
  simp only [List.map_cons, List.map_nil]
  rw [Lib.extract_data]
  congr 1
  exact List.take_of_length_le (by simp)
def nameL (l : List UInt8) : Bool := nameOK ⟨l.toArray⟩
theorem nameL_data (b : ByteArray) : nameL b.data.toList = nameOK b := by
  rfl
theorem all_names (l : List ByteArray) : l.all nameOK = (l.map (·.data.toList)).all nameL := by
  rw [List.all_map]
  rfl
theorem names_sum {l : List (List UInt8)} (h : l.all nameL = true) : (l.map (fun x => x.length + 1)).sum ≤ l.length * 41 := by
  induction l with
  | nil => simp
  | cons a t ih =>
    simp only [List.all_cons, Bool.and_eq_true] at h
    have h1 := ih h.2
    have h2 := name_small (s := ⟨a.toArray⟩) h.1
    have h3 : a.length ≤ 40 := by simpa [ByteArray.size] using h2
    simp only [List.map_cons, List.sum_cons, List.length_cons]
    omega
/-- What SplitN at points into five gives is names alone just if the text is a path. -/
theorem path_split (t : ByteArray) : (Lib.splitB ⟨#[46]⟩ 0 (min 5 (t.size + 1) - 1) t).all nameOK = pathB nameOK t := by
  rw [all_names, Lib.splitB_data, split_all (fun x hx => by
    have := name_no_dot' (s := ⟨x.toArray⟩) hx
    simpa using this)]
  unfold pathB
  rw [all_names, cutF_is]
  have hl : (cutF t 46).length = (cutR t.data.toList).length := by rw [← cutF_is, List.length_map]
  rw [hl]
  have hs := cutR_sum t.data.toList
  have hz : t.data.toList.length = t.size := by simp
  cases ha : (cutR t.data.toList).all nameL
  · simp
  · have h1 := names_sum ha
    have h2 : (cutR t.data.toList).length ≤ t.size + 1 := by
      have : ∀ l : List (List UInt8), l.length ≤ (l.map (fun x => x.length + 1)).sum := fun l => by
        induction l with
        | nil => simp
        | cons a t ih => simp; omega
      have := this (cutR t.data.toList)
      omega
    simp only [Bool.and_true]
    rw [Bool.eq_iff_iff]
    simp only [decide_eq_true_eq, Bool.and_eq_true]
    omega
end Go.Proofs.YtdlopjimheaekaaGreatDoor
