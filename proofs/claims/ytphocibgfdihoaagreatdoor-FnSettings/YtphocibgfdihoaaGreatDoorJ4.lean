/-
  The contracts of the small tests on runes: spec.IsLetter, impl.IsLetter, spec.l01Digit, impl.isDigit, impl.isNameRune, impl.isBlank and impl.isWrong. Where a run of runes ends, as plain data; the contracts of impl.runEnd and spec.l01Word. The contracts of spec.NameOK and impl.NameOK: both answer 'nameOK'. impl.NameOK under the two tables of unicode/utf8 as they are laid. Paths: parts at points, two ways told; a name has no point. Plain facts. What impl's areNames, isPath, arePaths, areSingle, isLongWord answer. spec.l08Over: its walk. Settings laid over one another, as plain data. What impl's isWithin, meets, areEntries, areLayers answer. No statement of the seat is proved here.
-/
import Derived.Test.YtphocibgfdihoaaGreatDoorJ3
import Derived.Test.YtphocibgfdihoaaGreatDoorRows
import Derived.WalkKit
import Derived.ProofKit
import Derived.OpenShut
import Derived.WalkSpells
import Derived.Lib.Split
import Derived.Shelf.Strings.SplitCore
import Derived.Deep.CutBlock
import Derived.Deep.CutRange
namespace Go.Proofs.YtphocibgfdihoaaGreatDoor
open Go.ChangeShapes Go.WideShapes Go.ChangeAt Go.RowKit
set_option linter.unusedVariables false

def isLet (r : Int) : Bool := (decide (97 ≤ r) && decide (r ≤ 122)) || (decide (65 ≤ r) && decide (r ≤ 90)) || (r == 95) || (decide (192 ≤ r) && decide (r ≤ 591) && r != 215 && r != 247) || (decide (913 ≤ r) && decide (r ≤ 937) && r != 930) || (decide (945 ≤ r) && decide (r ≤ 969)) || (decide (1040 ≤ r) && decide (r ≤ 1103))

set_option maxHeartbeats 400000 in
theorem specLetter (r : Int) (w : World) :
    Calls Tryz.prog 94 #[.int .i64 r] w fun e w' => e = .returned (.bool (isLet r)) ∧ w = w' := by
  go_enter Tryz.func94, Tryz.ntmps94
  go_wp2
  all_goals
    go_ret
    refine ⟨congrArg (fun b => Ending.returned (Value.bool b)) ?_, rfl⟩
    rw [Bool.eq_iff_iff]
    simp only [isLet, Bool.or_eq_true, Bool.and_eq_true, decide_eq_true_eq, beq_iff_eq, bne_iff_ne, beq_eq_false_iff_ne, Bool.false_eq_true, true_iff, false_iff, ne_eq] at *
    first | omega | decide

set_option maxHeartbeats 400000 in
theorem implLetter (r : Int) (w : World) :
    Calls Tryz.prog 103 #[.int .i64 r] w fun e w' => e = .returned (.bool (isLet r)) ∧ w = w' := by
  go_enter Tryz.func103, Tryz.ntmps103
  go_wp2
  all_goals
    go_ret
    refine ⟨congrArg (fun b => Ending.returned (Value.bool b)) ?_, rfl⟩
    rw [Bool.eq_iff_iff]
    simp only [isLet, Bool.or_eq_true, Bool.and_eq_true, decide_eq_true_eq, beq_iff_eq, bne_iff_ne, beq_eq_false_iff_ne, Bool.false_eq_true, true_iff, false_iff, ne_eq] at *
    first | omega | decide


def isDig (r : Int) : Bool := decide (48 ≤ r) && decide (r ≤ 57)
def isNam (r : Int) : Bool := isLet r || isDig r

theorem specDigit (r : Int) (w : World) :
    Calls Tryz.prog 95 #[.int .i64 r] w fun e w' => e = .returned (.bool (isDig r)) ∧ w = w' := by
  go_enter Tryz.func95, Tryz.ntmps95
  go_wp2
  all_goals
    go_ret
    refine ⟨congrArg (fun b => Ending.returned (Value.bool b)) ?_, rfl⟩
    rw [Bool.eq_iff_iff]
    simp only [isDig, Bool.and_eq_true, decide_eq_true_eq, Bool.false_eq_true, false_iff] at *
    omega
theorem implDigit (r : Int) (w : World) :
    Calls Tryz.prog 133 #[.int .i64 r] w fun e w' => e = .returned (.bool (isDig r)) ∧ w = w' := by
  go_enter Tryz.func133, Tryz.ntmps133
  go_wp2
  all_goals
    go_ret
    refine ⟨congrArg (fun b => Ending.returned (Value.bool b)) ?_, rfl⟩
    rw [Bool.eq_iff_iff]
    simp only [isDig, Bool.and_eq_true, decide_eq_true_eq, Bool.false_eq_true, false_iff] at *
    omega
theorem implNam (r : Int) (w : World) :
    Calls Tryz.prog 105 #[.int .i64 r] w fun e w' => e = .returned (.bool (isNam r)) ∧ w = w' := by
  unfold isNam
  have c1 := implLetter r
  have c2 := implDigit r
  obtain ⟨L, hL⟩ : ∃ L, isLet r = L := ⟨_, rfl⟩
  obtain ⟨D, hD⟩ : ∃ D, isDig r = D := ⟨_, rfl⟩
  rw [hL] at c1 ⊢
  rw [hD] at c2 ⊢
  cases L
  · go_enter Tryz.func105, Tryz.ntmps105
    go_wp2_with (first | (go_at_call 103; go_must (refine (c1 _).mono ?_; rintro e w' ⟨rfl, rfl⟩)) | (go_at_call 133; go_must (refine (c2 _).mono ?_; rintro e w' ⟨rfl, rfl⟩)))
    go_ret
    exact ⟨rfl, rfl⟩
  · go_enter Tryz.func105, Tryz.ntmps105
    go_wp2_with (first | (go_at_call 103; go_must (refine (c1 _).mono ?_; rintro e w' ⟨rfl, rfl⟩)) | (go_at_call 133; go_must (refine (c2 _).mono ?_; rintro e w' ⟨rfl, rfl⟩)))
    go_ret
    exact ⟨rfl, rfl⟩
end Go.Proofs.YtphocibgfdihoaaGreatDoor

namespace Go.Proofs.YtphocibgfdihoaaGreatDoor
open Go.ChangeShapes Go.WideShapes Go.ChangeAt Go.RowKit
set_option linter.unusedVariables false

theorem decodeN_fits (n b0 b1 b2 b3 : Nat) (hn : 1 ≤ n) : (Lib.decodeN n b0 b1 b2 b3).2 ≤ n := by
  unfold Lib.decodeN
  repeat' split
  all_goals simp only
  all_goals omega
theorem decode_fits (s : ByteArray) (i : Nat) (h : i < s.size) : i + (Utf8.decode s i).2 ≤ s.size := by
  have := decodeN_fits (s.size - i) (byt s i) (byt s (i + 1)) (byt s (i + 2)) (byt s (i + 3)) (by omega)
  rw [decode_byt]
  omega

/-- Where the run of runes that f takes ends, from a place on. -/
def endOf (f : Int → Bool) (s : ByteArray) (pos : Nat) : Nat :=
  if h : pos < s.size then
    if f ((Utf8.decode s pos).1 : Int) then endOf f s (pos + (Utf8.decode s pos).2) else pos
  else s.size
termination_by s.size - pos
decreasing_by
  have := (decode_le s pos).2.1
  omega
theorem endOf_on {f : Int → Bool} {s : ByteArray} {pos : Nat} (h : pos < s.size) (hf : f ((Utf8.decode s pos).1 : Int) = true) : endOf f s pos = endOf f s (pos + (Utf8.decode s pos).2) := by
  rw [endOf, dif_pos h, if_pos hf]
theorem endOf_stop {f : Int → Bool} {s : ByteArray} {pos : Nat} (h : pos < s.size) (hf : f ((Utf8.decode s pos).1 : Int) = false) : endOf f s pos = pos := by
  rw [endOf, dif_pos h, if_neg (by simp [hf])]
theorem endOf_out {f : Int → Bool} {s : ByteArray} {pos : Nat} (h : ¬ pos < s.size) : endOf f s pos = s.size := by
  rw [endOf, dif_neg h]
theorem endOf_ge (f : Int → Bool) (s : ByteArray) (pos : Nat) (h : pos ≤ s.size) : pos ≤ endOf f s pos ∧ endOf f s pos ≤ s.size := by
  by_cases hp : pos < s.size
  · by_cases hf : f ((Utf8.decode s pos).1 : Int) = true
    · rw [endOf_on hp hf]
      have h1 := (decode_le s pos).2.1
      have h2 := decode_fits s pos hp
      have := endOf_ge f s (pos + (Utf8.decode s pos).2) h2
      omega
    · rw [endOf_stop hp (by simpa using hf)]; omega
  · rw [endOf_out hp]; omega
termination_by s.size - pos
decreasing_by
  have := (decode_le s pos).2.1
  omega

set_option maxRecDepth 1000000 in
set_option maxHeartbeats 400000 in
theorem runEndNam (s : ByteArray) (a : Nat) (hs : s.size ≤ 65536) (ha : a ≤ s.size) (w : World) :
    Calls Tryz.prog 104 #[.string s, .int .i64 a, .func (.func 105) #[] #[]] w fun e w' => e = .returned (.int .i64 (endOf isNam s a)) ∧ Below w.heap.size w w' := by
  obtain ⟨E, hE⟩ : ∃ E, endOf isNam s a = E := ⟨_, rfl⟩
  rw [hE]
  have hTs : (s.extract a s.size).size = s.size - a := by simp
  have hdec : ∀ pos, Utf8.decode (s.extract a s.size) pos = Utf8.decode s (a + pos) := fun pos => Lib.tail_decode s a pos
  go_enter Tryz.func104, Tryz.ntmps104
  go_wp2
  generalize s.extract a s.size = T at hTs hdec ⊢
  have HD : Hid (∀ pos, Utf8.decode T pos = Utf8.decode s (a + pos)) := hdec
  have HE : Hid (endOf isNam s a = E) := hE
  clear hdec hE
  go_loopw [7] (fun _ wr => ∃ pos : Nat, pos ≤ T.size ∧ wr = w.iter T pos ∧ endOf isNam s (a + pos) = E) (fun _ wr => T.size - wr.iterPos w.heap.size)
  case atStart => exact ⟨0, by omega, rfl, HE⟩
  case round =>
    obtain ⟨pos, hpos, rfl, hen⟩ := hrel
    have HN : Hid (endOf isNam s (a + pos) = E) := hen
    clear hen HE
    by_cases hp : pos < T.size
    · have hnx : ∀ ty, (Instr.next (.pointer (some ⟨w.heap.size, 0, none⟩)) true ty).run Tryz.prog (w.iter T pos) = _ := fun ty => run_next_any w T pos ty hp
      have c := implNam ((Utf8.decode T pos).1 : Int)
      have hle := (decode_le T pos).1
      have hg1 := (decode_le T pos).2.1
      have hft := decode_fits T pos hp
      obtain ⟨b, hb⟩ : ∃ b, isNam ((Utf8.decode T pos).1 : Int) = b := ⟨_, rfl⟩
      rw [hb] at c
      have HB : Hid (isNam ((Utf8.decode T pos).1 : Int) = b) := hb
      clear hb
      obtain ⟨R, hR⟩ : ∃ R, (Utf8.decode T pos).1 = R := ⟨_, rfl⟩
      obtain ⟨K, hK⟩ : ∃ K, (Utf8.decode T pos).2 = K := ⟨_, rfl⟩
      have HK : Hid ((Utf8.decode T pos).2 = K) := hK
      rw [hR] at c hle hnx
      rw [hK] at hnx hg1 hft
      clear hR hK
      have hle' : (R : Int) ≤ 1114111 := by omega
      cases b
      · go_wp2_with (go_at_call 105; go_must (refine (c _).mono ?_; rintro e w' ⟨rfl, rfl⟩))
        go_ret
        refine ⟨?_, (Below.refl _ w).alloc (Nat.le_refl _) _⟩
        have h1 := HN.out
        rw [endOf_stop (by omega) (by rw [← HD.out]; exact HB)] at h1
        rw [← h1]
        go_num
      · go_wp2_with (go_at_call 105; go_must (refine (c _).mono ?_; rintro e w' ⟨rfl, rfl⟩))
        go_roundw
        case rel =>
          refine ⟨pos + K, by omega, rfl, ?_⟩
          have h1 := HN.out
          rw [endOf_on (by omega) (by rw [← HD.out]; exact HB), ← HD.out, HK.out] at h1
          rw [← Nat.add_assoc]; exact h1
        case measure => simp; omega
    · have hnx : ∀ ty, (Instr.next (.pointer (some ⟨w.heap.size, 0, none⟩)) true ty).run Tryz.prog (w.iter T pos) = _ := fun ty => run_next_end w T pos ty hp
      go_wp2
      go_ret
      refine ⟨?_, (Below.refl _ w).alloc (Nat.le_refl _) _⟩
      have h1 := HN.out
      rw [endOf_out (by omega)] at h1
      rw [← h1]
      rfl

set_option maxRecDepth 1000000 in
set_option maxHeartbeats 400000 in
theorem runEndDig (s : ByteArray) (a : Nat) (hs : s.size ≤ 65536) (ha : a ≤ s.size) (w : World) :
    Calls Tryz.prog 104 #[.string s, .int .i64 a, .func (.func 133) #[] #[]] w fun e w' => e = .returned (.int .i64 (endOf isDig s a)) ∧ Below w.heap.size w w' := by
  obtain ⟨E, hE⟩ : ∃ E, endOf isDig s a = E := ⟨_, rfl⟩
  rw [hE]
  have hTs : (s.extract a s.size).size = s.size - a := by simp
  have hdec : ∀ pos, Utf8.decode (s.extract a s.size) pos = Utf8.decode s (a + pos) := fun pos => Lib.tail_decode s a pos
  go_enter Tryz.func104, Tryz.ntmps104
  go_wp2
  generalize s.extract a s.size = T at hTs hdec ⊢
  have HD : Hid (∀ pos, Utf8.decode T pos = Utf8.decode s (a + pos)) := hdec
  have HE : Hid (endOf isDig s a = E) := hE
  clear hdec hE
  go_loopw [7] (fun _ wr => ∃ pos : Nat, pos ≤ T.size ∧ wr = w.iter T pos ∧ endOf isDig s (a + pos) = E) (fun _ wr => T.size - wr.iterPos w.heap.size)
  case atStart => exact ⟨0, by omega, rfl, HE⟩
  case round =>
    obtain ⟨pos, hpos, rfl, hen⟩ := hrel
    have HN : Hid (endOf isDig s (a + pos) = E) := hen
    clear hen HE
    by_cases hp : pos < T.size
    · have hnx : ∀ ty, (Instr.next (.pointer (some ⟨w.heap.size, 0, none⟩)) true ty).run Tryz.prog (w.iter T pos) = _ := fun ty => run_next_any w T pos ty hp
      have c := implDigit ((Utf8.decode T pos).1 : Int)
      have hle := (decode_le T pos).1
      have hg1 := (decode_le T pos).2.1
      have hft := decode_fits T pos hp
      obtain ⟨b, hb⟩ : ∃ b, isDig ((Utf8.decode T pos).1 : Int) = b := ⟨_, rfl⟩
      rw [hb] at c
      have HB : Hid (isDig ((Utf8.decode T pos).1 : Int) = b) := hb
      clear hb
      obtain ⟨R, hR⟩ : ∃ R, (Utf8.decode T pos).1 = R := ⟨_, rfl⟩
      obtain ⟨K, hK⟩ : ∃ K, (Utf8.decode T pos).2 = K := ⟨_, rfl⟩
      have HK : Hid ((Utf8.decode T pos).2 = K) := hK
      rw [hR] at c hle hnx
      rw [hK] at hnx hg1 hft
      clear hR hK
      have hle' : (R : Int) ≤ 1114111 := by omega
      cases b
      · go_wp2_with (go_at_call 133; go_must (refine (c _).mono ?_; rintro e w' ⟨rfl, rfl⟩))
        go_ret
        refine ⟨?_, (Below.refl _ w).alloc (Nat.le_refl _) _⟩
        have h1 := HN.out
        rw [endOf_stop (by omega) (by rw [← HD.out]; exact HB)] at h1
        rw [← h1]
        go_num
      · go_wp2_with (go_at_call 133; go_must (refine (c _).mono ?_; rintro e w' ⟨rfl, rfl⟩))
        go_roundw
        case rel =>
          refine ⟨pos + K, by omega, rfl, ?_⟩
          have h1 := HN.out
          rw [endOf_on (by omega) (by rw [← HD.out]; exact HB), ← HD.out, HK.out] at h1
          rw [← Nat.add_assoc]; exact h1
        case measure => simp; omega
    · have hnx : ∀ ty, (Instr.next (.pointer (some ⟨w.heap.size, 0, none⟩)) true ty).run Tryz.prog (w.iter T pos) = _ := fun ty => run_next_end w T pos ty hp
      go_wp2
      go_ret
      refine ⟨?_, (Below.refl _ w).alloc (Nat.le_refl _) _⟩
      have h1 := HN.out
      rw [endOf_out (by omega)] at h1
      rw [← h1]
      rfl

/-- Where a name ends that begins at a place: at the place itself if no letter stands there. -/
def wordEnd (s : ByteArray) (a : Nat) : Nat :=
  if a < s.size ∧ isLet ((Utf8.decode s a).1 : Int) = true then endOf isNam s (a + (Utf8.decode s a).2) else a
theorem wordEnd_ge (s : ByteArray) (a : Nat) (h : a ≤ s.size) : a ≤ wordEnd s a ∧ wordEnd s a ≤ s.size := by
  unfold wordEnd
  split
  · rename_i hc
    have h1 := endOf_ge isNam s (a + (Utf8.decode s a).2) (decode_fits s a hc.1)
    omega
  · omega
/-- What the search for a name's end keeps. -/
def AtWord (s : ByteArray) (a i W : Nat) : Prop := (i = a ∧ wordEnd s a = W) ∨ (a < i ∧ endOf isNam s i = W)
theorem AtWord.stop {s : ByteArray} {a i W : Nat} (h : AtWord s a i W) (hi : i < s.size) (h1 : isLet ((Utf8.decode s i).1 : Int) = false) (h2 : a < i → isDig ((Utf8.decode s i).1 : Int) = false) : W = i := by
  rcases h with ⟨rfl, rfl⟩ | ⟨hl, rfl⟩
  · unfold wordEnd; rw [if_neg]; simp [h1]
  · exact endOf_stop hi (by simp [isNam, h1, h2 hl])
theorem AtWord.end {s : ByteArray} {a i W : Nat} (h : AtWord s a i W) (hi : ¬ i < s.size) (hle : i ≤ s.size) : W = i := by
  rcases h with ⟨rfl, rfl⟩ | ⟨hl, rfl⟩
  · unfold wordEnd; rw [if_neg]; simp [hi]
  · rw [endOf_out hi]; omega
theorem AtWord.on {s : ByteArray} {a i W : Nat} (h : AtWord s a i W) (hi : i < s.size) (h1 : isLet ((Utf8.decode s i).1 : Int) = true ∨ (a < i ∧ isDig ((Utf8.decode s i).1 : Int) = true)) : AtWord s a (i + (Utf8.decode s i).2) W := by
  have hk := (decode_le s i).2.1
  rcases h with ⟨rfl, rfl⟩ | ⟨hl, rfl⟩
  · refine .inr ⟨by omega, ?_⟩
    unfold wordEnd; rw [if_pos ⟨hi, by rcases h1 with h | ⟨h, _⟩; exact h; omega⟩]
  · refine .inr ⟨by omega, ?_⟩
    rw [endOf_on hi]
    rcases h1 with h | ⟨_, h⟩ <;> simp [isNam, h]

set_option maxRecDepth 1000000 in
set_option maxHeartbeats 1000000 in
theorem specWord (s : ByteArray) (a : Nat) (hs : s.size ≤ 65536) (ha : a ≤ s.size) (w : World) :
    Calls Tryz.prog 74 #[.string s, .int .i64 a] w fun e w' => e = .returned (.int .i64 ((wordEnd s a : Int) - (a : Int))) ∧ Below w.heap.size w w' := by
  obtain ⟨W, hW⟩ : ∃ W, wordEnd s a = W := ⟨_, rfl⟩
  have hAW : AtWord s a a W := .inl ⟨rfl, hW⟩
  rw [hW]
  clear hW
  go_enter Tryz.func74, Tryz.ntmps74
  go_wp2
  go_loopw [5] (fun i wr => ∃ k : Nat, a ≤ k ∧ k ≤ s.size ∧ i = .int .i64 (k : Int) ∧ AtWord s a k W ∧ Below w.heap.size w wr) (fun i _ => s.size - (intOf i).toNat)
  case atStart => exact ⟨a, by omega, by omega, rfl, hAW, Below.refl _ _⟩
  case round =>
    obtain ⟨k, hk1, hk2, rfl, hkW, hB⟩ := hrel
    clear hAW
    by_cases hk : k < s.size
    · have c := specRune s k hs hk
      have c1 := specLetter ((Utf8.decode s k).1 : Int)
      have c2 := specDigit ((Utf8.decode s k).1 : Int)
      have hle := (decode_le s k).1
      have hg1 := (decode_le s k).2.1
      have hft := decode_fits s k hk
      have hst := AtWord.stop hkW hk
      have hon := AtWord.on hkW hk
      obtain ⟨R, hR⟩ : ∃ R, (Utf8.decode s k).1 = R := ⟨_, rfl⟩
      obtain ⟨K, hK⟩ : ∃ K, (Utf8.decode s k).2 = K := ⟨_, rfl⟩
      rw [hR, hK] at c
      rw [hR] at c1 c2 hst hon hle
      rw [hK] at hg1 hft hon
      clear hR hK hkW
      obtain ⟨bl, hbl⟩ : ∃ b, isLet (R : Int) = b := ⟨_, rfl⟩
      obtain ⟨bd, hbd⟩ : ∃ b, isDig (R : Int) = b := ⟨_, rfl⟩
      rw [hbl] at c1 hst hon
      rw [hbd] at c2 hst hon
      clear hbl hbd
      have hkz : (k : Int) < (s.size : Int) := by omega
      cases bl
      · by_cases hak : (a : Int) < (k : Int)
        · cases bd
          · have e := hst rfl fun _ => rfl
            subst e
            clear hst hon
            go_wp2_with (first | (go_at_call 93; go_must (refine (c _).mono ?_; rintro e w1 ⟨rfl, hB1⟩)) | (go_at_call 94; go_must (refine (c1 _).mono ?_; rintro e w' ⟨rfl, rfl⟩)) | (go_at_call 95; go_must (refine (c2 _).mono ?_; rintro e w' ⟨rfl, rfl⟩)))
            go_ret
            exact ⟨rfl, hB.trans (hB1.mono hB.size)⟩
          · have hn := hon (.inr ⟨by omega, rfl⟩)
            clear hst hon
            go_wp2_with (first | (go_at_call 93; go_must (refine (c _).mono ?_; rintro e w1 ⟨rfl, hB1⟩)) | (go_at_call 94; go_must (refine (c1 _).mono ?_; rintro e w' ⟨rfl, rfl⟩)) | (go_at_call 95; go_must (refine (c2 _).mono ?_; rintro e w' ⟨rfl, rfl⟩)))
            go_roundw
            case rel => exact ⟨k + K, by omega, by omega, by go_num, hn, hB.trans (hB1.mono hB.size)⟩
            case measure => simp [intOf]; omega
        · have e := hst rfl (fun h => absurd h (by omega))
          subst e
          clear hst hon
          go_wp2_with (first | (go_at_call 93; go_must (refine (c _).mono ?_; rintro e w1 ⟨rfl, hB1⟩)) | (go_at_call 94; go_must (refine (c1 _).mono ?_; rintro e w' ⟨rfl, rfl⟩)) | (go_at_call 95; go_must (refine (c2 _).mono ?_; rintro e w' ⟨rfl, rfl⟩)))
          go_ret
          exact ⟨rfl, hB.trans (hB1.mono hB.size)⟩
      · have hn := hon (.inl rfl)
        clear hst hon c2
        go_wp2_with (first | (go_at_call 93; go_must (refine (c _).mono ?_; rintro e w1 ⟨rfl, hB1⟩)) | (go_at_call 94; go_must (refine (c1 _).mono ?_; rintro e w' ⟨rfl, rfl⟩)))
        go_roundw
        case rel => exact ⟨k + K, by omega, by omega, by go_num, hn, hB.trans (hB1.mono hB.size)⟩
        case measure => simp [intOf]; omega
    · have e := AtWord.end hkW hk hk2
      subst e
      have hkz : ¬ ((W : Int) < (s.size : Int)) := by omega
      go_wp2
      go_ret
      exact ⟨rfl, hB⟩
end Go.Proofs.YtphocibgfdihoaaGreatDoor

namespace Go.Proofs.YtphocibgfdihoaaGreatDoor
open Go.ChangeShapes Go.WideShapes Go.ChangeAt Go.RowKit
set_option linter.unusedVariables false

def nameOK (s : ByteArray) : Bool := decide (0 < s.size) && decide (s.size ≤ 40) && decide (wordEnd s 0 = s.size) && !hasB resList s

set_option maxRecDepth 100000 in
set_option maxHeartbeats 400000 in
theorem specNameOK (s : ByteArray) (w : World) :
    Calls Tryz.prog 44 #[.string s] w fun e w' => e = .returned (.bool (nameOK s)) ∧ Below w.heap.size w w' := by
  by_cases h0 : s.size = 0
  · have e : nameOK s = false := by simp [nameOK, h0]
    rw [e]
    have h1 : (s.size : Int) = 0 := by omega
    go_enter Tryz.func44, Tryz.ntmps44
    go_wp2_with fail
    go_ret
    exact ⟨rfl, Below.refl _ _⟩
  by_cases h1 : 40 < s.size
  · have e : nameOK s = false := by
      have : decide (s.size ≤ 40) = false := by simp; omega
      simp [nameOK, this]
    rw [e]
    have h2 : (40 : Int) < (s.size : Int) := by omega
    go_enter Tryz.func44, Tryz.ntmps44
    go_wp2_with fail
    go_ret
    exact ⟨rfl, Below.refl _ _⟩
  obtain ⟨E, hE⟩ : ∃ E, wordEnd s 0 = E := ⟨_, rfl⟩
  obtain ⟨B, hB⟩ : ∃ B, hasB resList s = B := ⟨_, rfl⟩
  have c1 : ∀ w, Calls Tryz.prog 74 #[.string s, .int .i64 0] w fun e w' => e = .returned (.int .i64 (E : Int)) ∧ Below w.heap.size w w' := by
    intro w
    have := specWord s 0 (by omega) (by omega) w
    rw [hE] at this
    simpa using this
  have c2 := specReserved s
  rw [hB] at c2
  have e : nameOK s = (decide (E = s.size) && !B) := by
    have a1 : decide (0 < s.size) = true := by simp; omega
    have a2 : decide (s.size ≤ 40) = true := by simp; omega
    simp [nameOK, a1, a2, hE, hB]
  rw [e]
  clear hE hB e
  have p1 : (0 : Int) < (s.size : Int) := by omega
  have p2 : (s.size : Int) ≤ 40 := by omega
  by_cases hEs : (E : Int) = (s.size : Int)
  · have e2 : E = s.size := by omega
    have e3 : decide (E = s.size) = true := by simp [e2]
    have q : ((E : Int) == (s.size : Int)) = true := by simp [e2]
    rw [e3]
    clear e2 e3 hEs
    go_enter Tryz.func44, Tryz.ntmps44
    go_wp2_with (first | (go_at_call 74; go_must (refine (c1 _).mono ?_; rintro e w1 ⟨rfl, hB1⟩)) | (go_at_call 75; go_must (refine (c2 _).mono ?_; rintro e w2 ⟨rfl, hB2⟩)))
    go_ret
    refine ⟨?_, hB1.trans (hB2.mono hB1.size)⟩
    cases B <;> rfl
  · have e3 : decide (E = s.size) = false := by simp; omega
    have q : ((E : Int) == (s.size : Int)) = false := by simp; omega
    rw [e3]
    clear e3 hEs
    go_enter Tryz.func44, Tryz.ntmps44
    go_wp2_with (first | (go_at_call 74; go_must (refine (c1 _).mono ?_; rintro e w1 ⟨rfl, hB1⟩)) | (go_at_call 75; go_must (refine (c2 _).mono ?_; rintro e w2 ⟨rfl, hB2⟩)))
    go_ret
    exact ⟨rfl, hB1⟩

theorem word_of_end (s : ByteArray) (h : 0 < s.size) : decide (wordEnd s 0 = s.size) = (isLet ((Utf8.decode s 0).1 : Int) && decide (endOf isNam s 0 = s.size)) := by
  unfold wordEnd
  cases hl : isLet ((Utf8.decode s 0).1 : Int)
  · rw [if_neg (by simp)]; simp; omega
  · rw [if_pos ⟨h, rfl⟩, endOf_on (f := isNam) h (by simp [isNam, hl])]
    simp

set_option maxRecDepth 100000 in
set_option maxHeartbeats 400000 in
theorem implNameOK (s : ByteArray) (w : World) (hT : Lib.Utf8Tabs 1 2 w) :
    Calls Tryz.prog 84 #[.string s] w fun e w' => e = .returned (.bool (nameOK s)) ∧ Below w.heap.size w w' := by
  by_cases h0 : s.size = 0
  · have e : nameOK s = false := by simp [nameOK, h0]
    rw [e]
    clear hT
    have h1 : (s.size : Int) = 0 := by omega
    go_enter Tryz.func84, Tryz.ntmps84
    go_wp2_with fail
    go_ret
    exact ⟨rfl, Below.refl _ _⟩
  by_cases h1 : 40 < s.size
  · have e : nameOK s = false := by
      have : decide (s.size ≤ 40) = false := by simp; omega
      simp [nameOK, this]
    rw [e]
    clear hT
    have h2 : (40 : Int) < (s.size : Int) := by omega
    go_enter Tryz.func84, Tryz.ntmps84
    go_wp2_with fail
    go_ret
    exact ⟨rfl, Below.refl _ _⟩
  have c0 := implReserved s
  have hr := runeAt_in (s := s) (i := 0) (by omega) (by omega)
  have c1 := fun w hT => implRuneAt s 0 w hT
  have hr' : runeAt s 0 = (((Utf8.decode s 0).1 : Int), ((Utf8.decode s 0).2 : Int)) := hr
  rw [hr'] at c1
  have c2 := implLetter ((Utf8.decode s 0).1 : Int)
  have c3 : ∀ w, Calls Tryz.prog 104 #[.string s, .int .i64 0, .func (.func 105) #[] #[]] w fun e w' => e = .returned (.int .i64 (endOf isNam s 0)) ∧ Below w.heap.size w w' := fun w => runEndNam s 0 (by omega) (by omega) w
  have hw := word_of_end s (by omega)
  obtain ⟨B, hB⟩ : ∃ B, hasB resList s = B := ⟨_, rfl⟩
  obtain ⟨E, hE⟩ : ∃ E, endOf isNam s 0 = E := ⟨_, rfl⟩
  have e : nameOK s = (isLet ((Utf8.decode s 0).1 : Int) && decide (E = s.size) && !B) := by
    have a1 : decide (0 < s.size) = true := by simp; omega
    have a2 : decide (s.size ≤ 40) = true := by simp; omega
    simp only [nameOK, a1, a2, hB, hw, hE, Bool.true_and]
  rw [e]
  rw [hB] at c0
  rw [hE] at c3
  obtain ⟨R, hR⟩ : ∃ R, (Utf8.decode s 0).1 = R := ⟨_, rfl⟩
  obtain ⟨K, hK⟩ : ∃ K, (Utf8.decode s 0).2 = K := ⟨_, rfl⟩
  rw [hR] at c1 c2 ⊢
  rw [hK] at c1
  obtain ⟨Lb, hL⟩ : ∃ L, isLet (R : Int) = L := ⟨_, rfl⟩
  rw [hL] at c2 ⊢
  have HT : Hid (Lib.Utf8Tabs 1 2 w) := hT
  clear hE hB e hw hr hr' hR hK hL hT
  have p1 : ((s.size : Int) == 0) = false := by rw [beq_eq_false_iff_ne]; omega
  have p2 : (s.size : Int) ≤ 40 := by omega
  cases B
  · cases Lb
    · go_enter Tryz.func84, Tryz.ntmps84
      go_wp2_with (first | (go_at_call 101; go_must (refine (c0 _).mono ?_; rintro e w1 ⟨rfl, rfl⟩)) | (go_at_call 102; go_must (refine (c1 _ HT.out).mono ?_; rintro e w2 ⟨rfl, hB2⟩)) | (go_at_call 103; go_must (refine (c2 _).mono ?_; rintro e w' ⟨rfl, rfl⟩)) | (go_at_call 104; go_must (refine (c3 _).mono ?_; rintro e w3 ⟨rfl, hB3⟩)))
      go_ret
      exact ⟨rfl, hB2⟩
    · go_enter Tryz.func84, Tryz.ntmps84
      go_wp2_with (first | (go_at_call 101; go_must (refine (c0 _).mono ?_; rintro e w1 ⟨rfl, rfl⟩)) | (go_at_call 102; go_must (refine (c1 _ HT.out).mono ?_; rintro e w2 ⟨rfl, hB2⟩)) | (go_at_call 103; go_must (refine (c2 _).mono ?_; rintro e w' ⟨rfl, rfl⟩)) | (go_at_call 104; go_must (refine (c3 _).mono ?_; rintro e w3 ⟨rfl, hB3⟩)))
      go_ret
      refine ⟨?_, hB2.trans (hB3.mono hB2.size)⟩
      refine congrArg (fun b => Ending.returned (Value.bool b)) ?_
      rw [Bool.eq_iff_iff]
      simp
      omega
  · have e4 : (Lb && decide (E = s.size) && !true) = false := by simp
    rw [e4]
    go_enter Tryz.func84, Tryz.ntmps84
    go_wp2_with (first | (go_at_call 101; go_must (refine (c0 _).mono ?_; rintro e w1 ⟨rfl, rfl⟩)))
    go_ret
    exact ⟨rfl, Below.refl _ _⟩
end Go.Proofs.YtphocibgfdihoaaGreatDoor

namespace Go.Proofs.YtphocibgfdihoaaGreatDoor
open Go.ChangeShapes Go.WideShapes Go.ChangeAt Go.RowKit
set_option linter.unusedVariables false

/-! A name has no point. -/
theorem decN_in {n b0 b1 b2 b3 : Nat} (hn : 1 ≤ n) (h0 : b0 < 256) (h1 : b1 < 256) (h2 : b2 < 256) (h3 : b3 < 256) :
    (b0 = 46 → (Lib.decodeN n b0 b1 b2 b3).1 = 46) ∧ (1 < (Lib.decodeN n b0 b1 b2 b3).2 → 128 ≤ b1) ∧ (2 < (Lib.decodeN n b0 b1 b2 b3).2 → 128 ≤ b2) ∧ (3 < (Lib.decodeN n b0 b1 b2 b3).2 → 128 ≤ b3) ∧ (Lib.decodeN n b0 b1 b2 b3).2 ≤ 4 := by
  unfold Lib.decodeN
  repeat' split
  all_goals (simp only; omega)
theorem dec_in (s : ByteArray) (i : Nat) (h : i < s.size) : (byt s i = 46 → (Utf8.decode s i).1 = 46) ∧ ∀ j, 0 < j → j < (Utf8.decode s i).2 → 128 ≤ byt s (i + j) := by
  have := decN_in (n := s.size - i) (b0 := byt s i) (b1 := byt s (i + 1)) (b2 := byt s (i + 2)) (b3 := byt s (i + 3)) (by omega) (byt_lt _ _) (byt_lt _ _) (byt_lt _ _) (byt_lt _ _)
  rw [← decode_byt] at this
  obtain ⟨h1, h2, h3, h4, h5⟩ := this
  refine ⟨h1, fun j hj hjk => ?_⟩
  rcases (show j = 1 ∨ j = 2 ∨ j = 3 by omega) with rfl | rfl | rfl
  · exact h2 hjk
  · exact h3 hjk
  · exact h4 hjk
theorem end_no_dot (s : ByteArray) (pos : Nat) (h : endOf isNam s pos = s.size) (i : Nat) (hp : pos ≤ i) (hi : i < s.size) : byt s i ≠ 46 := by
  by_cases hf : isNam ((Utf8.decode s pos).1 : Int) = true
  · rw [endOf_on (by omega) hf] at h
    obtain ⟨d1, d2⟩ := dec_in s pos (by omega)
    have hk := (decode_le s pos).2.1
    by_cases h1 : i = pos
    · subst h1
      intro e
      rw [d1 e] at hf
      revert hf
      decide
    · by_cases h2 : i < pos + (Utf8.decode s pos).2
      · have := d2 (i - pos) (by omega) (by omega)
        rw [show pos + (i - pos) = i by omega] at this
        omega
      · exact end_no_dot s (pos + (Utf8.decode s pos).2) h i (by omega) hi
  · rw [endOf_stop (by omega) (by simpa using hf)] at h
    omega
termination_by s.size - pos
theorem name_no_dot {s : ByteArray} (h : nameOK s = true) (i : Nat) (hi : i < s.size) : byt s i ≠ 46 := by
  have hw : wordEnd s 0 = s.size := by
    unfold nameOK at h
    simp only [Bool.and_eq_true, decide_eq_true_eq] at h
    exact h.1.2
  unfold wordEnd at hw
  split at hw
  · rename_i hc
    obtain ⟨d1, d2⟩ := dec_in s 0 hc.1
    by_cases h0 : i = 0
    · subst h0
      intro e
      have hf := hc.2
      rw [d1 e] at hf
      revert hf
      decide
    · by_cases h2 : i < 0 + (Utf8.decode s 0).2
      · have := d2 i (by omega) (by omega)
        rw [Nat.zero_add] at this
        omega
      · exact end_no_dot s _ hw i (by omega) hi
  · omega
theorem name_small {s : ByteArray} (h : nameOK s = true) : s.size ≤ 40 := by
  unfold nameOK at h
  simp only [Bool.and_eq_true, decide_eq_true_eq] at h
  exact h.1.1.2
theorem byt_list (s : ByteArray) (i : Nat) (h : i < s.size) : s.data.toList[i]? = some s[i] := by
  rw [List.getElem?_eq_getElem (by simpa using h)]
  rfl
theorem name_no_dot' {s : ByteArray} (h : nameOK s = true) : (46 : UInt8) ∉ s.data.toList := by
  intro hm
  obtain ⟨i, hi, he⟩ := List.getElem_of_mem hm
  have hi' : i < s.size := by simpa using hi
  refine name_no_dot h i hi' ?_
  rw [← byt_eq s i hi']
  have h2 := byt_list s i hi'
  rw [List.getElem?_eq_getElem hi, he] at h2
  simp only [Option.some.injEq] at h2
  rw [← h2]; rfl

/-! Parts. -/
def cutR : List UInt8 → List (List UInt8)
  | [] => [[]]
  | c :: l => if c = 46 then [] :: cutR l else match cutR l with
    | [] => [[c]]
    | h :: t => (c :: h) :: t
theorem cutR_none {a : List UInt8} (h : (46 : UInt8) ∉ a) : cutR a = [a] := by
  induction a with
  | nil => rfl
  | cons c l ih =>
    simp only [List.mem_cons, not_or] at h
    unfold cutR
    rw [if_neg (fun e => h.1 e.symm), ih h.2]
theorem cutR_dot {a : List UInt8} (h : (46 : UInt8) ∉ a) (b : List UInt8) : cutR (a ++ 46 :: b) = a :: cutR b := by
  induction a with
  | nil => simp [cutR]
  | cons c l ih =>
    simp only [List.mem_cons, not_or] at h
    rw [List.cons_append]
    conv => lhs; unfold cutR
    rw [if_neg (fun e => h.1 e.symm), ih h.2]
theorem cutR_sum : ∀ l : List UInt8, ((cutR l).map (fun x => x.length + 1)).sum = l.length + 1
  | [] => rfl
  | c :: l => by
    have ih := cutR_sum l
    unfold cutR
    by_cases h : c = 46
    · rw [if_pos h]; simp [ih]; omega
    · rw [if_neg h]
      cases hc : cutR l with
      | nil => rw [hc] at ih; simp at ih
      | cons a t => rw [hc] at ih; simp at ih ⊢; omega
theorem cutR_pos (l : List UInt8) : 0 < (cutR l).length := by
  cases hc : cutR l with
  | nil => have := cutR_sum l; rw [hc] at this; simp at this
  | cons a t => simp
theorem at_dot {l : List UInt8} {i : Nat} (h1 : l[i]? = some 46) (h2 : ∀ k, k < i → l[k]? ≠ some 46) : l = l.take i ++ 46 :: l.drop (i + 1) ∧ (46 : UInt8) ∉ l.take i := by
  obtain ⟨hi, he⟩ := List.getElem?_eq_some_iff.1 h1
  refine ⟨?_, fun hm => ?_⟩
  · conv => lhs; rw [← List.take_append_drop i l]
    rw [List.drop_eq_getElem_cons hi, he]
  · obtain ⟨k, hk, e⟩ := List.mem_take_iff_getElem.1 hm
    exact h2 k (by omega) (by rw [List.getElem?_eq_getElem (by omega), e])
theorem no_dot_of {l : List UInt8} (h : ∀ k : Nat, l[k]? ≠ some 46) : (46 : UInt8) ∉ l := fun hm => by
  obtain ⟨k, hk, e⟩ := List.getElem_of_mem hm
  exact h k (by rw [List.getElem?_eq_getElem hk, e])
theorem split_all {P : List UInt8 → Bool} (hP : ∀ x, P x = true → (46 : UInt8) ∉ x) : ∀ (k : Nat) (l : List UInt8), (Lib.splitK [46] 0 k l).all P = (decide ((cutR l).length ≤ k + 1) && (cutR l).all P)
  | 0, l => by
    unfold Lib.splitK
    by_cases h : (46 : UInt8) ∈ l
    · have hP0 : P l = false := by
        cases hp : P l
        · rfl
        · exact absurd h (hP l hp)
      obtain ⟨k, hk, e⟩ := List.getElem_of_mem h
      have h2 : ¬ (cutR l).length ≤ 1 := by
        rcases (show Lib.indexByte l 46 = -1 ∨ ∃ o : Nat, Lib.indexByte l 46 = o from by
          have := Lib.indexByte_ge l 46
          by_cases e : Lib.indexByte l 46 = -1
          · exact .inl e
          · exact .inr ⟨(Lib.indexByte l 46).toNat, by omega⟩) with q | ⟨o, q⟩
        · exact absurd (by rw [List.getElem?_eq_getElem hk, e]) (Lib.indexByte_none q k)
        · obtain ⟨q1, q2⟩ := Lib.indexByte_some q
          obtain ⟨s1, s2⟩ := at_dot q1 q2
          have := cutR_dot s2 (l.drop (o + 1))
          rw [← s1] at this
          rw [this]
          have := cutR_pos (l.drop (o + 1))
          simp only [List.length_cons]; omega
      rw [decide_eq_false h2]
      simp [hP0]
    · rw [cutR_none h]; simp
  | k + 1, l => by
    unfold Lib.splitK
    rw [Lib.index_one]
    by_cases h : (46 : UInt8) ∈ l
    · obtain ⟨j, hj, e⟩ := List.getElem_of_mem h
      rcases (show Lib.indexByte l 46 = -1 ∨ ∃ o : Nat, Lib.indexByte l 46 = o from by
        have := Lib.indexByte_ge l 46
        by_cases e : Lib.indexByte l 46 = -1
        · exact .inl e
        · exact .inr ⟨(Lib.indexByte l 46).toNat, by omega⟩) with q | ⟨o, q⟩
      · exact absurd (by rw [List.getElem?_eq_getElem hj, e]) (Lib.indexByte_none q j)
      · obtain ⟨q1, q2⟩ := Lib.indexByte_some q
        obtain ⟨s1, s2⟩ := at_dot q1 q2
        have hc := cutR_dot s2 (l.drop (o + 1))
        rw [← s1] at hc
        rw [hc, q, if_neg (by simp)]
        have ih := split_all hP k (l.drop (o + 1))
        simp only [List.all_cons, List.length_cons, Nat.add_zero, List.length_nil, Nat.zero_add, show ((o : Int)).toNat = o from rfl]
        rw [ih]
        have hd : decide ((cutR (l.drop (o + 1))).length + 1 ≤ k + 1 + 1) = decide ((cutR (l.drop (o + 1))).length ≤ k + 1) := by
          rw [Bool.eq_iff_iff]; simp
        rw [hd]
        cases P (l.take o) <;> cases decide ((cutR (l.drop (o + 1))).length ≤ k + 1) <;> simp
    · have q : Lib.indexByte l 46 = -1 := by
        by_cases e : Lib.indexByte l 46 = -1
        · exact e
        · have := Lib.indexByte_ge l 46
          obtain ⟨q1, _⟩ := Lib.indexByte_some (l := l) (c := 46) (o := (Lib.indexByte l 46).toNat) (by omega)
          exact absurd (List.mem_of_getElem? q1) h
      rw [q, if_pos (by decide), cutR_none h]
      simp
theorem ofNat46 {x : Nat} (h : x < 256) (e : UInt8.ofNat x = 46) : x = 46 := by
  have := congrArg UInt8.toNat e
  rw [UInt8.toNat_ofNat', Nat.mod_eq_of_lt h] at this
  exact this
/-- What is cut, going on from byte to byte, is what is cut at the first point, and so on. -/
theorem byteAt_list (t : ByteArray) (k : Nat) (h : k < t.size) : t.data.toList[k]? = some (UInt8.ofNat (byteAt t k)) := by
  rw [byt_list t k h]
  unfold byteAt
  rw [dif_pos h]
  simp
theorem cutUp_is (t : ByteArray) : ∀ k, k ≤ t.size → (∀ i, (cutUp t 46 k).2 ≤ i → i < k → byteAt t i ≠ 46) ∧ ((cutUp t 46 k).1.map (·.data.toList)) ++ cutR (t.data.toList.drop (cutUp t 46 k).2) = cutR t.data.toList
  | 0, _ => by
    unfold cutUp
    exact ⟨fun i _ h => by omega, by simp⟩
  | k + 1, hk => by
    obtain ⟨h1, h2⟩ := cutUp_is t k (by omega)
    have hle := (cutUp_le t 46 k).1
    obtain ⟨ls, f, hc⟩ : ∃ ls f, cutUp t 46 k = (ls, f) := ⟨_, _, rfl⟩
    rw [hc] at h1 h2 hle
    dsimp only at h1 h2 hle
    by_cases hb : byteAt t k = 46
    · have e : cutUp t 46 (k + 1) = (ls ++ [t.extract f k], k + 1) := by
        conv => lhs; unfold cutUp
        rw [if_pos hb, hc]
      rw [e]
      dsimp only
      refine ⟨fun i _ _ => by omega, ?_⟩
      rw [← h2]
      have hkl : k < t.size := by omega
      have hd : t.data.toList.drop f = (t.data.toList.drop f).take (k - f) ++ 46 :: (t.data.toList.drop f).drop (k - f + 1) ∧ (46 : UInt8) ∉ (t.data.toList.drop f).take (k - f) := by
        refine at_dot ?_ (fun j hj hh => ?_)
        · rw [List.getElem?_drop, show f + (k - f) = k by omega, byteAt_list t k hkl, hb]; rfl
        · rw [List.getElem?_drop, byteAt_list t (f + j) (by omega)] at hh
          have hlt : byteAt t (f + j) < 256 := by
            unfold byteAt; split
            · exact UInt8.toNat_lt _
            · omega
          have hne := h1 (f + j) (by omega) (by omega)
          simp only [Option.some.injEq] at hh
          exact hne (ofNat46 hlt hh)
      rw [hd.1, cutR_dot hd.2]
      have ex : (t.extract f k).data.toList = (t.data.toList.drop f).take (k - f) := by
        rw [Lib.extract_data]
      rw [List.map_append, List.append_assoc]
      simp only [List.map_cons, List.map_nil, List.singleton_append, ex, List.drop_drop]
      rw [show f + (k - f + 1) = k + 1 by omega]
    · have e : cutUp t 46 (k + 1) = (ls, f) := by
        conv => lhs; unfold cutUp
        rw [if_neg hb, hc]
      rw [e]
      refine ⟨fun i hi hik => ?_, h2⟩
      by_cases ei : i = k
      · subst ei; exact hb
      · exact h1 i hi (by omega)
theorem cutF_is (t : ByteArray) : (cutF t 46).map (·.data.toList) = cutR t.data.toList := by
  obtain ⟨h1, h2⟩ := cutUp_is t t.size (Nat.le_refl _)
  have hle := (cutUp_le t 46 t.size).1
  unfold cutF
  rw [List.map_append, ← h2]
  congr 1
  have hn : (46 : UInt8) ∉ t.data.toList.drop (cutUp t 46 t.size).2 := by
    refine no_dot_of (fun j hh => ?_)
    rw [List.getElem?_drop] at hh
    have hl : (cutUp t 46 t.size).2 + j < t.size := by
      have := (List.getElem?_eq_some_iff.1 hh).1
      simpa using this
    rw [byteAt_list t _ hl] at hh
    have hlt : byteAt t ((cutUp t 46 t.size).2 + j) < 256 := by
      unfold byteAt; split
      · exact UInt8.toNat_lt _
      · omega
    simp only [Option.some.injEq] at hh
    exact h1 _ (by omega) hl (ofNat46 hlt hh)
  rw [cutR_none hn]
  simp only [List.map_cons, List.map_nil]
  rw [Lib.extract_data]
  congr 1
  exact List.take_of_length_le (by simp)
def nameL (l : List UInt8) : Bool := nameOK ⟨l.toArray⟩
theorem nameL_data (b : ByteArray) : nameL b.data.toList = nameOK b := by
  rfl
theorem all_names (l : List ByteArray) : l.all nameOK = (l.map (·.data.toList)).all nameL := by
  rw [List.all_map]
  rfl
theorem names_sum {l : List (List UInt8)} (h : l.all nameL = true) : (l.map (fun x => x.length + 1)).sum ≤ l.length * 41 := by
  induction l with
  | nil => simp
  | cons a t ih =>
    simp only [List.all_cons, Bool.and_eq_true] at h
    have h1 := ih h.2
    have h2 := name_small (s := ⟨a.toArray⟩) h.1
    have h3 : a.length ≤ 40 := by simpa [ByteArray.size] using h2
    simp only [List.map_cons, List.sum_cons, List.length_cons]
    omega
/-- What SplitN at points into five gives is names alone just if the text is a path. -/
theorem path_split (t : ByteArray) : (Lib.splitB ⟨#[46]⟩ 0 (min 5 (t.size + 1) - 1) t).all nameOK = pathB nameOK t := by
  rw [all_names, Lib.splitB_data, split_all (fun x hx => by
    have := name_no_dot' (s := ⟨x.toArray⟩) hx
    simpa using this)]
  unfold pathB
  rw [all_names, cutF_is]
  have hl : (cutF t 46).length = (cutR t.data.toList).length := by rw [← cutF_is, List.length_map]
  rw [hl]
  have hs := cutR_sum t.data.toList
  have hz : t.data.toList.length = t.size := by simp
  cases ha : (cutR t.data.toList).all nameL
  · simp
  · have h1 := names_sum ha
    have h2 : (cutR t.data.toList).length ≤ t.size + 1 := by
      have : ∀ l : List (List UInt8), l.length ≤ (l.map (fun x => x.length + 1)).sum := fun l => by
        induction l with
        | nil => simp
        | cons a t ih => simp; omega
      have := this (cutR t.data.toList)
      omega
    simp only [Bool.and_true]
    rw [Bool.eq_iff_iff]
    simp only [decide_eq_true_eq, Bool.and_eq_true]
    omega
end Go.Proofs.YtphocibgfdihoaaGreatDoor

namespace Go.Proofs.YtphocibgfdihoaaGreatDoor
open Go.ChangeShapes Go.WideShapes Go.ChangeAt Go.RowKit
set_option linter.unusedVariables false

theorem any_takeW {α : Type} (l : List α) (f : α → Bool) (k : Nat) (h : k < l.length) (h0 : (l.take k).any f = false) (h1 : f l[k] = false) : (l.take (k + 1)).any f = false := by
  rw [List.take_succ_eq_append_getElem h, List.any_append, h0]
  simp [h1]

def noName (s : ByteArray) : Bool := !nameOK s
set_option maxRecDepth 100000 in
theorem implNoName (s : ByteArray) (hz : s.size ≤ 1048576) (w : World) (hT : Lib.Utf8Tabs 1 2 w) : Calls Tryz.prog 83 #[.string s] w fun e w' => e = .returned (.bool (noName s)) ∧ Below w.heap.size w w' := by
  have cn := implNameOK s w hT
  clear hT
  unfold noName
  obtain ⟨b, hb⟩ : ∃ b, nameOK s = b := ⟨_, rfl⟩
  rw [hb] at cn ⊢
  clear hb
  go_enter Tryz.func83, Tryz.ntmps83
  go_wp2_with (go_at_call 84; go_must (refine cn.mono ?_; rintro e w1 ⟨rfl, hb1⟩))
  go_ret
  exact ⟨by simp, hb1⟩

set_option maxRecDepth 100000 in
set_option maxHeartbeats 1000000 in
theorem implIndexN (ss : List ByteArray) (a : Option Addr) (cap : Nat) (w : World) (hlen : ss.length ≤ 1000000) (hz : ∀ s ∈ ss, s.size ≤ 1048576) (hc : 0 < ss.length → ∃ g, a = some ⟨g, 0, none⟩ ∧ g < w.heap.size ∧ ∀ j (hj : j < ss.length), w.cell? ⟨g, j, none⟩ = some (.string ss[j])) (hT : Lib.Utf8Tabs 1 2 w) :
    Calls Tryz.prog 68 #[.slice a ss.length cap, .func (.func 83) #[] #[]] w fun e w' => (∃ r : Int, e = .returned (.int .i64 r) ∧ decide (0 ≤ r) = ss.any noName) ∧ Below w.heap.size w w' := by
  have HC : Hid (0 < ss.length → ∃ g, a = some ⟨g, 0, none⟩ ∧ g < w.heap.size ∧ ∀ j (hj : j < ss.length), w.cell? ⟨g, j, none⟩ = some (.string ss[j])) := hc
  have HZ : Hid (∀ s ∈ ss, s.size ≤ 1048576) := hz
  have HT : Hid (Lib.Utf8Tabs 1 2 w) := hT
  have hlen' : (ss.length : Int) ≤ 1000000 := by omega
  clear hc hT hz
  go_enter Tryz.func68, Tryz.ntmps68
  go_wp2_with fail
  go_loopw [8] (fun i8 wr => ∃ (k : Nat), i8 = .int .i64 (k : Int) ∧ k ≤ ss.length ∧ (ss.take k).any noName = false ∧ Below w.heap.size w wr) (fun i8 _ => ss.length - (intOf i8).toNat)
  case atStart => exact ⟨0, rfl, by omega, by simp, Below.refl _ _⟩
  case round =>
    obtain ⟨k, rfl, hk, hany, hb⟩ := hrel
    have HA : Hid ((ss.take k).any noName = false) := hany
    clear hany
    by_cases hkn : k < ss.length
    · have hkn' : (k : Int) < (ss.length : Int) := by omega
      obtain ⟨g, rfl, hg, hcell⟩ := HC.out (by omega)
      have x1 := hcell k hkn
      have z1 := HZ.out ss[k] (List.getElem_mem hkn)
      obtain ⟨x, hx⟩ : ∃ x, ss[k] = x := ⟨_, rfl⟩
      have HX : Hid (ss[k] = x) := hx
      rw [hx] at x1 z1
      clear hx hcell
      have d1 := (hb.cell (p := ⟨g, k, none⟩) hg).trans x1
      have cn := implNoName x z1 wr (Utf8Tabs_below HT.out hb)
      obtain ⟨B1, hB1⟩ : ∃ B1, noName x = B1 := ⟨_, rfl⟩
      rw [hB1] at cn
      have HB1 : Hid (noName x = B1) := hB1
      clear hB1
      cases B1
      · go_wp2_with (go_at_call 83; go_must (refine cn.mono ?_; rintro e w1 ⟨rfl, hb1⟩))
        exact ⟨⟨k + 1, rfl, by omega, any_takeW ss _ k hkn HA.out (by rw [HX.out]; exact HB1.out), good_below hb hb1⟩, by simp [intOf]; omega⟩
      · go_wp2_with (go_at_call 83; go_must (refine cn.mono ?_; rintro e w1 ⟨rfl, hb1⟩))
        go_ret
        refine ⟨⟨_, rfl, ?_⟩, good_below hb hb1⟩
        rw [List.any_eq_true.2 ⟨ss[k], List.getElem_mem hkn, by rw [HX.out]; exact HB1.out⟩]
        simp
    · have hkn' : ¬ ((k : Int) < (ss.length : Int)) := by omega
      have hA := HA.out
      rw [List.take_of_length_le (by omega)] at hA
      go_wp2_with fail
      go_ret
      refine ⟨⟨_, rfl, ?_⟩, hb⟩
      first
        | (rw [hA]; rfl)
        | omega
set_option maxRecDepth 100000 in
theorem implContainsN (ss : List ByteArray) (a : Option Addr) (cap : Nat) (w : World) (hlen : ss.length ≤ 1000000) (hz : ∀ s ∈ ss, s.size ≤ 1048576) (hc : 0 < ss.length → ∃ g, a = some ⟨g, 0, none⟩ ∧ g < w.heap.size ∧ ∀ j (hj : j < ss.length), w.cell? ⟨g, j, none⟩ = some (.string ss[j])) (hT : Lib.Utf8Tabs 1 2 w) :
    Calls Tryz.prog 33 #[.slice a ss.length cap, .func (.func 83) #[] #[]] w fun e w' => e = .returned (.bool (ss.any noName)) ∧ Below w.heap.size w w' := by
  have c := implIndexN ss a cap w hlen hz hc hT
  clear hc hT hz
  go_enter Tryz.func33, Tryz.ntmps33
  go_wp2_with (go_at_call 68; go_must (refine c.mono ?_; rintro e w1 ⟨⟨r, rfl, hr⟩, hb1⟩))
  go_ret
  refine ⟨congrArg (fun b => Ending.returned (Value.bool b)) ?_, hb1⟩
  rw [← hr]

set_option maxRecDepth 100000 in
theorem implNames (ss : List ByteArray) (a : Option Addr) (cap : Nat) (w : World) (hlen : ss.length ≤ 1000000) (hz : ∀ s ∈ ss, s.size ≤ 1048576) (hc : 0 < ss.length → ∃ g, a = some ⟨g, 0, none⟩ ∧ g < w.heap.size ∧ ∀ j (hj : j < ss.length), w.cell? ⟨g, j, none⟩ = some (.string ss[j])) (hT : Lib.Utf8Tabs 1 2 w) :
    Calls Tryz.prog 55 #[.slice a ss.length cap] w fun e w' => e = .returned (.bool (ss.all (nameOK))) ∧ Below w.heap.size w w' := by
  have c := implContainsN ss a cap w hlen hz hc hT
  have hn : ss.all (nameOK) = !(ss.any noName) := by rw [List.all_eq_not_any_not]; rfl
  rw [hn]
  obtain ⟨b, hb⟩ : ∃ b, ss.any noName = b := ⟨_, rfl⟩
  rw [hb] at c ⊢
  clear hb hn hT hc hz
  go_enter Tryz.func55, Tryz.ntmps55
  go_wp2_with (go_at_call 33; go_must (refine c.mono ?_; rintro e w1 ⟨rfl, hb1⟩))
  go_ret
  exact ⟨by simp, hb1⟩

/-- strings.SplitN at a point into five. -/
theorem info9s : (Tryz.prog.info? 9).map (fun i => (i.zero, i.size, i.bytes)) = some (some (.string ByteArray.empty), 1, 16) := by kernel_rfl
theorem implGen (s : ByteArray) (hz : s.size ≤ 1048576) (w : World) :
    Calls Tryz.prog 106 #[.string s, .string ⟨#[46]⟩, .int .i64 0, .int .i64 5] w fun e w' =>
      e = .returned (.slice (some ⟨w.heap.size, 0, none⟩) (Lib.splitB ⟨#[46]⟩ 0 (min 5 (s.size + 1) - 1) s).length (min 5 (s.size + 1))) ∧ w' = w.alloc (.cells (Lib.cellsOf (Lib.splitB ⟨#[46]⟩ 0 (min 5 (s.size + 1) - 1) s) (min 5 (s.size + 1))) 9) := by
  refine Any.strings_genSplit_core Tryz.lays221 info9s s ⟨#[46]⟩ 0 5 (min 5 (s.size + 1)) w (by omega) (by decide) (by decide) (fun x c hx => ?_) ?_ (by decide) (by decide) ?_
  · refine (Tryz.strings_Index_one x 46 _).mono ?_
    rintro e w' ⟨rfl, rfl⟩
    refine ⟨?_, rfl⟩
    rw [show Lib.indexB x ⟨#[46]⟩ = Lib.indexByte x.data.toList 46 from Lib.index_one _ _]
  · refine (Tryz.strings_Count_one s 46 w).mono ?_
    rintro e w' ⟨rfl, rfl⟩
    refine ⟨?_, rfl⟩
    rw [show Lib.countB s ⟨#[46]⟩ = Lib.countByte s.data.toList 46 from Lib.count_one _ _]
  · rw [if_neg (by decide)]; omega
set_option maxRecDepth 100000 in
theorem implSplit (s : ByteArray) (hz : s.size ≤ 1048576) (w : World) :
    Calls Tryz.prog 86 #[.string s, .string ⟨#[46]⟩, .int .i64 5] w fun e w' =>
      e = .returned (.slice (some ⟨w.heap.size, 0, none⟩) (Lib.splitB ⟨#[46]⟩ 0 (min 5 (s.size + 1) - 1) s).length (min 5 (s.size + 1))) ∧ w' = w.alloc (.cells (Lib.cellsOf (Lib.splitB ⟨#[46]⟩ 0 (min 5 (s.size + 1) - 1) s) (min 5 (s.size + 1))) 9) := by
  have c := implGen s hz w
  go_enter Tryz.func86, Tryz.ntmps86
  go_wp2_with (go_at_call 106; go_must (refine c.mono ?_; rintro e w' ⟨rfl, rfl⟩))
  go_ret
  exact ⟨rfl, rfl⟩
theorem split_small (sep : ByteArray) (sv : Nat) : ∀ (k : Nat) (s : ByteArray), ∀ x ∈ Lib.splitB sep sv k s, x.size ≤ s.size
  | 0, s => by
    intro x hx
    rw [Lib.splitB_zero] at hx
    simp at hx; subst hx; exact Nat.le_refl _
  | k + 1, s => by
    intro x hx
    unfold Lib.splitB at hx
    split at hx
    · simp at hx; subst hx; exact Nat.le_refl _
    · rcases List.mem_cons.1 hx with rfl | hx
      · simp only [ByteArray.size_extract]; omega
      · have := split_small sep sv k _ x hx
        simp only [ByteArray.size_extract] at this
        omega
theorem cells_split (w : World) (ps : List ByteArray) (N : Nat) (e : TypeId) (h : ps.length ≤ N) : ∀ j (hj : j < ps.length), (w.alloc (.cells (Lib.cellsOf ps N) e)).cell? ⟨w.heap.size, j, none⟩ = some (.string ps[j]) := by
  intro j hj
  have hb : Blk (w.alloc (.cells (Lib.cellsOf ps N) e)) w.heap.size e (Lib.cellsOf ps N) := heap_alloc_last w _
  rw [hb.cell]
  unfold Lib.cellsOf
  rw [List.getElem?_toArray, List.getElem?_append_left (by simpa using hj), List.getElem?_map, List.getElem?_eq_getElem hj]
  rfl
set_option maxRecDepth 100000 in
theorem implIsPath (s : ByteArray) (hz : s.size ≤ 1048576) (w : World) (hT : Lib.Utf8Tabs 1 2 w) : Calls Tryz.prog 58 #[.agg #[.string s]] w fun e w' => e = .returned (.bool (pathB nameOK s)) ∧ Below w.heap.size w w' := by
  have hw1 : ∀ o, Below w.heap.size w (w.alloc o) := fun o => (Below.refl _ w).alloc (Nat.le_refl _) _
  have cs := fun w => implSplit s hz w
  have hps := path_split s
  have hsm := fun x hx => Nat.le_trans (split_small ⟨#[46]⟩ 0 (min 5 (s.size + 1) - 1) s x hx) hz
  have hl := Lib.splitB_length_le ⟨#[46]⟩ 0 (min 5 (s.size + 1) - 1) s
  obtain ⟨ps, hp⟩ : ∃ ps, Lib.splitB ⟨#[46]⟩ 0 (min 5 (s.size + 1) - 1) s = ps := ⟨_, rfl⟩
  obtain ⟨K, hK⟩ : ∃ K, min 5 (s.size + 1) = K := ⟨_, rfl⟩
  rw [hp] at hps hsm hl
  simp only [hp] at cs
  rw [hK] at hl
  simp only [hK] at cs
  have hK1 : ps.length ≤ K := by omega
  have cn := fun w1 (hT1 : Lib.Utf8Tabs 1 2 w1) => implNames ps (some ⟨w1.heap.size, 0, none⟩) K (w1.alloc (.cells (Lib.cellsOf ps K) 9)) (by omega) hsm (fun _ => ⟨_, rfl, by simp, cells_split w1 ps K _ hK1⟩) (Utf8Tabs_below hT1 ((Below.refl _ w1).alloc (Nat.le_refl _) _))
  rw [hps] at cn
  have hT2 : Lib.Utf8Tabs 1 2 (w.alloc (.cells #[.string s] 74)) := Utf8Tabs_below hT (hw1 _)
  have cn' := cn _ hT2
  rw [World.size_alloc] at cn'
  obtain ⟨b, hb⟩ : ∃ b, pathB nameOK s = b := ⟨_, rfl⟩
  rw [hb] at cn' ⊢
  clear hb cn hT hT2 hps hsm hl hp hK hK1
  go_enter Tryz.func58, Tryz.ntmps58
  go_wp2_with (first
    | (go_at_call 86; go_must (refine (cs _).mono ?_; rintro e w1 ⟨rfl, rfl⟩; simp only [World.size_alloc]))
    | (go_at_call 55; go_must (refine cn'.mono ?_; rintro e w2 ⟨rfl, hb2⟩)))
  go_ret
  exact ⟨rfl, good_below ((hw1 _).alloc (by simp) _) hb2⟩

def noPath (s : ByteArray) : Bool := !pathB nameOK s
set_option maxRecDepth 100000 in
theorem implNoPath (s : ByteArray) (hz : s.size ≤ 1048576) (w : World) (hT : Lib.Utf8Tabs 1 2 w) : Calls Tryz.prog 57 #[.string s] w fun e w' => e = .returned (.bool (noPath s)) ∧ Below w.heap.size w w' := by
  have cn := implIsPath s hz w hT
  clear hT
  unfold noPath
  obtain ⟨b, hb⟩ : ∃ b, pathB nameOK s = b := ⟨_, rfl⟩
  rw [hb] at cn ⊢
  clear hb
  go_enter Tryz.func57, Tryz.ntmps57
  go_wp2_with (go_at_call 58; go_must (refine cn.mono ?_; rintro e w1 ⟨rfl, hb1⟩))
  go_ret
  exact ⟨by simp, hb1⟩

set_option maxRecDepth 100000 in
set_option maxHeartbeats 1000000 in
theorem implIndexP (ss : List ByteArray) (a : Option Addr) (cap : Nat) (w : World) (hlen : ss.length ≤ 1000000) (hz : ∀ s ∈ ss, s.size ≤ 1048576) (hc : 0 < ss.length → ∃ g, a = some ⟨g, 0, none⟩ ∧ g < w.heap.size ∧ ∀ j (hj : j < ss.length), w.cell? ⟨g, j, none⟩ = some (.string ss[j])) (hT : Lib.Utf8Tabs 1 2 w) :
    Calls Tryz.prog 68 #[.slice a ss.length cap, .func (.func 57) #[] #[]] w fun e w' => (∃ r : Int, e = .returned (.int .i64 r) ∧ decide (0 ≤ r) = ss.any noPath) ∧ Below w.heap.size w w' := by
  have HC : Hid (0 < ss.length → ∃ g, a = some ⟨g, 0, none⟩ ∧ g < w.heap.size ∧ ∀ j (hj : j < ss.length), w.cell? ⟨g, j, none⟩ = some (.string ss[j])) := hc
  have HZ : Hid (∀ s ∈ ss, s.size ≤ 1048576) := hz
  have HT : Hid (Lib.Utf8Tabs 1 2 w) := hT
  have hlen' : (ss.length : Int) ≤ 1000000 := by omega
  clear hc hT hz
  go_enter Tryz.func68, Tryz.ntmps68
  go_wp2_with fail
  go_loopw [8] (fun i8 wr => ∃ (k : Nat), i8 = .int .i64 (k : Int) ∧ k ≤ ss.length ∧ (ss.take k).any noPath = false ∧ Below w.heap.size w wr) (fun i8 _ => ss.length - (intOf i8).toNat)
  case atStart => exact ⟨0, rfl, by omega, by simp, Below.refl _ _⟩
  case round =>
    obtain ⟨k, rfl, hk, hany, hb⟩ := hrel
    have HA : Hid ((ss.take k).any noPath = false) := hany
    clear hany
    by_cases hkn : k < ss.length
    · have hkn' : (k : Int) < (ss.length : Int) := by omega
      obtain ⟨g, rfl, hg, hcell⟩ := HC.out (by omega)
      have x1 := hcell k hkn
      have z1 := HZ.out ss[k] (List.getElem_mem hkn)
      obtain ⟨x, hx⟩ : ∃ x, ss[k] = x := ⟨_, rfl⟩
      have HX : Hid (ss[k] = x) := hx
      rw [hx] at x1 z1
      clear hx hcell
      have d1 := (hb.cell (p := ⟨g, k, none⟩) hg).trans x1
      have cn := implNoPath x z1 wr (Utf8Tabs_below HT.out hb)
      obtain ⟨B1, hB1⟩ : ∃ B1, noPath x = B1 := ⟨_, rfl⟩
      rw [hB1] at cn
      have HB1 : Hid (noPath x = B1) := hB1
      clear hB1
      cases B1
      · go_wp2_with (go_at_call 57; go_must (refine cn.mono ?_; rintro e w1 ⟨rfl, hb1⟩))
        exact ⟨⟨k + 1, rfl, by omega, any_takeW ss _ k hkn HA.out (by rw [HX.out]; exact HB1.out), good_below hb hb1⟩, by simp [intOf]; omega⟩
      · go_wp2_with (go_at_call 57; go_must (refine cn.mono ?_; rintro e w1 ⟨rfl, hb1⟩))
        go_ret
        refine ⟨⟨_, rfl, ?_⟩, good_below hb hb1⟩
        rw [List.any_eq_true.2 ⟨ss[k], List.getElem_mem hkn, by rw [HX.out]; exact HB1.out⟩]
        simp
    · have hkn' : ¬ ((k : Int) < (ss.length : Int)) := by omega
      have hA := HA.out
      rw [List.take_of_length_le (by omega)] at hA
      go_wp2_with fail
      go_ret
      refine ⟨⟨_, rfl, ?_⟩, hb⟩
      first
        | (rw [hA]; rfl)
        | omega
set_option maxRecDepth 100000 in
theorem implContainsP (ss : List ByteArray) (a : Option Addr) (cap : Nat) (w : World) (hlen : ss.length ≤ 1000000) (hz : ∀ s ∈ ss, s.size ≤ 1048576) (hc : 0 < ss.length → ∃ g, a = some ⟨g, 0, none⟩ ∧ g < w.heap.size ∧ ∀ j (hj : j < ss.length), w.cell? ⟨g, j, none⟩ = some (.string ss[j])) (hT : Lib.Utf8Tabs 1 2 w) :
    Calls Tryz.prog 33 #[.slice a ss.length cap, .func (.func 57) #[] #[]] w fun e w' => e = .returned (.bool (ss.any noPath)) ∧ Below w.heap.size w w' := by
  have c := implIndexP ss a cap w hlen hz hc hT
  clear hc hT hz
  go_enter Tryz.func33, Tryz.ntmps33
  go_wp2_with (go_at_call 68; go_must (refine c.mono ?_; rintro e w1 ⟨⟨r, rfl, hr⟩, hb1⟩))
  go_ret
  refine ⟨congrArg (fun b => Ending.returned (Value.bool b)) ?_, hb1⟩
  rw [← hr]

set_option maxRecDepth 100000 in
theorem implPaths (ss : List ByteArray) (a : Option Addr) (cap : Nat) (w : World) (hlen : ss.length ≤ 1000000) (hz : ∀ s ∈ ss, s.size ≤ 1048576) (hc : 0 < ss.length → ∃ g, a = some ⟨g, 0, none⟩ ∧ g < w.heap.size ∧ ∀ j (hj : j < ss.length), w.cell? ⟨g, j, none⟩ = some (.string ss[j])) (hT : Lib.Utf8Tabs 1 2 w) :
    Calls Tryz.prog 28 #[.slice a ss.length cap] w fun e w' => e = .returned (.bool (ss.all (pathB nameOK))) ∧ Below w.heap.size w w' := by
  have c := implContainsP ss a cap w hlen hz hc hT
  have hn : ss.all (pathB nameOK) = !(ss.any noPath) := by rw [List.all_eq_not_any_not]; rfl
  rw [hn]
  obtain ⟨b, hb⟩ : ∃ b, ss.any noPath = b := ⟨_, rfl⟩
  rw [hb] at c ⊢
  clear hb hn hT hc hz
  go_enter Tryz.func28, Tryz.ntmps28
  go_wp2_with (go_at_call 33; go_must (refine c.mono ?_; rintro e w1 ⟨rfl, hb1⟩))
  go_ret
  exact ⟨by simp, hb1⟩

set_option maxRecDepth 100000 in
theorem implSingle (ss : List ByteArray) (a : Option Addr) (cap : Nat) (w : World) (hlen : ss.length ≤ 1000000) (hz : ∀ s ∈ ss, s.size ≤ 1048576) (hc : 0 < ss.length → ∃ g, a = some ⟨g, 0, none⟩ ∧ g < w.heap.size ∧ ∀ j (hj : j < ss.length), w.cell? ⟨g, j, none⟩ = some (.string ss[j])) :
    Calls Tryz.prog 56 #[.slice a ss.length cap] w fun e w' => e = .returned (.bool (!dupFrom ss [])) ∧ Below w.heap.size w w' := by
  have c := implTwice ss a cap w hlen hz hc
  obtain ⟨b, hb⟩ : ∃ b, dupFrom ss [] = b := ⟨_, rfl⟩
  rw [hb] at c ⊢
  clear hb hc hz
  go_enter Tryz.func56, Tryz.ntmps56
  go_wp2_with (go_at_call 85; go_must (refine c.mono ?_; rintro e w1 ⟨⟨t, rfl⟩, hb1⟩))
  go_ret
  exact ⟨by simp, hb1⟩
set_option maxRecDepth 100000 in
theorem implLong (s : ByteArray) (hz : s.size ≤ 1048576) (w : World) : Calls Tryz.prog 82 #[.string s] w fun e w' => e = .returned (.bool (!decide (s.size ≤ 200))) ∧ w' = w := by
  have hz' : (s.size : Int) ≤ 1048576 := by omega
  go_enter Tryz.func82, Tryz.ntmps82
  go_wp2_with fail
  go_ret
  refine ⟨congrArg (fun b => Ending.returned (Value.bool b)) ?_, rfl⟩
  by_cases h : s.size ≤ 200
  · simp [h]; omega
  · simp [h]; omega
end Go.Proofs.YtphocibgfdihoaaGreatDoor

namespace Go.Proofs.YtphocibgfdihoaaGreatDoor
open Go.ChangeShapes Go.WideShapes Go.ChangeAt Go.RowKit
set_option linter.unusedVariables false

def lessL (x y : LayV) : Bool := decide (x.x.rank < y.x.rank) || (x.x.rank == y.x.rank && Go.Op.bytesLess x.x.name.toList y.x.name.toList)
/-- Where a layer is put, going down from a place. -/
def posUp (out : List LayV) (y : LayV) : Nat → Nat
  | 0 => 0
  | k + 1 => match out[k]? with
    | some z => if lessL y z then posUp out y k else k + 1
    | none => k + 1
def posN (out : List LayV) (y : LayV) : Nat := posUp out y out.length
def overStep (out : List LayV) (y : LayV) : List LayV := (out.take (posN out y) ++ [y]) ++ out.drop (posN out y)
def overF (lv : List LayV) : List LayV := lv.foldl overStep []

set_option maxRecDepth 100000 in
set_option maxHeartbeats 4000000 in
theorem specOver {S : Nat → Prop} {lv : List LayV} {v : Value} {w : World} (hS : ∀ b, S b → b < w.heap.size) (h : LayVsAt S w v lv) (hone : LayVsOne lv) (hsl : ∀ x ∈ lv, ∃ a n c, x.nv = .slice a n c) (hl : lv.length ≤ 20) :
    Calls Tryz.prog 45 #[v] w fun e w' => (∃ p, e = .returned p ∧ OwnLayVs w.heap.size w' p (overF lv)) ∧ Below w.heap.size w w' := by
  obtain ⟨_, a, cap, rfl, hc⟩ := h
  have HC : Hid _ := hc
  have HS : Hid (∀ b, S b → b < w.heap.size) := hS
  have HONE : Hid (LayVsOne lv) := hone
  have HSL : Hid (∀ x ∈ lv, ∃ a n c, x.nv = .slice a n c) := hsl
  have hl' : (lv.length : Int) ≤ 20 := by omega
  unfold overF
  obtain ⟨F, hF⟩ : ∃ F, lv.foldl overStep [] = F := ⟨_, rfl⟩
  have HF : Hid (lv.foldl overStep [] = F) := hF
  rw [hF]
  clear hF hc hS hone hsl
  have HE : Hid (OwnLayVs w.heap.size (w.alloc (.cells #[] 59)) (.slice (some ⟨w.heap.size, 0, none⟩) 0 0) []) := OwnLayVs.empty w.heap.size w (Nat.le_refl _)
  go_enter Tryz.func45, Tryz.ntmps45
  go_wp2_with fail
  go_loopw [3, 4] (fun i3 i4 wr => ∃ (k g cp : Nat) (out : List LayV), i4 = .int .i64 (k : Int) ∧ i3 = .slice (some ⟨g, 0, none⟩) out.length cp ∧ k ≤ lv.length ∧ out.length = k ∧ OwnLayVs w.heap.size wr (.slice (some ⟨g, 0, none⟩) out.length cp) out ∧ LayVsOne out ∧ (lv.drop k).foldl overStep out = F ∧ Below w.heap.size w wr) (fun _ i4 _ => lv.length - (intOf i4).toNat)
  case atStart => exact ⟨0, w.heap.size, 0, [], rfl, rfl, by omega, rfl, HE.out, fun x hx => (by cases hx), HF.out, (Below.refl _ w).alloc (Nat.le_refl _) _⟩
  case round =>
    obtain ⟨k, g, cp, out, rfl, rfl, hk, hok, hown, hon, hfold, hb⟩ := hrel
    obtain ⟨wo, hwo⟩ : ∃ wo, wo = wr := ⟨_, rfl⟩
    subst hwo
    have HOW : Hid (OwnLayVs w.heap.size wo (.slice (some ⟨g, 0, none⟩) out.length cp) out) := hown
    have HFO : Hid ((lv.drop k).foldl overStep out = F) := hfold
    have HON : Hid (LayVsOne out) := hon
    have HBL : Hid (Below w.heap.size w wo) := hb
    have HKK : Hid (out.length = k) := hok
    have hol : (out.length : Int) ≤ 20 := by omega
    clear hfold hon hok
    by_cases hkn : k < lv.length
    · have hkn' : (k : Int) < (lv.length : Int) := by omega
      obtain ⟨b, off, rfl, hbS, hcell⟩ := HC.out (by omega)
      have hbw := HS.out b hbS
      obtain ⟨c0, c1, c2⟩ := hcell k hkn
      have hnx : (lv.drop (k + 1)).foldl overStep (overStep out lv[k]) = F := by
        have := HFO.out
        rw [List.drop_eq_getElem_cons hkn, List.foldl_cons] at this
        exact this
      have hy1 := HONE.out lv[k] (List.getElem_mem hkn)
      have hy2 := HSL.out lv[k] (List.getElem_mem hkn)
      obtain ⟨y, hy⟩ : ∃ y, lv[k] = y := ⟨_, rfl⟩
      rw [hy] at c0 c1 c2 hnx hy1 hy2
      obtain ⟨⟨yn, yr, ye⟩, yv⟩ := y
      dsimp only at c0 c1 c2 hy1 hy2
      obtain ⟨ya, yl, yc, hyv⟩ := hy2
      subst hyv
      have HNX : Hid ((lv.drop (k + 1)).foldl overStep (overStep out ⟨⟨yn, yr, ye⟩, .slice ya yl yc⟩) = F) := hnx
      have C0 : Hid (w.cell? ⟨b, off + k * 3, none⟩ = some (.string yn)) := c0
      have C1 : Hid (w.cell? ⟨b, off + k * 3 + 1, none⟩ = some (.int .i64 yr)) := c1
      have C2 : Hid (w.cell? ⟨b, off + k * 3 + 2, none⟩ = some (.slice ya yl yc)) := c2
      have HY1 : Hid ((Value.slice ya yl yc).oneCell' = true) := hy1
      have hlt := hown.lt
      clear hnx hy hcell HFO c0 c1 c2 hy1 hown
      go_upto_block 2 with fail
      go_cut [5] from 16 to 61 (fun s5 wx => ∃ j : Nat, s5 = .int .i64 (j : Int) ∧ j ≤ out.length ∧ posN out ⟨⟨yn, yr, ye⟩, .slice ya yl yc⟩ = j ∧ Below wo.heap.size wo wx)
      case first =>
        obtain ⟨Pn, hPn⟩ : ∃ Pn, posN out ⟨⟨yn, yr, ye⟩, .slice ya yl yc⟩ = Pn := ⟨_, rfl⟩
        have HPN : Hid (posN out ⟨⟨yn, yr, ye⟩, .slice ya yl yc⟩ = Pn) := hPn
        clear hPn
        go_wp2_with fail
        go_loopw [5] (fun i5 wz => ∃ j : Nat, i5 = .int .i64 (j : Int) ∧ j ≤ out.length ∧ posUp out ⟨⟨yn, yr, ye⟩, .slice ya yl yc⟩ j = Pn ∧ Below wo.heap.size wo wz) (fun i5 _ => (intOf i5).toNat)
        case atStart => exact ⟨out.length, rfl, by omega, HPN.out, Below.refl _ _⟩
        case round =>
          obtain ⟨j, rfl, hj, hpo, hbz⟩ := hrel
          have HPO : Hid (posUp out ⟨⟨yn, yr, ye⟩, .slice ya yl yc⟩ j = Pn) := hpo
          clear hpo
          cases j with
          | zero =>
            go_upto_region 6 with fail
            go_quiet (fail)
            go_wp2_with fail
            go_meet
            exact ⟨0, rfl, by omega, HPN.out.trans HPO.out.symm, bel_drewN hbz nq⟩
          | succ j =>
            have hjl : j < out.length := by omega
            have hjl' : (j : Int) < (out.length : Int) := by omega
            have hj1 : ((j + 1 : Nat) : Int) - 1 = (j : Int) := by omega
            have hj2 : (0 : Int) < ((j + 1 : Nat) : Int) := by omega
            have hbw2 := good_below HBL.out hbz
            have d0 := (hbw2.cell (p := ⟨b, off + k * 3, none⟩) hbw).trans C0.out
            have d1 := (hbw2.cell (p := ⟨b, off + k * 3 + 1, none⟩) hbw).trans C1.out
            obtain ⟨z0, z1, _⟩ := (HOW.out.below hbz).cells j hjl
            have hstep : posUp out ⟨⟨yn, yr, ye⟩, .slice ya yl yc⟩ (j + 1) = if lessL ⟨⟨yn, yr, ye⟩, .slice ya yl yc⟩ out[j] then posUp out ⟨⟨yn, yr, ye⟩, .slice ya yl yc⟩ j else j + 1 := by
              conv => lhs; unfold posUp
              rw [List.getElem?_eq_getElem hjl]
            obtain ⟨z, hz⟩ : ∃ z, out[j] = z := ⟨_, rfl⟩
            rw [hz] at z0 z1 hstep
            obtain ⟨⟨zn, zr, ze⟩, zv⟩ := z
            dsimp only at z0 z1
            have HST : Hid (posUp out ⟨⟨yn, yr, ye⟩, .slice ya yl yc⟩ (j + 1) = if lessL ⟨⟨yn, yr, ye⟩, .slice ya yl yc⟩ ⟨⟨zn, zr, ze⟩, zv⟩ then posUp out ⟨⟨yn, yr, ye⟩, .slice ya yl yc⟩ j else j + 1) := hstep
            clear hz hstep
            by_cases hlt1 : yr < zr
            · go_upto_region 6 with fail
              go_quiet (fail)
              go_wp2_with fail
              refine ⟨⟨j, rfl, by omega, ?_, bel_drewN hbz nq⟩, by simp [intOf]⟩
              rw [← HPO.out, HST.out, if_pos (by unfold lessL; simp [hlt1])]
            · by_cases heq : yr = zr
              · subst heq
                cases hless : Go.Op.bytesLess yn.toList zn.toList
                · go_upto_region 6 with fail
                  go_quiet (fail)
                  go_wp2_with fail
                  go_meet
                  refine ⟨j + 1, rfl, by omega, ?_, bel_drewN hbz nq⟩
                  rw [HPN.out, ← HPO.out, HST.out, if_neg (by unfold lessL; simp [hless])]
                · go_upto_region 6 with fail
                  go_quiet (fail)
                  go_wp2_with fail
                  refine ⟨⟨j, rfl, by omega, ?_, bel_drewN hbz nq⟩, by simp [intOf]⟩
                  rw [← HPO.out, HST.out, if_pos (by unfold lessL; simp [hless])]
              · have heq' : (yr == zr) = false := by simpa using heq
                go_upto_region 6 with fail
                go_quiet (fail)
                go_wp2_with fail
                go_meet
                refine ⟨j + 1, rfl, by omega, ?_, bel_drewN hbz nq⟩
                rw [HPN.out, ← HPO.out, HST.out, if_neg (by unfold lessL; simp [hlt1, heq])]
      case rest =>
        obtain ⟨j, rfl, hj, hpos, hbz⟩ := hcut
        have HPOS : Hid (posN out ⟨⟨yn, yr, ye⟩, .slice ya yl yc⟩ = j) := hpos
        obtain ⟨wD, hwD⟩ : ∃ wD, wD = wc := ⟨_, rfl⟩
        subst hwD
        have hcp1 : (j : Int) ≤ (cp : Int) := by omega
        have hcp2 : (cp : Int) ≤ 9223372036854775807 := by have := hlt.2.2.2.1; simp [maxLen] at this; omega
        have hj' : (j : Int) ≤ (out.length : Int) := by omega
        have hlcp : (out.length : Int) ≤ (cp : Int) := by omega
        have hbwD := good_below HBL.out hbz
        have HOD : Hid (OwnLayVs w.heap.size wD (.slice (some ⟨g, 0, none⟩) out.length cp) out) := HOW.out.below hbz
        have hdon : LayVsOne (out.drop j) := fun x hx => HON.out x (List.mem_of_mem_drop hx)
        have HDON : Hid (LayVsOne (out.drop j)) := hdon
        clear hpos hdon
        by_cases hcpj : cp = j
        · subst hcpj
          have HD : Hid (out.drop cp = []) := (show out.drop cp = [] from by rw [List.drop_eq_nil_iff]; omega)
          have HDON0 : Hid (LayVsOne ([] : List LayV)) := fun x hx => by cases hx
          go_upto_region 8 with fail
          go_cut [6] from 62 to 66 (fun s6 wx => (∃ g6 c6, s6 = .slice (some ⟨g6, 0, none⟩) 0 c6 ∧ wD.heap.size ≤ g6 ∧ OwnLayVs wD.heap.size wx (.slice (some ⟨g6, 0, none⟩) 0 c6) []) ∧ Below wD.heap.size wD wx)
          case first =>
            have HE2 : Hid (OwnLayVs wD.heap.size (wD.alloc (.cells #[] 59)) (.slice (some ⟨wD.heap.size, 0, none⟩) 0 0) []) := OwnLayVs.empty wD.heap.size wD (Nat.le_refl _)
            go_wp2_with (at_builtin; go_must (refine wpList_appendLayVs rfl (.tmp 62) (.tmp 65) rfl wD.heap.size (.slice (some ⟨wD.heap.size, 0, none⟩) 0 0) [] rfl HE2.out (.slice (some ⟨g, 0, none⟩) 0 0) [] rfl (S := fun _ => True) ⟨by simp [maxLen], _, _, rfl, fun h => absurd h (by simp)⟩ (by simp) (by simp) HDON0.out ?_; intro v4 w4 hown4 hB4 hgr4 hnil4; obtain ⟨g4, c4, rfl, hg4⟩ := hown4.solid (fun e => by have := hnil4 e; simp at this)))
            go_meet
            refine ⟨⟨g4, c4, by simp, hg4, ?_⟩, ((Below.refl _ wD).alloc (Nat.le_refl _) _).trans hB4⟩
            simpa using hown4
          case rest =>
            obtain ⟨⟨g6, c6, rfl, hg6, hn6⟩, hb6⟩ := hcut
            obtain ⟨wE, hwE⟩ : ∃ wE, wE = wc := ⟨_, rfl⟩
            subst hwE
            have hbE := good_below hbwD hb6
            have d0 := (hbE.cell (p := ⟨b, off + k * 3, none⟩) hbw).trans C0.out
            have d1 := (hbE.cell (p := ⟨b, off + k * 3 + 1, none⟩) hbw).trans C1.out
            have d2 := (hbE.cell (p := ⟨b, off + k * 3 + 2, none⟩) hbw).trans C2.out
            have HT : Hid (OwnLayVs w.heap.size wE (.slice (some ⟨g, 0, none⟩) cp cp) (out.take cp)) := OwnLayVs.take (OwnLayVs.below HOD.out hb6) cp hj
            have HN6 : Hid (OwnLayVs wD.heap.size wE (.slice (some ⟨g6, 0, none⟩) 0 c6) []) := hn6
            have HG6 : Hid (g6 ≠ g) := fun e => by have := hbz.size; have := hlt.1; omega
            have hst : overStep out ⟨⟨yn, yr, ye⟩, .slice ya yl yc⟩ = (out.take cp ++ [(⟨⟨yn, yr, ye⟩, .slice ya yl yc⟩ : LayV)]) ++ [] := by unfold overStep; rw [HPOS.out, HD.out]
            have HST : Hid (overStep out ⟨⟨yn, yr, ye⟩, .slice ya yl yc⟩ = (out.take cp ++ [(⟨⟨yn, yr, ye⟩, .slice ya yl yc⟩ : LayV)]) ++ []) := hst
            have hsl : ((out.take cp ++ [(⟨⟨yn, yr, ye⟩, .slice ya yl yc⟩ : LayV)]) ++ []).length = out.length + 1 := by simp; omega
            have HSL2 : Hid (((out.take cp ++ [(⟨⟨yn, yr, ye⟩, .slice ya yl yc⟩ : LayV)]) ++ []).length = out.length + 1) := hsl
            have HBE : Hid (Below w.heap.size w wE) := hbE
            have hws : w.heap.size ≤ wE.heap.size := hbE.size
            have hone1 : LayVsOne [(⟨⟨yn, yr, ye⟩, .slice ya yl yc⟩ : LayV)] := fun x hx => by simp at hx; subst hx; exact HY1.out
            have HO1 : Hid (LayVsOne [(⟨⟨yn, yr, ye⟩, .slice ya yl yc⟩ : LayV)]) := hone1
            have HON2 : Hid (LayVsOne ((out.take cp ++ [(⟨⟨yn, yr, ye⟩, .slice ya yl yc⟩ : LayV)]) ++ [])) := fun x hx => by
              rcases List.mem_append.1 hx with q | q
              · rcases List.mem_append.1 q with q | q
                · exact HON.out x (List.mem_of_mem_take q)
                · exact HO1.out x q
              · exact HDON0.out x q
            clear hn6 hst hsl hone1 hbz hbE hb
            go_upto_region 9 with fail
            go_region_law (first
              | (refine step_appendLayVs rfl (.tmp 69) (.tmp 74) rfl w.heap.size (.slice (some ⟨g, 0, none⟩) cp cp) (out.take cp) (by simp [Act.eval]) (OwnLayVs.below HT.out (((Below.refl _ wE).alloc (Nat.le_refl _) _).drew)) (.slice (some ⟨wE.heap.size, 0, none⟩) 1 1) [(⟨⟨yn, yr, ye⟩, .slice ya yl yc⟩ : LayV)] (by simp [Act.eval]) ((LayVsAt.new wE ⟨⟨yn, yr, ye⟩, .slice ya yl yc⟩).keep (fun b i _ => rfl)) (by simp; omega) (by simp; omega) HO1.out ?_; intro va vn vc w5 hown5 hB5 hgr5 hnil5; have hn5 := (OwnLayVs.below HN6.out (((Below.refl _ wE).alloc (Nat.le_refl _) (.cells #[.string yn, .int .i64 yr, .slice ya yl yc] 59)).drew)).kept hgr5 (.inr (by simp [Value.ownBlock]; exact HG6.out)); have hB5' := ((HBE.out.alloc hws (.cells #[.string yn, .int .i64 yr, .slice ya yl yc] 59)).drew).trans hB5)
              | (refine step_appendLayVs rfl (.tmp 75) (.tmp 76) rfl w.heap.size (.slice va vn vc) (out.take cp ++ [(⟨⟨yn, yr, ye⟩, .slice ya yl yc⟩ : LayV)]) (by simp [Act.eval]) hown5 (.slice (some ⟨g6, 0, none⟩) 0 c6) [] (by simp [Act.eval]) hn5.at (by simp; omega) hB5'.size HDON0.out ?_; intro va6 vn6 vc6 w6 hown6 hB6 hgr6 hnil6; obtain ⟨g7, c7, e7, hg7⟩ := hown6.solid (fun e => by have := hnil5 (hnil6 e); simp at this); rw [HSL2.out] at e7; simp only [Value.slice.injEq] at e7; obtain ⟨rfl, rfl, rfl⟩ := e7; have hB6' := hB5'.trans hB6))
            all_goals
              go_wp2_with fail
              exact ⟨⟨k + 1, g7, vc6, (out.take cp ++ [(⟨⟨yn, yr, ye⟩, .slice ya yl yc⟩ : LayV)]) ++ [], rfl, by rw [HSL2.out], by omega, by rw [HSL2.out]; have := HKK.out; omega, by rw [HSL2.out]; exact hown6, HON2.out, by rw [← HST.out]; exact HNX.out, hB6'⟩, by simp [intOf]; omega⟩
        · go_upto_region 8 with fail
          go_cut [6] from 62 to 66 (fun s6 wx => (∃ g6 c6, s6 = .slice (some ⟨g6, 0, none⟩) (out.length - j) c6 ∧ wD.heap.size ≤ g6 ∧ OwnLayVs wD.heap.size wx (.slice (some ⟨g6, 0, none⟩) (out.length - j) c6) (out.drop j)) ∧ Below wD.heap.size wD wx)
          case first =>
            have HE2 : Hid (OwnLayVs wD.heap.size (wD.alloc (.cells #[] 59)) (.slice (some ⟨wD.heap.size, 0, none⟩) 0 0) []) := OwnLayVs.empty wD.heap.size wD (Nat.le_refl _)
            have hcpj2 : ¬ (j = cp) := fun e => hcpj e.symm
            go_wp2_with (at_builtin; go_must (refine wpList_appendLayVs rfl (.tmp 62) (.tmp 65) rfl wD.heap.size (.slice (some ⟨wD.heap.size, 0, none⟩) 0 0) [] rfl HE2.out _ (out.drop j) rfl (OwnLayVs.dropAt (OwnLayVs.below HOD.out ((Below.refl _ _).alloc (Nat.le_refl _) _)) j hj _) (by simp; omega) (by simp) HDON.out ?_; intro v4 w4 hown4 hB4 hgr4 hnil4; obtain ⟨g4, c4, rfl, hg4⟩ := hown4.solid (fun e => by have := hnil4 e; simp at this)))
            go_meet
            refine ⟨⟨g4, c4, by simp, hg4, ?_⟩, ((Below.refl _ wD).alloc (Nat.le_refl _) _).trans hB4⟩
            simpa using hown4
          case rest =>
            obtain ⟨⟨g6, c6, rfl, hg6, hn6⟩, hb6⟩ := hcut
            obtain ⟨wE, hwE⟩ : ∃ wE, wE = wc := ⟨_, rfl⟩
            subst hwE
            have hbE := good_below hbwD hb6
            have d0 := (hbE.cell (p := ⟨b, off + k * 3, none⟩) hbw).trans C0.out
            have d1 := (hbE.cell (p := ⟨b, off + k * 3 + 1, none⟩) hbw).trans C1.out
            have d2 := (hbE.cell (p := ⟨b, off + k * 3 + 2, none⟩) hbw).trans C2.out
            have HT : Hid (OwnLayVs w.heap.size wE (.slice (some ⟨g, 0, none⟩) j cp) (out.take j)) := OwnLayVs.take (OwnLayVs.below HOD.out hb6) j hj
            have HN6 : Hid (OwnLayVs wD.heap.size wE (.slice (some ⟨g6, 0, none⟩) (out.length - j) c6) (out.drop j)) := hn6
            have HG6 : Hid (g6 ≠ g) := fun e => by have := hbz.size; have := hlt.1; omega
            have hst : overStep out ⟨⟨yn, yr, ye⟩, .slice ya yl yc⟩ = (out.take j ++ [(⟨⟨yn, yr, ye⟩, .slice ya yl yc⟩ : LayV)]) ++ out.drop j := by unfold overStep; rw [HPOS.out]
            have HST : Hid (overStep out ⟨⟨yn, yr, ye⟩, .slice ya yl yc⟩ = (out.take j ++ [(⟨⟨yn, yr, ye⟩, .slice ya yl yc⟩ : LayV)]) ++ out.drop j) := hst
            have hsl : ((out.take j ++ [(⟨⟨yn, yr, ye⟩, .slice ya yl yc⟩ : LayV)]) ++ out.drop j).length = out.length + 1 := by simp; omega
            have HSL2 : Hid (((out.take j ++ [(⟨⟨yn, yr, ye⟩, .slice ya yl yc⟩ : LayV)]) ++ out.drop j).length = out.length + 1) := hsl
            have HBE : Hid (Below w.heap.size w wE) := hbE
            have hws : w.heap.size ≤ wE.heap.size := hbE.size
            have hone1 : LayVsOne [(⟨⟨yn, yr, ye⟩, .slice ya yl yc⟩ : LayV)] := fun x hx => by simp at hx; subst hx; exact HY1.out
            have HO1 : Hid (LayVsOne [(⟨⟨yn, yr, ye⟩, .slice ya yl yc⟩ : LayV)]) := hone1
            have HON2 : Hid (LayVsOne ((out.take j ++ [(⟨⟨yn, yr, ye⟩, .slice ya yl yc⟩ : LayV)]) ++ out.drop j)) := fun x hx => by
              rcases List.mem_append.1 hx with q | q
              · rcases List.mem_append.1 q with q | q
                · exact HON.out x (List.mem_of_mem_take q)
                · exact HO1.out x q
              · exact HDON.out x q
            clear hn6 hst hsl hone1 hbz hbE hb
            go_upto_region 9 with fail
            go_region_law (first
              | (refine step_appendLayVs rfl (.tmp 69) (.tmp 74) rfl w.heap.size (.slice (some ⟨g, 0, none⟩) j cp) (out.take j) (by simp [Act.eval]) (OwnLayVs.below HT.out (((Below.refl _ wE).alloc (Nat.le_refl _) _).drew)) (.slice (some ⟨wE.heap.size, 0, none⟩) 1 1) [(⟨⟨yn, yr, ye⟩, .slice ya yl yc⟩ : LayV)] (by simp [Act.eval]) ((LayVsAt.new wE ⟨⟨yn, yr, ye⟩, .slice ya yl yc⟩).keep (fun b i _ => rfl)) (by simp; omega) (by simp; omega) HO1.out ?_; intro va vn vc w5 hown5 hB5 hgr5 hnil5; have hn5 := (OwnLayVs.below HN6.out (((Below.refl _ wE).alloc (Nat.le_refl _) (.cells #[.string yn, .int .i64 yr, .slice ya yl yc] 59)).drew)).kept hgr5 (.inr (by simp [Value.ownBlock]; exact HG6.out)); have hB5' := ((HBE.out.alloc hws (.cells #[.string yn, .int .i64 yr, .slice ya yl yc] 59)).drew).trans hB5)
              | (refine step_appendLayVs rfl (.tmp 75) (.tmp 76) rfl w.heap.size (.slice va vn vc) (out.take j ++ [(⟨⟨yn, yr, ye⟩, .slice ya yl yc⟩ : LayV)]) (by simp [Act.eval]) hown5 (.slice (some ⟨g6, 0, none⟩) (out.length - j) c6) (out.drop j) (by simp [Act.eval]) hn5.at (by simp; omega) hB5'.size HDON.out ?_; intro va6 vn6 vc6 w6 hown6 hB6 hgr6 hnil6; obtain ⟨g7, c7, e7, hg7⟩ := hown6.solid (fun e => by have := hnil5 (hnil6 e); simp at this); rw [HSL2.out] at e7; simp only [Value.slice.injEq] at e7; obtain ⟨rfl, rfl, rfl⟩ := e7; have hB6' := hB5'.trans hB6))
            all_goals
              go_wp2_with fail
              exact ⟨⟨k + 1, g7, vc6, (out.take j ++ [(⟨⟨yn, yr, ye⟩, .slice ya yl yc⟩ : LayV)]) ++ out.drop j, rfl, by rw [HSL2.out], by omega, by rw [HSL2.out]; have := HKK.out; omega, by rw [HSL2.out]; exact hown6, HON2.out, by rw [← HST.out]; exact HNX.out, hB6'⟩, by simp [intOf]; omega⟩
    · obtain rfl : k = lv.length := by omega
      have hkn' : ¬ ((lv.length : Int) < (lv.length : Int)) := by omega
      have hfin := HFO.out
      simp at hfin
      subst hfin
      go_wp2_with fail
      go_ret
      exact ⟨⟨_, rfl, HOW.out⟩, hb⟩
end Go.Proofs.YtphocibgfdihoaaGreatDoor

namespace Go.Proofs.YtphocibgfdihoaaGreatDoor
open Go.ChangeShapes Go.WideShapes Go.ChangeAt Go.RowKit
set_option linter.unusedVariables false

def newS (e : Entry) (nm : ByteArray) : Setting := ⟨e.path, e.text, nm⟩
def hits (o : Setting) (e : Entry) : Bool := withinB o.path e.path || withinB e.path o.path
/-- What is left of the settings behind an entry, and whether it is put. -/
def restUp (out : List Setting) (e : Entry) (nm : ByteArray) : Nat → List Setting × Bool
  | 0 => ([], e.text.toList == [126])
  | j + 1 => match out[j]? with
    | none => restUp out e nm j
    | some o => bif hits o e then restUp out e nm j
      else bif !(restUp out e nm j).2 && Go.Op.bytesLess e.path.toList o.path.toList then (((restUp out e nm j).1 ++ [newS e nm]) ++ [o], true)
      else ((restUp out e nm j).1 ++ [o], (restUp out e nm j).2)
def layStep (nm : ByteArray) (out : List Setting) (e : Entry) : List Setting :=
  bif (restUp out e nm out.length).2 then (restUp out e nm out.length).1 else (restUp out e nm out.length).1 ++ [newS e nm]
def layLayer (out : List Setting) (x : Layer) : List Setting := x.entries.foldl (layStep x.name) out
def laidF (l : List Layer) : List Setting := l.foldl layLayer []

section
variable {out : List Setting} {e : Entry} {nm : ByteArray}
theorem restUp_hit {j : Nat} {o : Setting} {r : List Setting} {p : Bool} (hr : restUp out e nm j = (r, p)) (ho : out[j]? = some o) (h : hits o e = true) : restUp out e nm (j + 1) = (r, p) := by
  conv => lhs; unfold restUp
  rw [ho]; simp only [h, cond_true, hr]
theorem restUp_put {j : Nat} {o : Setting} {r : List Setting} (hr : restUp out e nm j = (r, false)) (ho : out[j]? = some o) (h : hits o e = false) (hl : Go.Op.bytesLess e.path.toList o.path.toList = true) : restUp out e nm (j + 1) = ((r ++ [newS e nm]) ++ [o], true) := by
  conv => lhs; unfold restUp
  rw [ho]; simp only [h, cond_false, hr, hl, Bool.not_false, Bool.and_true, cond_true]
theorem restUp_keep {j : Nat} {o : Setting} {r : List Setting} {p : Bool} (hr : restUp out e nm j = (r, p)) (ho : out[j]? = some o) (h : hits o e = false) (hl : (!p && Go.Op.bytesLess e.path.toList o.path.toList) = false) : restUp out e nm (j + 1) = (r ++ [o], p) := by
  conv => lhs; unfold restUp
  rw [ho]; simp only [h, cond_false, hr, hl]
theorem restUp_len : ∀ (j : Nat), (restUp out e nm j).1.length ≤ j + (bif (restUp out e nm j).2 then 1 else 0)
  | 0 => by unfold restUp; simp
  | j + 1 => by
    have ih := restUp_len j
    obtain ⟨r, p, hr⟩ : ∃ r p, restUp out e nm j = (r, p) := ⟨_, _, rfl⟩
    rw [hr] at ih
    dsimp only at ih
    cases ho : out[j]? with
    | none =>
      have : restUp out e nm (j + 1) = (r, p) := by
        conv => lhs; unfold restUp
        rw [ho]; exact hr
      rw [this]; dsimp only; omega
    | some o =>
      cases hh : hits o e
      · cases hq : (!p && Go.Op.bytesLess e.path.toList o.path.toList)
        · rw [restUp_keep hr ho hh hq]; simp; omega
        · have hp : p = false := by cases p <;> simp_all
          subst hp
          rw [restUp_put hr ho hh (by simpa using hq)]
          simp at ih ⊢; omega
      · rw [restUp_hit hr ho hh]; dsimp only; omega
theorem restUp_mem {P : Setting → Prop} (h : ∀ o ∈ out, P o) (hn : P (newS e nm)) : ∀ (j : Nat), ∀ o ∈ (restUp out e nm j).1, P o
  | 0 => by unfold restUp; intro o ho; cases ho
  | j + 1 => by
    have ih := restUp_mem h hn j
    obtain ⟨r, p, hr⟩ : ∃ r p, restUp out e nm j = (r, p) := ⟨_, _, rfl⟩
    rw [hr] at ih
    dsimp only at ih
    cases ho : out[j]? with
    | none =>
      have : restUp out e nm (j + 1) = (r, p) := by
        conv => lhs; unfold restUp
        rw [ho]; exact hr
      rw [this]; exact ih
    | some o =>
      have hoP := h o (List.mem_of_getElem? ho)
      cases hh : hits o e
      · cases hq : (!p && Go.Op.bytesLess e.path.toList o.path.toList)
        · rw [restUp_keep hr ho hh hq]
          intro x hx
          rcases List.mem_append.1 hx with q | q
          · exact ih x q
          · simp at q; subst q; exact hoP
        · have hp : p = false := by cases p <;> simp_all
          subst hp
          rw [restUp_put hr ho hh (by simpa using hq)]
          intro x hx
          rcases List.mem_append.1 hx with q | q
          · rcases List.mem_append.1 q with q | q
            · exact ih x q
            · simp at q; subst q; exact hn
          · simp at q; subst q; exact hoP
      · rw [restUp_hit hr ho hh]; exact ih
theorem layStep_len : (layStep nm out e).length ≤ out.length + 1 := by
  have := restUp_len (out := out) (e := e) (nm := nm) out.length
  unfold layStep
  cases h : (restUp out e nm out.length).2
  · rw [h] at this; simp at this ⊢; omega
  · rw [h] at this; simp at this ⊢; omega
theorem layStep_mem {P : Setting → Prop} (h : ∀ o ∈ out, P o) (hn : P (newS e nm)) : ∀ o ∈ layStep nm out e, P o := by
  have := restUp_mem h hn out.length
  unfold layStep
  cases hp : (restUp out e nm out.length).2
  · simp only [cond_false]
    intro x hx
    rcases List.mem_append.1 hx with q | q
    · exact this x q
    · simp at q; subst q; exact hn
  · simp only [cond_true]; exact this
theorem layStep_put {r : List Setting} (h : restUp out e nm out.length = (r, true)) : layStep nm out e = r := by
  unfold layStep; rw [h]; rfl
theorem layStep_end {r : List Setting} (h : restUp out e nm out.length = (r, false)) : layStep nm out e = r ++ [newS e nm] := by
  unfold layStep; rw [h]; rfl
end

theorem overStep_mem {out : List LayV} {y x : LayV} (h : x ∈ overStep out y) : x ∈ out ∨ x = y := by
  unfold overStep at h
  rcases List.mem_append.1 h with q | q
  · rcases List.mem_append.1 q with q | q
    · exact .inl (List.mem_of_mem_take q)
    · simp at q; exact .inr q
  · exact .inl (List.mem_of_mem_drop q)
theorem overStep_len (out : List LayV) (y : LayV) : (overStep out y).length = out.length + 1 := by
  unfold overStep; simp; omega
theorem overFold_mem {x : LayV} : ∀ (lv out : List LayV), x ∈ lv.foldl overStep out → x ∈ out ∨ x ∈ lv
  | [], out, h => .inl h
  | y :: lv, out, h => by
    rw [List.foldl_cons] at h
    rcases overFold_mem lv _ h with q | q
    · rcases overStep_mem q with q | q
      · exact .inl q
      · exact .inr (by rw [q]; exact List.mem_cons_self ..)
    · exact .inr (List.mem_cons_of_mem _ q)
theorem overFold_len : ∀ (lv out : List LayV), (lv.foldl overStep out).length = out.length + lv.length
  | [], out => rfl
  | y :: lv, out => by rw [List.foldl_cons, overFold_len lv, overStep_len]; simp; omega
theorem over_mem {lv : List LayV} {x : LayV} (h : x ∈ overF lv) : x ∈ lv := by
  rcases overFold_mem lv [] h with q | q
  · cases q
  · exact q
theorem over_len (lv : List LayV) : (overF lv).length = lv.length := by
  unfold overF; rw [overFold_len]; simp
end Go.Proofs.YtphocibgfdihoaaGreatDoor

namespace Go.Proofs.YtphocibgfdihoaaGreatDoor
open Go.ChangeShapes Go.WideShapes Go.ChangeAt Go.RowKit
set_option linter.unusedVariables false

def preB (p q : ByteArray) : Bool := decide (q.size ≤ p.size) && ((p.extract 0 q.size).toList == q.toList)
theorem pre_self (p : ByteArray) : preB p p = true := by
  unfold preB
  have : (p.extract 0 p.size).toList = p.toList := by
    rw [toList_data, toList_data, Lib.extract_data]
    exact List.take_of_length_le (by simp)
  rw [this]; simp
theorem within_no {p q : ByteArray} (h : preB p q = false) : withinB p q = false := by
  unfold withinB
  have h1 : (p.toList == q.toList) = false := by
    rw [beq_bytes]
    refine decide_eq_false (fun e => ?_)
    subst e
    rw [pre_self] at h; cases h
  rw [h1]
  unfold preB at h
  by_cases h2 : q.size < p.size
  · rw [decide_eq_true (show q.size ≤ p.size by omega), Bool.true_and] at h
    rw [h]; simp
  · rw [decide_eq_false h2]; simp
theorem within_eq {p q : ByteArray} (h : preB p q = true) (hs : ¬ q.size < p.size) : withinB p q = true := by
  unfold preB at h
  simp only [Bool.and_eq_true, decide_eq_true_eq] at h
  have hz : q.size = p.size := by omega
  have : (p.extract 0 q.size).toList = p.toList := by
    rw [toList_data, toList_data, Lib.extract_data, hz]
    exact List.take_of_length_le (by simp)
  rw [this] at h
  unfold withinB
  rw [h.2]; rfl
theorem within_more {p q : ByteArray} (h : preB p q = true) (hs : q.size < p.size) : withinB p q = decide (byteAt p q.size = 46) := by
  unfold preB at h
  simp only [Bool.and_eq_true, decide_eq_true_eq] at h
  have h1 : (p.toList == q.toList) = false := by
    rw [beq_bytes]
    refine decide_eq_false (fun e => ?_)
    subst e; omega
  unfold withinB
  rw [h1, h.2, decide_eq_true hs]; simp
set_option maxRecDepth 100000 in
set_option maxHeartbeats 1000000 in
theorem implWithin (p q : ByteArray) (hp : p.size ≤ 1048576) (hq : q.size ≤ 1048576) (w : World) :
    Calls Tryz.prog 34 #[.agg #[.string p], .string q] w fun e w' => e = .returned (.bool (withinB p q)) ∧ Below w.heap.size w w' := by
  have hw1 : ∀ o, Below w.heap.size w (w.alloc o) := fun o => (Below.refl _ w).alloc (Nat.le_refl _) _
  have cc := fun w => Tryz.strings_CutPrefix p q w
  rw [← Lib.hasPrefix_raw] at cc
  cases hB : preB p q
  · have hB' := hB
    unfold preB at hB'
    rw [hB', Lib.trimPrefix_miss p q hB'] at cc
    rw [within_no hB]
    clear hB hB'
    go_enter Tryz.func34, Tryz.ntmps34
    go_wp2_with (go_at_call 69; go_must (refine (cc _).mono ?_; rintro e w1 ⟨rfl, rfl⟩))
    go_ret
    exact ⟨rfl, hw1 _⟩
  · have hB' := hB
    unfold preB at hB'
    have hB2 := hB'
    simp only [Bool.and_eq_true, decide_eq_true_eq] at hB2
    rw [hB', Lib.trimPrefix_hit p q hB2.1 hB2.2] at cc
    have hRl : (p.extract q.size p.size).data.toList = p.data.toList.drop q.size := by
      rw [Lib.extract_data]
      exact List.take_of_length_le (by simp)
    by_cases hs : q.size < p.size
    · rw [within_more hB hs]
      have hR0 : 0 < (p.extract q.size p.size).size := by simp only [ByteArray.size_extract]; omega
      have hRx : (p.extract q.size p.size)[0].toNat = byteAt p q.size := by
        unfold byteAt
        rw [dif_pos hs]
        have h1 := byt_list (p.extract q.size p.size) 0 hR0
        rw [hRl, List.getElem?_drop, Nat.add_zero, byt_list p q.size hs] at h1
        simp only [Option.some.injEq] at h1
        rw [h1]
      have hRz : (p.extract q.size p.size).size ≤ 1048576 := by simp only [ByteArray.size_extract]; omega
      have hRe : ((p.extract q.size p.size).toList == []) = false := by
        rw [toList_data, hRl, beq_eq_false_iff_ne]
        intro e
        have := congrArg List.length e
        simp at this
        omega
      obtain ⟨x, hx⟩ : ∃ x, byteAt p q.size = x := ⟨_, rfl⟩
      rw [hx] at hRx ⊢
      generalize p.extract q.size p.size = R at cc hR0 hRx hRz hRe
      have hR0' : (0 : Int) < (R.size : Int) := by omega
      have hRz' : (R.size : Int) ≤ 1048576 := by omega
      clear hB hB' hB2 hRl hx hs hp hq
      by_cases hx46 : x = 46
      · subst hx46
        go_enter Tryz.func34, Tryz.ntmps34
        go_wp2_with (go_at_call 69; go_must (refine (cc _).mono ?_; rintro e w1 ⟨rfl, rfl⟩))
        go_ret
        exact ⟨by simp, hw1 _⟩
      · have hxb : ((x : Int) == 46) = false := by rw [beq_eq_false_iff_ne]; omega
        rw [decide_eq_false hx46]
        go_enter Tryz.func34, Tryz.ntmps34
        go_wp2_with (go_at_call 69; go_must (refine (cc _).mono ?_; rintro e w1 ⟨rfl, rfl⟩))
        go_ret
        exact ⟨by simp, hw1 _⟩
    · rw [within_eq hB hs]
      have hRe : ((p.extract q.size p.size).toList == []) = true := by
        rw [toList_data, hRl]
        simp; omega
      generalize p.extract q.size p.size = R at cc hRe
      clear hB hB' hB2 hRl hs hp hq
      go_enter Tryz.func34, Tryz.ntmps34
      go_wp2_with (go_at_call 69; go_must (refine (cc _).mono ?_; rintro e w1 ⟨rfl, rfl⟩))
      go_ret
      exact ⟨by simp, hw1 _⟩
set_option maxRecDepth 100000 in
theorem implMeets (p q : ByteArray) (hp : p.size ≤ 1048576) (hq : q.size ≤ 1048576) (w : World) :
    Calls Tryz.prog 77 #[.agg #[.string p], .string q] w fun e w' => e = .returned (.bool (withinB p q || withinB q p)) ∧ Below w.heap.size w w' := by
  have hw1 : ∀ o, Below w.heap.size w (w.alloc o) := fun o => (Below.refl _ w).alloc (Nat.le_refl _) _
  have c1 := fun w => implWithin p q hp hq w
  have c2 := fun w => implWithin q p hq hp w
  have hbk : Blk (w.alloc (.cells #[.string p] 74)) w.heap.size 74 #[.string p] := heap_alloc_last w _
  have HBK : Hid (Blk (w.alloc (.cells #[.string p] 74)) w.heap.size 74 #[.string p]) := hbk
  obtain ⟨A, hA⟩ : ∃ A, withinB p q = A := ⟨_, rfl⟩
  obtain ⟨B, hB⟩ : ∃ B, withinB q p = B := ⟨_, rfl⟩
  rw [hA] at c1 ⊢
  rw [hB] at c2 ⊢
  clear hA hB hbk
  cases A
  · go_enter Tryz.func77, Tryz.ntmps77
    go_wp2_with (first
      | (go_at_call 34; have hchk := hb1; (refine (c2 _).mono ?_; rintro e w2 ⟨rfl, hb2⟩))
      | (go_at_call 34; go_must (refine (c1 _).mono ?_; rintro e w1 ⟨rfl, hb1⟩; have hk1 := Blk.below HBK.out hb1; have e0 := hk1.cell 0; simp at e0)))
    go_ret
    exact ⟨by simp, good_below (good_below (hw1 _) hb1) hb2⟩
  · go_enter Tryz.func77, Tryz.ntmps77
    go_wp2_with (go_at_call 34; go_must (refine (c1 _).mono ?_; rintro e w1 ⟨rfl, hb1⟩))
    go_ret
    exact ⟨by simp, good_below (hw1 _) hb1⟩

/-! Entries and layers that are right, as the program asks. -/
theorem has_of {α : Type} (f : α → ByteArray) (l : List α) (i : Nat) (t : ByteArray) : hasB ((l.map f).take i) t = (l.take i).any fun q => (f q).toList == t.toList := by
  unfold hasB
  rw [← List.map_take, List.any_map]
  rfl
theorem range_split {α : Type} (f : α → ByteArray) (g : α → Bool) (l : List α) : rangeB (fun pre x => g x && !(pre.any fun q => (f q).toList == (f x).toList)) l = (l.all g && !dupFrom (l.map f) []) := by
  cases ha : l.all g
  · rw [List.all_eq_false] at ha
    obtain ⟨x, hx, hb⟩ := ha
    obtain ⟨i, hi, rfl⟩ := List.getElem_of_mem hx
    exact range_bad hi (by rw [Bool.eq_false_iff.2 hb]; rfl)
  · cases hd : dupFrom (l.map f) []
    · refine range_all (fun i hi => ?_)
      rw [List.all_eq_true] at ha
      rw [ha _ (List.getElem_mem hi), Bool.true_and, ← has_of, Bool.not_eq_true']
      cases hh : hasB ((l.map f).take i) (f l[i])
      · rfl
      · have := (dup_iff (l.map f) []).2 ⟨i, by simpa using hi, by simpa using hh⟩
        rw [hd] at this; cases this
    · obtain ⟨i, hi, h⟩ := (dup_iff (l.map f) []).1 hd
      have hi' : i < l.length := by simpa using hi
      refine range_bad hi' ?_
      rw [← has_of]
      simp at h
      rw [h]; simp
theorem entries_split (nameB : ByteArray → Bool) (es : List Entry) : entriesB nameB es = (es.all (fun e => decide (e.text.size ≤ 200)) && ((es.map Entry.path).all (pathB nameB) && !dupFrom (es.map Entry.path) [])) := by
  have h := range_split Entry.path (fun e => pathB nameB e.path && decide (e.text.size ≤ 200)) es
  unfold entriesB
  rw [show entryB nameB = fun pre x => (pathB nameB x.path && decide (x.text.size ≤ 200)) && !(pre.any fun q => q.path.toList == x.path.toList) from rfl, h]
  rw [← Bool.and_assoc]
  congr 1
  rw [List.all_map]
  induction es with
  | nil => rfl
  | cons a t ih =>
    simp only [List.all_cons, Function.comp]
    rw [show (t.all fun e => pathB nameB e.path && decide (e.text.size ≤ 200)) = ((t.all fun e => decide (e.text.size ≤ 200)) && t.all (pathB nameB ∘ Entry.path)) from ih (range_split _ _ _)]
    cases pathB nameB a.path <;> cases decide (a.text.size ≤ 200) <;> simp [Function.comp_def]
theorem layers_split (nameB : ByteArray → Bool) (l : List Layer) (h20 : l.length ≤ 20) : layersB nameB l = (l.all (fun x => decide (x.entries.length ≤ 100) && entriesB nameB x.entries) && ((l.map Layer.name).all nameB && !dupFrom (l.map Layer.name) [])) := by
  have h := range_split Layer.name (fun x => nameB x.name && (decide (x.entries.length ≤ 100) && entriesB nameB x.entries)) l
  unfold layersB
  rw [decide_eq_true h20, Bool.true_and]
  have e : layerB nameB = fun pre x => (nameB x.name && (decide (x.entries.length ≤ 100) && entriesB nameB x.entries)) && !(pre.any fun q => q.name.toList == x.name.toList) := by
    funext pre x
    unfold layerB
    cases nameB x.name <;> cases decide (x.entries.length ≤ 100) <;> cases (pre.any fun q => q.name.toList == x.name.toList) <;> cases entriesB nameB x.entries <;> rfl
  rw [e, h, ← Bool.and_assoc]
  congr 1
  rw [List.all_map]
  clear h h20 e
  induction l with
  | nil => rfl
  | cons a t ih =>
    simp only [List.all_cons, Function.comp]
    rw [ih]
    cases nameB a.name <;> cases (decide (a.entries.length ≤ 100) && entriesB nameB a.entries) <;> simp [Function.comp_def]
end Go.Proofs.YtphocibgfdihoaaGreatDoor
