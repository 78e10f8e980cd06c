/-
  Where a run of runes ends, as plain data; the contracts of impl.runEnd and spec.l01Word. The contracts of spec.NameOK and impl.NameOK: both answer 'nameOK'. impl.NameOK under the two tables of unicode/utf8 as they are laid. What impl.isNeed, isBetween, the question whether a need is of a release's own name, slices.IndexFunc and slices.ContainsFunc with it answer. What impl.firstTwice, areNeeds and isRelease answer. What impl.StoreOK answers. What a store that is right says of itself; the needs of a release by its name and version. spec.Newest: its walk. spec.Newest: its walk. impl.shelfOf: its walk. impl's newest release of a name below a limit; a version stored into a row of releases; limits by names. No statement of the seat is proved here.
-/
import Derived.Test.YteokcdobapkkhaaGreatDoorCj5
import Derived.Laws.ResultCell
namespace Go.Proofs.YteokcdobapkkhaaGreatDoor
open Go.ChangeShapes Go.WideShapes Go.ChangeAt Go.RowKit
set_option linter.unusedVariables false

theorem decodeN_fits (n b0 b1 b2 b3 : Nat) (hn : 1 ≤ n) : (Lib.decodeN n b0 b1 b2 b3).2 ≤ n := by
  unfold Lib.decodeN
  repeat' split
  all_goals simp only
  all_goals omega
theorem decode_fits (s : ByteArray) (i : Nat) (h : i < s.size) : i + (Utf8.decode s i).2 ≤ s.size := by
  have := decodeN_fits (s.size - i) (byt s i) (byt s (i + 1)) (byt s (i + 2)) (byt s (i + 3)) (by omega)
  rw [decode_byt]
  omega

/-- Where the run of runes that f takes ends, from a place on. -/
def endOf (f : Int → Bool) (s : ByteArray) (pos : Nat) : Nat :=
  if h : pos < s.size then
    if f ((Utf8.decode s pos).1 : Int) then endOf f s (pos + (Utf8.decode s pos).2) else pos
  else s.size
termination_by s.size - pos
decreasing_by
  have := (decode_le s pos).2.1
  omega
theorem endOf_on {f : Int → Bool} {s : ByteArray} {pos : Nat} (h : pos < s.size) (hf : f ((Utf8.decode s pos).1 : Int) = true) : endOf f s pos = endOf f s (pos + (Utf8.decode s pos).2) := by
  rw [endOf, dif_pos h, if_pos hf]
theorem endOf_stop {f : Int → Bool} {s : ByteArray} {pos : Nat} (h : pos < s.size) (hf : f ((Utf8.decode s pos).1 : Int) = false) : endOf f s pos = pos := by
  rw [endOf, dif_pos h, if_neg (by simp [hf])]
theorem endOf_out {f : Int → Bool} {s : ByteArray} {pos : Nat} (h : ¬ pos < s.size) : endOf f s pos = s.size := by
  rw [endOf, dif_neg h]
theorem endOf_ge (f : Int → Bool) (s : ByteArray) (pos : Nat) (h : pos ≤ s.size) : pos ≤ endOf f s pos ∧ endOf f s pos ≤ s.size := by
  by_cases hp : pos < s.size
  · by_cases hf : f ((Utf8.decode s pos).1 : Int) = true
    · rw [endOf_on hp hf]
      have h1 := (decode_le s pos).2.1
      have h2 := decode_fits s pos hp
      have := endOf_ge f s (pos + (Utf8.decode s pos).2) h2
      omega
    · rw [endOf_stop hp (by simpa using hf)]; omega
  · rw [endOf_out hp]; omega
termination_by s.size - pos
decreasing_by
  have := (decode_le s pos).2.1
  omega

set_option maxRecDepth 1000000 in
set_option maxHeartbeats 400000 in
theorem runEndNam (s : ByteArray) (a : Nat) (hs : s.size ≤ 65536) (ha : a ≤ s.size) (w : World) :
    Calls Tryz.prog 97 #[.string s, .int .i64 a, .func (.func 98) #[] #[]] w fun e w' => e = .returned (.int .i64 (endOf isNam s a)) ∧ Below w.heap.size w w' := by
  obtain ⟨E, hE⟩ : ∃ E, endOf isNam s a = E := ⟨_, rfl⟩
  rw [hE]
  have hTs : (s.extract a s.size).size = s.size - a := by simp
  have hdec : ∀ pos, Utf8.decode (s.extract a s.size) pos = Utf8.decode s (a + pos) := fun pos => Lib.tail_decode s a pos
  go_enter Tryz.func97, Tryz.ntmps97
  go_wp2
  generalize s.extract a s.size = T at hTs hdec ⊢
  have HD : Hid (∀ pos, Utf8.decode T pos = Utf8.decode s (a + pos)) := hdec
  have HE : Hid (endOf isNam s a = E) := hE
  clear hdec hE
  go_loopw [7] (fun _ wr => ∃ pos : Nat, pos ≤ T.size ∧ wr = w.iter T pos ∧ endOf isNam s (a + pos) = E) (fun _ wr => T.size - wr.iterPos w.heap.size)
  case atStart => exact ⟨0, by omega, rfl, HE⟩
  case round =>
    obtain ⟨pos, hpos, rfl, hen⟩ := hrel
    have HN : Hid (endOf isNam s (a + pos) = E) := hen
    clear hen HE
    by_cases hp : pos < T.size
    · have hnx : ∀ ty, (Instr.next (.pointer (some ⟨w.heap.size, 0, none⟩)) true ty).run Tryz.prog (w.iter T pos) = _ := fun ty => run_next_any w T pos ty hp
      have c := implNam ((Utf8.decode T pos).1 : Int)
      have hle := (decode_le T pos).1
      have hg1 := (decode_le T pos).2.1
      have hft := decode_fits T pos hp
      obtain ⟨b, hb⟩ : ∃ b, isNam ((Utf8.decode T pos).1 : Int) = b := ⟨_, rfl⟩
      rw [hb] at c
      have HB : Hid (isNam ((Utf8.decode T pos).1 : Int) = b) := hb
      clear hb
      obtain ⟨R, hR⟩ : ∃ R, (Utf8.decode T pos).1 = R := ⟨_, rfl⟩
      obtain ⟨K, hK⟩ : ∃ K, (Utf8.decode T pos).2 = K := ⟨_, rfl⟩
      have HK : Hid ((Utf8.decode T pos).2 = K) := hK
      rw [hR] at c hle hnx
      rw [hK] at hnx hg1 hft
      clear hR hK
      have hle' : (R : Int) ≤ 1114111 := by omega
      cases b
      · go_wp2_with (go_at_call 98; go_must (refine (c _).mono ?_; rintro e w' ⟨rfl, rfl⟩))
        go_ret
        refine ⟨?_, (Below.refl _ w).alloc (Nat.le_refl _) _⟩
        have h1 := HN.out
        rw [endOf_stop (by omega) (by rw [← HD.out]; exact HB)] at h1
        rw [← h1]
        go_num
      · go_wp2_with (go_at_call 98; go_must (refine (c _).mono ?_; rintro e w' ⟨rfl, rfl⟩))
        go_roundw
        case rel =>
          refine ⟨pos + K, by omega, rfl, ?_⟩
          have h1 := HN.out
          rw [endOf_on (by omega) (by rw [← HD.out]; exact HB), ← HD.out, HK.out] at h1
          rw [← Nat.add_assoc]; exact h1
        case measure => simp; omega
    · have hnx : ∀ ty, (Instr.next (.pointer (some ⟨w.heap.size, 0, none⟩)) true ty).run Tryz.prog (w.iter T pos) = _ := fun ty => run_next_end w T pos ty hp
      go_wp2
      go_ret
      refine ⟨?_, (Below.refl _ w).alloc (Nat.le_refl _) _⟩
      have h1 := HN.out
      rw [endOf_out (by omega)] at h1
      rw [← h1]
      rfl

set_option maxRecDepth 1000000 in
set_option maxHeartbeats 400000 in
theorem runEndDig (s : ByteArray) (a : Nat) (hs : s.size ≤ 65536) (ha : a ≤ s.size) (w : World) :
    Calls Tryz.prog 97 #[.string s, .int .i64 a, .func (.func 131) #[] #[]] w fun e w' => e = .returned (.int .i64 (endOf isDig s a)) ∧ Below w.heap.size w w' := by
  obtain ⟨E, hE⟩ : ∃ E, endOf isDig s a = E := ⟨_, rfl⟩
  rw [hE]
  have hTs : (s.extract a s.size).size = s.size - a := by simp
  have hdec : ∀ pos, Utf8.decode (s.extract a s.size) pos = Utf8.decode s (a + pos) := fun pos => Lib.tail_decode s a pos
  go_enter Tryz.func97, Tryz.ntmps97
  go_wp2
  generalize s.extract a s.size = T at hTs hdec ⊢
  have HD : Hid (∀ pos, Utf8.decode T pos = Utf8.decode s (a + pos)) := hdec
  have HE : Hid (endOf isDig s a = E) := hE
  clear hdec hE
  go_loopw [7] (fun _ wr => ∃ pos : Nat, pos ≤ T.size ∧ wr = w.iter T pos ∧ endOf isDig s (a + pos) = E) (fun _ wr => T.size - wr.iterPos w.heap.size)
  case atStart => exact ⟨0, by omega, rfl, HE⟩
  case round =>
    obtain ⟨pos, hpos, rfl, hen⟩ := hrel
    have HN : Hid (endOf isDig s (a + pos) = E) := hen
    clear hen HE
    by_cases hp : pos < T.size
    · have hnx : ∀ ty, (Instr.next (.pointer (some ⟨w.heap.size, 0, none⟩)) true ty).run Tryz.prog (w.iter T pos) = _ := fun ty => run_next_any w T pos ty hp
      have c := implDigit ((Utf8.decode T pos).1 : Int)
      have hle := (decode_le T pos).1
      have hg1 := (decode_le T pos).2.1
      have hft := decode_fits T pos hp
      obtain ⟨b, hb⟩ : ∃ b, isDig ((Utf8.decode T pos).1 : Int) = b := ⟨_, rfl⟩
      rw [hb] at c
      have HB : Hid (isDig ((Utf8.decode T pos).1 : Int) = b) := hb
      clear hb
      obtain ⟨R, hR⟩ : ∃ R, (Utf8.decode T pos).1 = R := ⟨_, rfl⟩
      obtain ⟨K, hK⟩ : ∃ K, (Utf8.decode T pos).2 = K := ⟨_, rfl⟩
      have HK : Hid ((Utf8.decode T pos).2 = K) := hK
      rw [hR] at c hle hnx
      rw [hK] at hnx hg1 hft
      clear hR hK
      have hle' : (R : Int) ≤ 1114111 := by omega
      cases b
      · go_wp2_with (go_at_call 131; go_must (refine (c _).mono ?_; rintro e w' ⟨rfl, rfl⟩))
        go_ret
        refine ⟨?_, (Below.refl _ w).alloc (Nat.le_refl _) _⟩
        have h1 := HN.out
        rw [endOf_stop (by omega) (by rw [← HD.out]; exact HB)] at h1
        rw [← h1]
        go_num
      · go_wp2_with (go_at_call 131; go_must (refine (c _).mono ?_; rintro e w' ⟨rfl, rfl⟩))
        go_roundw
        case rel =>
          refine ⟨pos + K, by omega, rfl, ?_⟩
          have h1 := HN.out
          rw [endOf_on (by omega) (by rw [← HD.out]; exact HB), ← HD.out, HK.out] at h1
          rw [← Nat.add_assoc]; exact h1
        case measure => simp; omega
    · have hnx : ∀ ty, (Instr.next (.pointer (some ⟨w.heap.size, 0, none⟩)) true ty).run Tryz.prog (w.iter T pos) = _ := fun ty => run_next_end w T pos ty hp
      go_wp2
      go_ret
      refine ⟨?_, (Below.refl _ w).alloc (Nat.le_refl _) _⟩
      have h1 := HN.out
      rw [endOf_out (by omega)] at h1
      rw [← h1]
      rfl

/-- Where a name ends that begins at a place: at the place itself if no letter stands there. -/
def wordEnd (s : ByteArray) (a : Nat) : Nat :=
  if a < s.size ∧ isLet ((Utf8.decode s a).1 : Int) = true then endOf isNam s (a + (Utf8.decode s a).2) else a
theorem wordEnd_ge (s : ByteArray) (a : Nat) (h : a ≤ s.size) : a ≤ wordEnd s a ∧ wordEnd s a ≤ s.size := by
  unfold wordEnd
  split
  · rename_i hc
    have h1 := endOf_ge isNam s (a + (Utf8.decode s a).2) (decode_fits s a hc.1)
    omega
  · omega
/-- What the search for a name's end keeps. -/
def AtWord (s : ByteArray) (a i W : Nat) : Prop := (i = a ∧ wordEnd s a = W) ∨ (a < i ∧ endOf isNam s i = W)
theorem AtWord.stop {s : ByteArray} {a i W : Nat} (h : AtWord s a i W) (hi : i < s.size) (h1 : isLet ((Utf8.decode s i).1 : Int) = false) (h2 : a < i → isDig ((Utf8.decode s i).1 : Int) = false) : W = i := by
  rcases h with ⟨rfl, rfl⟩ | ⟨hl, rfl⟩
  · unfold wordEnd; rw [if_neg]; simp [h1]
  · exact endOf_stop hi (by simp [isNam, h1, h2 hl])
theorem AtWord.end {s : ByteArray} {a i W : Nat} (h : AtWord s a i W) (hi : ¬ i < s.size) (hle : i ≤ s.size) : W = i := by
  rcases h with ⟨rfl, rfl⟩ | ⟨hl, rfl⟩
  · unfold wordEnd; rw [if_neg]; simp [hi]
  · rw [endOf_out hi]; omega
theorem AtWord.on {s : ByteArray} {a i W : Nat} (h : AtWord s a i W) (hi : i < s.size) (h1 : isLet ((Utf8.decode s i).1 : Int) = true ∨ (a < i ∧ isDig ((Utf8.decode s i).1 : Int) = true)) : AtWord s a (i + (Utf8.decode s i).2) W := by
  have hk := (decode_le s i).2.1
  rcases h with ⟨rfl, rfl⟩ | ⟨hl, rfl⟩
  · refine .inr ⟨by omega, ?_⟩
    unfold wordEnd; rw [if_pos ⟨hi, by rcases h1 with h | ⟨h, _⟩; exact h; omega⟩]
  · refine .inr ⟨by omega, ?_⟩
    rw [endOf_on hi]
    rcases h1 with h | ⟨_, h⟩ <;> simp [isNam, h]

set_option maxRecDepth 1000000 in
set_option maxHeartbeats 1000000 in
theorem specWord (s : ByteArray) (a : Nat) (hs : s.size ≤ 65536) (ha : a ≤ s.size) (w : World) :
    Calls Tryz.prog 76 #[.string s, .int .i64 a] w fun e w' => e = .returned (.int .i64 ((wordEnd s a : Int) - (a : Int))) ∧ Below w.heap.size w w' := by
  obtain ⟨W, hW⟩ : ∃ W, wordEnd s a = W := ⟨_, rfl⟩
  have hAW : AtWord s a a W := .inl ⟨rfl, hW⟩
  rw [hW]
  clear hW
  go_enter Tryz.func76, Tryz.ntmps76
  go_wp2
  go_loopw [5] (fun i wr => ∃ k : Nat, a ≤ k ∧ k ≤ s.size ∧ i = .int .i64 (k : Int) ∧ AtWord s a k W ∧ Below w.heap.size w wr) (fun i _ => s.size - (intOf i).toNat)
  case atStart => exact ⟨a, by omega, by omega, rfl, hAW, Below.refl _ _⟩
  case round =>
    obtain ⟨k, hk1, hk2, rfl, hkW, hB⟩ := hrel
    clear hAW
    by_cases hk : k < s.size
    · have c := specRune s k hs hk
      have c1 := specLetter ((Utf8.decode s k).1 : Int)
      have c2 := specDigit ((Utf8.decode s k).1 : Int)
      have hle := (decode_le s k).1
      have hg1 := (decode_le s k).2.1
      have hft := decode_fits s k hk
      have hst := AtWord.stop hkW hk
      have hon := AtWord.on hkW hk
      obtain ⟨R, hR⟩ : ∃ R, (Utf8.decode s k).1 = R := ⟨_, rfl⟩
      obtain ⟨K, hK⟩ : ∃ K, (Utf8.decode s k).2 = K := ⟨_, rfl⟩
      rw [hR, hK] at c
      rw [hR] at c1 c2 hst hon hle
      rw [hK] at hg1 hft hon
      clear hR hK hkW
      obtain ⟨bl, hbl⟩ : ∃ b, isLet (R : Int) = b := ⟨_, rfl⟩
      obtain ⟨bd, hbd⟩ : ∃ b, isDig (R : Int) = b := ⟨_, rfl⟩
      rw [hbl] at c1 hst hon
      rw [hbd] at c2 hst hon
      clear hbl hbd
      have hkz : (k : Int) < (s.size : Int) := by omega
      cases bl
      · by_cases hak : (a : Int) < (k : Int)
        · cases bd
          · have e := hst rfl fun _ => rfl
            subst e
            clear hst hon
            go_wp2_with (first | (go_at_call 91; go_must (refine (c _).mono ?_; rintro e w1 ⟨rfl, hB1⟩)) | (go_at_call 92; go_must (refine (c1 _).mono ?_; rintro e w' ⟨rfl, rfl⟩)) | (go_at_call 93; go_must (refine (c2 _).mono ?_; rintro e w' ⟨rfl, rfl⟩)))
            go_ret
            exact ⟨rfl, hB.trans (hB1.mono hB.size)⟩
          · have hn := hon (.inr ⟨by omega, rfl⟩)
            clear hst hon
            go_wp2_with (first | (go_at_call 91; go_must (refine (c _).mono ?_; rintro e w1 ⟨rfl, hB1⟩)) | (go_at_call 92; go_must (refine (c1 _).mono ?_; rintro e w' ⟨rfl, rfl⟩)) | (go_at_call 93; go_must (refine (c2 _).mono ?_; rintro e w' ⟨rfl, rfl⟩)))
            go_roundw
            case rel => exact ⟨k + K, by omega, by omega, by go_num, hn, hB.trans (hB1.mono hB.size)⟩
            case measure => simp [intOf]; omega
        · have e := hst rfl (fun h => absurd h (by omega))
          subst e
          clear hst hon
          go_wp2_with (first | (go_at_call 91; go_must (refine (c _).mono ?_; rintro e w1 ⟨rfl, hB1⟩)) | (go_at_call 92; go_must (refine (c1 _).mono ?_; rintro e w' ⟨rfl, rfl⟩)) | (go_at_call 93; go_must (refine (c2 _).mono ?_; rintro e w' ⟨rfl, rfl⟩)))
          go_ret
          exact ⟨rfl, hB.trans (hB1.mono hB.size)⟩
      · have hn := hon (.inl rfl)
        clear hst hon c2
        go_wp2_with (first | (go_at_call 91; go_must (refine (c _).mono ?_; rintro e w1 ⟨rfl, hB1⟩)) | (go_at_call 92; go_must (refine (c1 _).mono ?_; rintro e w' ⟨rfl, rfl⟩)))
        go_roundw
        case rel => exact ⟨k + K, by omega, by omega, by go_num, hn, hB.trans (hB1.mono hB.size)⟩
        case measure => simp [intOf]; omega
    · have e := AtWord.end hkW hk hk2
      subst e
      have hkz : ¬ ((W : Int) < (s.size : Int)) := by omega
      go_wp2
      go_ret
      exact ⟨rfl, hB⟩
end Go.Proofs.YteokcdobapkkhaaGreatDoor

namespace Go.Proofs.YteokcdobapkkhaaGreatDoor
open Go.ChangeShapes Go.WideShapes Go.ChangeAt Go.RowKit
set_option linter.unusedVariables false

def nameOK (s : ByteArray) : Bool := decide (0 < s.size) && decide (s.size ≤ 40) && decide (wordEnd s 0 = s.size) && !hasB resList s

set_option maxRecDepth 100000 in
set_option maxHeartbeats 400000 in
theorem specNameOK (s : ByteArray) (w : World) :
    Calls Tryz.prog 58 #[.string s] w fun e w' => e = .returned (.bool (nameOK s)) ∧ Below w.heap.size w w' := by
  by_cases h0 : s.size = 0
  · have e : nameOK s = false := by simp [nameOK, h0]
    rw [e]
    have h1 : (s.size : Int) = 0 := by omega
    go_enter Tryz.func58, Tryz.ntmps58
    go_wp2_with fail
    go_ret
    exact ⟨rfl, Below.refl _ _⟩
  by_cases h1 : 40 < s.size
  · have e : nameOK s = false := by
      have : decide (s.size ≤ 40) = false := by simp; omega
      simp [nameOK, this]
    rw [e]
    have h2 : (40 : Int) < (s.size : Int) := by omega
    go_enter Tryz.func58, Tryz.ntmps58
    go_wp2_with fail
    go_ret
    exact ⟨rfl, Below.refl _ _⟩
  obtain ⟨E, hE⟩ : ∃ E, wordEnd s 0 = E := ⟨_, rfl⟩
  obtain ⟨B, hB⟩ : ∃ B, hasB resList s = B := ⟨_, rfl⟩
  have c1 : ∀ w, Calls Tryz.prog 76 #[.string s, .int .i64 0] w fun e w' => e = .returned (.int .i64 (E : Int)) ∧ Below w.heap.size w w' := by
    intro w
    have := specWord s 0 (by omega) (by omega) w
    rw [hE] at this
    simpa using this
  have c2 := specReserved s
  rw [hB] at c2
  have e : nameOK s = (decide (E = s.size) && !B) := by
    have a1 : decide (0 < s.size) = true := by simp; omega
    have a2 : decide (s.size ≤ 40) = true := by simp; omega
    simp [nameOK, a1, a2, hE, hB]
  rw [e]
  clear hE hB e
  have p1 : (0 : Int) < (s.size : Int) := by omega
  have p2 : (s.size : Int) ≤ 40 := by omega
  by_cases hEs : (E : Int) = (s.size : Int)
  · have e2 : E = s.size := by omega
    have e3 : decide (E = s.size) = true := by simp [e2]
    have q : ((E : Int) == (s.size : Int)) = true := by simp [e2]
    rw [e3]
    clear e2 e3 hEs
    go_enter Tryz.func58, Tryz.ntmps58
    go_wp2_with (first | (go_at_call 76; go_must (refine (c1 _).mono ?_; rintro e w1 ⟨rfl, hB1⟩)) | (go_at_call 77; go_must (refine (c2 _).mono ?_; rintro e w2 ⟨rfl, hB2⟩)))
    go_ret
    refine ⟨?_, hB1.trans (hB2.mono hB1.size)⟩
    cases B <;> rfl
  · have e3 : decide (E = s.size) = false := by simp; omega
    have q : ((E : Int) == (s.size : Int)) = false := by simp; omega
    rw [e3]
    clear e3 hEs
    go_enter Tryz.func58, Tryz.ntmps58
    go_wp2_with (first | (go_at_call 76; go_must (refine (c1 _).mono ?_; rintro e w1 ⟨rfl, hB1⟩)) | (go_at_call 77; go_must (refine (c2 _).mono ?_; rintro e w2 ⟨rfl, hB2⟩)))
    go_ret
    exact ⟨rfl, hB1⟩

theorem word_of_end (s : ByteArray) (h : 0 < s.size) : decide (wordEnd s 0 = s.size) = (isLet ((Utf8.decode s 0).1 : Int) && decide (endOf isNam s 0 = s.size)) := by
  unfold wordEnd
  cases hl : isLet ((Utf8.decode s 0).1 : Int)
  · rw [if_neg (by simp)]; simp; omega
  · rw [if_pos ⟨h, rfl⟩, endOf_on (f := isNam) h (by simp [isNam, hl])]
    simp

set_option maxRecDepth 100000 in
set_option maxHeartbeats 400000 in
theorem implNameOK (s : ByteArray) (w : World) (hT : Lib.Utf8Tabs 0 1 w) :
    Calls Tryz.prog 79 #[.string s] w fun e w' => e = .returned (.bool (nameOK s)) ∧ Below w.heap.size w w' := by
  by_cases h0 : s.size = 0
  · have e : nameOK s = false := by simp [nameOK, h0]
    rw [e]
    clear hT
    have h1 : (s.size : Int) = 0 := by omega
    go_enter Tryz.func79, Tryz.ntmps79
    go_wp2_with fail
    go_ret
    exact ⟨rfl, Below.refl _ _⟩
  by_cases h1 : 40 < s.size
  · have e : nameOK s = false := by
      have : decide (s.size ≤ 40) = false := by simp; omega
      simp [nameOK, this]
    rw [e]
    clear hT
    have h2 : (40 : Int) < (s.size : Int) := by omega
    go_enter Tryz.func79, Tryz.ntmps79
    go_wp2_with fail
    go_ret
    exact ⟨rfl, Below.refl _ _⟩
  have c0 := implReserved s
  have hr := runeAt_in (s := s) (i := 0) (by omega) (by omega)
  have c1 := fun w hT => implRuneAt s 0 w hT
  have hr' : runeAt s 0 = (((Utf8.decode s 0).1 : Int), ((Utf8.decode s 0).2 : Int)) := hr
  rw [hr'] at c1
  have c2 := implLetter ((Utf8.decode s 0).1 : Int)
  have c3 : ∀ w, Calls Tryz.prog 97 #[.string s, .int .i64 0, .func (.func 98) #[] #[]] w fun e w' => e = .returned (.int .i64 (endOf isNam s 0)) ∧ Below w.heap.size w w' := fun w => runEndNam s 0 (by omega) (by omega) w
  have hw := word_of_end s (by omega)
  obtain ⟨B, hB⟩ : ∃ B, hasB resList s = B := ⟨_, rfl⟩
  obtain ⟨E, hE⟩ : ∃ E, endOf isNam s 0 = E := ⟨_, rfl⟩
  have e : nameOK s = (isLet ((Utf8.decode s 0).1 : Int) && decide (E = s.size) && !B) := by
    have a1 : decide (0 < s.size) = true := by simp; omega
    have a2 : decide (s.size ≤ 40) = true := by simp; omega
    simp only [nameOK, a1, a2, hB, hw, hE, Bool.true_and]
  rw [e]
  rw [hB] at c0
  rw [hE] at c3
  obtain ⟨R, hR⟩ : ∃ R, (Utf8.decode s 0).1 = R := ⟨_, rfl⟩
  obtain ⟨K, hK⟩ : ∃ K, (Utf8.decode s 0).2 = K := ⟨_, rfl⟩
  rw [hR] at c1 c2 ⊢
  rw [hK] at c1
  obtain ⟨Lb, hL⟩ : ∃ L, isLet (R : Int) = L := ⟨_, rfl⟩
  rw [hL] at c2 ⊢
  have HT : Hid (Lib.Utf8Tabs 0 1 w) := hT
  clear hE hB e hw hr hr' hR hK hL hT
  have p1 : ((s.size : Int) == 0) = false := by rw [beq_eq_false_iff_ne]; omega
  have p2 : (s.size : Int) ≤ 40 := by omega
  cases B
  · cases Lb
    · go_enter Tryz.func79, Tryz.ntmps79
      go_wp2_with (first | (go_at_call 94; go_must (refine (c0 _).mono ?_; rintro e w1 ⟨rfl, rfl⟩)) | (go_at_call 95; go_must (refine (c1 _ HT.out).mono ?_; rintro e w2 ⟨rfl, hB2⟩)) | (go_at_call 96; go_must (refine (c2 _).mono ?_; rintro e w' ⟨rfl, rfl⟩)) | (go_at_call 97; go_must (refine (c3 _).mono ?_; rintro e w3 ⟨rfl, hB3⟩)))
      go_ret
      exact ⟨rfl, hB2⟩
    · go_enter Tryz.func79, Tryz.ntmps79
      go_wp2_with (first | (go_at_call 94; go_must (refine (c0 _).mono ?_; rintro e w1 ⟨rfl, rfl⟩)) | (go_at_call 95; go_must (refine (c1 _ HT.out).mono ?_; rintro e w2 ⟨rfl, hB2⟩)) | (go_at_call 96; go_must (refine (c2 _).mono ?_; rintro e w' ⟨rfl, rfl⟩)) | (go_at_call 97; go_must (refine (c3 _).mono ?_; rintro e w3 ⟨rfl, hB3⟩)))
      go_ret
      refine ⟨?_, hB2.trans (hB3.mono hB2.size)⟩
      refine congrArg (fun b => Ending.returned (Value.bool b)) ?_
      rw [Bool.eq_iff_iff]
      simp
      omega
  · have e4 : (Lb && decide (E = s.size) && !true) = false := by simp
    rw [e4]
    go_enter Tryz.func79, Tryz.ntmps79
    go_wp2_with (first | (go_at_call 94; go_must (refine (c0 _).mono ?_; rintro e w1 ⟨rfl, rfl⟩)))
    go_ret
    exact ⟨rfl, Below.refl _ _⟩
end Go.Proofs.YteokcdobapkkhaaGreatDoor

namespace Go.Proofs.YteokcdobapkkhaaGreatDoor
open Go.ChangeShapes Go.WideShapes Go.ChangeAt Go.RowKit
set_option linter.unusedVariables false

theorem specName : NameSpec nameOK := fun s w => specNameOK s w

set_option maxRecDepth 100000 in
theorem implNeed (nm : ByteArray) (mn mx : Int) (w : World) (hT : Lib.Utf8Tabs 0 1 w) :
    Calls Tryz.prog 65 #[.agg #[.string nm, .int .i64 mn, .int .i64 mx]] w fun e w' => e = .returned (.bool (needB nameOK ⟨nm, mn, mx⟩)) ∧ Below w.heap.size w w' := by
  have hw1 : ∀ o, Below w.heap.size w (w.alloc o) := fun o => (Below.refl _ w).alloc (Nat.le_refl _) _
  have cn := fun w' (hb : Below w.heap.size w w') => implNameOK nm w' (Utf8Tabs_below hT hb)
  clear hT
  unfold needB
  dsimp only
  obtain ⟨b, hb⟩ : ∃ b, nameOK nm = b := ⟨_, rfl⟩
  rw [hb] at cn ⊢
  clear hb
  cases b
  · go_enter Tryz.func65, Tryz.ntmps65
    go_wp2_with (go_at_call 79; go_must (refine (cn _ (hw1 _)).mono ?_; rintro e w1 ⟨rfl, hb1⟩))
    go_ret
    exact ⟨by simp, good_below (hw1 _) hb1⟩
  · go_enter Tryz.func65, Tryz.ntmps65
    go_wp2_with (go_at_call 79; go_must (refine (cn _ (hw1 _)).mono ?_; rintro e w1 ⟨rfl, hb1⟩; have hk : Blk w1 w.heap.size 34 #[.string nm, .int .i64 mn, .int .i64 mx] := Blk.below (heap_alloc_last w _) hb1; have e1 := hk.cell 1; have e2 := hk.cell 2; simp at e1 e2))
    all_goals
      go_ret
      refine ⟨congrArg (fun b => Ending.returned (Value.bool b)) ?_, good_below (hw1 _) hb1⟩
      simp
      try omega

set_option maxRecDepth 100000 in
theorem implBetween (r lo hi : Int) (w : World) : Calls Tryz.prog 80 #[.int .i64 r, .int .i64 lo, .int .i64 hi] w fun e w' => e = .returned (.bool (decide (lo ≤ r) && decide (r ≤ hi))) ∧ w' = w := by
  go_enter Tryz.func80, Tryz.ntmps80
  go_wp2_with fail
  all_goals
    go_ret
    refine ⟨congrArg (fun b => Ending.returned (Value.bool b)) ?_, rfl⟩
    simp
    try omega

/-- A need is of that name. -/
def ownB (rn : ByteArray) (x : Imp) : Bool := x.name.toList == rn.toList
set_option maxRecDepth 100000 in
theorem implOwn (nm : ByteArray) (mn mx : Int) (g : Nat) (rn : ByteArray) (w : World) (hc : w.cell? ⟨g, 0, none⟩ = some (.string rn)) (hg : g < w.heap.size) :
    Calls Tryz.prog 78 #[.agg #[.string nm, .int .i64 mn, .int .i64 mx], .pointer (some ⟨g, 0, none⟩)] w fun e w' => e = .returned (.bool (ownB rn ⟨nm, mn, mx⟩)) ∧ Below w.heap.size w w' := by
  have hw1 : ∀ o, Below w.heap.size w (w.alloc o) := fun o => (Below.refl _ w).alloc (Nat.le_refl _) _
  have hc1 : ∀ o, (w.alloc o).cell? ⟨g, 0, none⟩ = some (.string rn) := fun o => ((hw1 o).cell (p := ⟨g, 0, none⟩) hg).trans hc
  go_enter Tryz.func78, Tryz.ntmps78
  go_wp2_with fail
  go_ret
  refine ⟨congrArg (fun b => Ending.returned (Value.bool b)) ?_, hw1 _⟩
  simp [ownB]

theorem any_take (l : List Imp) (f : Imp → Bool) (k : Nat) (h : k < l.length) (h0 : (l.take k).any f = false) (h1 : f l[k] = false) : (l.take (k + 1)).any f = false := by
  rw [List.take_succ_eq_append_getElem h, List.any_append, h0]
  simp [h1]

set_option maxRecDepth 100000 in
set_option maxHeartbeats 1000000 in
theorem implIndex {S : Nat → Prop} {l : List Imp} {v : Value} {w : World} (hS : ∀ b, S b → b < w.heap.size) (h : ImpsAt S w v l) (g : Nat) (rn : ByteArray) (hc : w.cell? ⟨g, 0, none⟩ = some (.string rn)) (hg : g < w.heap.size) :
    Calls Tryz.prog 99 #[v, .func (.func 78) #[] #[.pointer (some ⟨g, 0, none⟩)]] w fun e w' => (∃ r : Int, e = .returned (.int .i64 r) ∧ decide (0 ≤ r) = l.any (ownB rn)) ∧ Below w.heap.size w w' := by
  obtain ⟨hlm, a, cap, rfl, hcs⟩ := h
  have HC : Hid _ := hcs
  have hlm' : (l.length : Int) ≤ 9223372036854775807 := by simp [maxLen] at hlm; omega
  clear hcs hlm
  go_enter Tryz.func99, Tryz.ntmps99
  go_wp2_with fail
  go_loopw [8] (fun i8 wr => ∃ (k : Nat), i8 = .int .i64 (k : Int) ∧ k ≤ l.length ∧ (l.take k).any (ownB rn) = false ∧ Below w.heap.size w wr) (fun i8 _ => l.length - (intOf i8).toNat)
  case atStart => exact ⟨0, rfl, by omega, by simp, Below.refl _ _⟩
  case round =>
    obtain ⟨k, rfl, hk, hany, hb⟩ := hrel
    have HA : Hid _ := hany
    clear hany
    by_cases hkn : k < l.length
    · have hkn' : (k : Int) < (l.length : Int) := by omega
      obtain ⟨b, off, rfl, hbB, hcell⟩ := HC.out (by omega)
      obtain ⟨x1, x2, x3⟩ := hcell k hkn
      have hbw := hS b hbB
      obtain ⟨x, hx⟩ : ∃ x, l[k] = x := ⟨_, rfl⟩
      have HX : Hid (l[k] = x) := hx
      rw [hx] at x1 x2 x3
      clear hx hcell
      obtain ⟨nm, mn, mx⟩ := x
      dsimp only at x1 x2 x3
      have d1 := (hb.cell (p := ⟨b, off + k * 3, none⟩) hbw).trans x1
      have d2 := (hb.cell (p := ⟨b, off + k * 3 + 1, none⟩) hbw).trans x2
      have d3 := (hb.cell (p := ⟨b, off + k * 3 + 2, none⟩) hbw).trans x3
      have cn := implOwn nm mn mx g rn wr ((hb.cell (p := ⟨g, 0, none⟩) hg).trans hc) (Nat.lt_of_lt_of_le hg hb.size)
      obtain ⟨B1, hB1⟩ : ∃ B1, ownB rn ⟨nm, mn, mx⟩ = B1 := ⟨_, rfl⟩
      rw [hB1] at cn
      have HB1 : Hid _ := hB1
      clear hB1
      cases B1
      · go_wp2_with (go_at_call 78; go_must (refine cn.mono ?_; rintro e w1 ⟨rfl, hb1⟩))
        exact ⟨⟨k + 1, rfl, by omega, any_take l _ k hkn HA.out (by rw [HX.out]; exact HB1.out), good_below hb hb1⟩, by simp [intOf]; omega⟩
      · go_wp2_with (go_at_call 78; go_must (refine cn.mono ?_; rintro e w1 ⟨rfl, hb1⟩))
        go_ret
        refine ⟨⟨_, rfl, ?_⟩, good_below hb hb1⟩
        rw [List.any_eq_true.2 ⟨l[k], List.getElem_mem hkn, by rw [HX.out]; exact HB1.out⟩]
        simp
    · have hkn' : ¬ ((k : Int) < (l.length : Int)) := by omega
      have hA := HA.out
      rw [List.take_of_length_le (by omega)] at hA
      go_wp2_with fail
      go_ret
      refine ⟨⟨_, rfl, ?_⟩, hb⟩
      first
        | (rw [hA]; rfl)
        | omega

set_option maxRecDepth 100000 in
theorem implContains {S : Nat → Prop} {l : List Imp} {v : Value} {w : World} (hS : ∀ b, S b → b < w.heap.size) (h : ImpsAt S w v l) (g : Nat) (rn : ByteArray) (hc : w.cell? ⟨g, 0, none⟩ = some (.string rn)) (hg : g < w.heap.size) :
    Calls Tryz.prog 81 #[v, .func (.func 78) #[] #[.pointer (some ⟨g, 0, none⟩)]] w fun e w' => e = .returned (.bool (l.any (ownB rn))) ∧ Below w.heap.size w w' := by
  have c := implIndex hS h g rn hc hg
  clear h hc
  go_enter Tryz.func81, Tryz.ntmps81
  go_wp2_with (go_at_call 99; go_must (refine c.mono ?_; rintro e w1 ⟨⟨r, rfl, hr⟩, hb1⟩))
  go_ret
  refine ⟨congrArg (fun b => Ending.returned (Value.bool b)) ?_, hb1⟩
  rw [← hr]
end Go.Proofs.YteokcdobapkkhaaGreatDoor

namespace Go.Proofs.YteokcdobapkkhaaGreatDoor
open Go.ChangeShapes Go.WideShapes Go.ChangeAt Go.RowKit
set_option linter.unusedVariables false

/-- A name of ss, behind those of seen, has stood ahead. -/
def dupFrom : List ByteArray → List ByteArray → Bool
  | [], _ => false
  | x :: l, seen => if hasB seen x then true else dupFrom l (seen ++ [x])
/-- f holds 1 of each text of seen, 0 of all others. -/
def Seen (f : Lit → Int) (seen : List ByteArray) : Prop := ∀ t : ByteArray, f (textKey t) = if hasB seen t then 1 else 0
theorem Seen.nil : Seen (fun _ => 0) [] := fun t => by simp [hasB]
theorem hasB_snoc (seen : List ByteArray) (x t : ByteArray) : hasB (seen ++ [x]) t = (hasB seen t || decide (x = t)) := by
  unfold hasB
  rw [List.any_append]
  simp [beq_bytes]
theorem Seen.put {f : Lit → Int} {seen : List ByteArray} (h : Seen f seen) (x : ByteArray) : Seen (upd f (textKey x) 1) (seen ++ [x]) := by
  intro t
  by_cases e : t = x
  · subst e
    rw [upd_same (by exact trivial), hasB_snoc]
    simp
  · rw [upd_other (fun h => e (textKey_inj h)), h t]
    have e' : x ≠ t := fun h => e h.symm
    rw [hasB_snoc]
    simp [e']

set_option maxRecDepth 100000 in
set_option maxHeartbeats 1000000 in
theorem implTwice (ss : List ByteArray) (a : Option Addr) (cap : Nat) (w : World) (hlen : ss.length ≤ 1000000) (hsz : ∀ s ∈ ss, s.size ≤ 1048576)
    (hc : 0 < ss.length → ∃ g, a = some ⟨g, 0, none⟩ ∧ g < w.heap.size ∧ ∀ j (hj : j < ss.length), w.cell? ⟨g, j, none⟩ = some (.string ss[j])) :
    Calls Tryz.prog 66 #[.slice a ss.length cap] w fun e w' => (∃ t, e = .returned (.tuple #[.string t, .bool (dupFrom ss [])])) ∧ Below w.heap.size w w' := by
  have hmm := @run_makeMap Tryz.prog
  have HC : Hid _ := hc
  have hlen' : (ss.length : Int) ≤ 1000000 := by omega
  have HZ : Hid _ := hsz
  clear hc hsz
  obtain ⟨F, hF⟩ : ∃ F, dupFrom ss [] = F := ⟨_, rfl⟩
  rw [hF]
  have HF : Hid (dupFrom ss [] = F) := hF
  clear hF
  go_enter Tryz.func66, Tryz.ntmps66
  go_wp2_with fail
  go_loopw [10] (fun i10 wr => ∃ (k : Nat) (f : Lit → Int), i10 = .int .i64 (k : Int) ∧ k ≤ ss.length ∧ Counts wr 9 w.heap.size k f ∧ Seen f (ss.take k) ∧ dupFrom (ss.drop k) (ss.take k) = F ∧ Below w.heap.size w wr) (fun i10 _ => ss.length - (intOf i10).toNat)
  case atStart => exact ⟨0, _, rfl, by omega, Counts.made _ _, by simpa using Seen.nil, by simpa using HF.out, (Below.refl _ w).alloc (Nat.le_refl _) _⟩
  case round =>
    obtain ⟨k, f, rfl, hk, hcn, hse, hfr, hb⟩ := hrel
    by_cases hkn : k < ss.length
    · have hkn' : (k : Int) < (ss.length : Int) := by omega
      obtain ⟨g, rfl, hgw, hcell⟩ := HC.out (by omega)
      have x1 := hcell k hkn
      rw [List.drop_eq_getElem_cons hkn] at hfr
      have hz := HZ.out ss[k] (List.getElem_mem hkn)
      have htk : ss.take (k + 1) = ss.take k ++ [ss[k]] := List.take_succ_eq_append_getElem hkn
      obtain ⟨s, hs⟩ : ∃ s, ss[k] = s := ⟨_, rfl⟩
      rw [hs] at x1 hfr hz htk
      clear hs hcell
      have d1 := (hb.cell (p := ⟨g, k, none⟩) hgw).trans x1
      have hkey : keyOf Tryz.prog 9 (.string s) = some (textKey s) := key9 (by simp [maxLen]; omega)
      have hfs := hse s
      simp only [dupFrom] at hfr
      obtain ⟨B1, hB1⟩ : ∃ B1, hasB (ss.take k) s = B1 := ⟨_, rfl⟩
      rw [hB1] at hfr hfs
      have hlk := (hcn.look law9 Tryz.underlying59 hkey).1
      clear x1 hB1
      have HCN : Hid _ := hcn
      have HSE : Hid _ := hse
      have HFR : Hid _ := hfr
      have HTK : Hid _ := htk
      have HKY : Hid _ := hkey
      clear hcn hse hfr htk hkey
      cases B1
      · rw [if_neg (by simp)] at hfs
        rw [hfs] at hlk
        clear hfs
        go_wp2_with (first
          | (at_mapUpdate; go_must (refine wpList_storeC _ rfl _ _ _ 59 rfl 9 law9 Tryz.underlying59 w.heap.size k f rfl HCN.out (by simp [maxLen]; omega) _ 1 _ rfl rfl HKY.out (by decide) ?_; intro w1 hc1 hg1; have HC1 : Hid _ := hc1; clear hc1))
          | (at_lookup; have hchk := HC1; refine wpList_lookC _ rfl _ _ 59 rfl 9 law9 Tryz.underlying59 w.heap.size (k + 1) _ rfl HC1.out _ _ rfl HKY.out ?_; rw [upd_same (by exact trivial)]))
        have hbb := hb.grown hg1 hb.size (fun j hj => by cases hj; exact Nat.le_refl _)
        refine ⟨⟨k + 1, _, rfl, by omega, HC1.out, ?_, ?_, hbb⟩, by simp [intOf]; omega⟩
        · rw [HTK.out]; exact Seen.put HSE.out s
        · have := HFR.out
          rw [if_neg (by simp)] at this
          rw [HTK.out]; exact this
      · rw [if_pos rfl] at hfs
        rw [hfs] at hlk
        clear hfs
        have hF := HFR.out
        rw [if_pos rfl] at hF
        subst hF
        go_wp2_with (first
          | (at_mapUpdate; go_must (refine wpList_storeC _ rfl _ _ _ 59 rfl 9 law9 Tryz.underlying59 w.heap.size k f rfl HCN.out (by simp [maxLen]; omega) _ 2 _ rfl rfl HKY.out (by decide) ?_; intro w1 hc1 hg1; have HC1 : Hid _ := hc1; clear hc1))
          | (at_lookup; have hchk := HC1; refine wpList_lookC _ rfl _ _ 59 rfl 9 law9 Tryz.underlying59 w.heap.size (k + 1) _ rfl HC1.out _ _ rfl HKY.out ?_; rw [upd_same (by exact trivial)]))
        have hbb := hb.grown hg1 hb.size (fun j hj => by cases hj; exact Nat.le_refl _)
        go_ret2
        exact ⟨⟨_, rfl⟩, hbb⟩
    · have hkn' : ¬ ((k : Int) < (ss.length : Int)) := by omega
      rw [List.drop_eq_nil_of_le (by omega)] at hfr
      simp only [dupFrom] at hfr
      subst hfr
      go_wp2_with fail
      go_ret2
      exact ⟨⟨_, rfl⟩, hb⟩

theorem wishes_split (nameB : ByteArray → Bool) : ∀ (l : List Imp) (seen : List ByteArray), wishesFrom nameB l seen = (l.all (needB nameB) && !dupFrom (l.map Imp.name) seen)
  | [], seen => by simp [wishesFrom, dupFrom]
  | x :: l, seen => by
    simp only [wishesFrom, List.all_cons, List.map_cons, dupFrom]
    rw [wishes_split nameB l]
    cases needB nameB x <;> cases hasB seen x.name <;> simp

theorem cell_lt {w : World} {g j : Nat} {v : Value} (h : w.cell? ⟨g, j, none⟩ = some v) : g < w.heap.size := by
  cases hh : w.heap[g]? with
  | none => simp [World.cell?, hh] at h
  | some o => exact (Array.getElem?_eq_some_iff.1 hh).1

set_option maxRecDepth 100000 in
set_option maxHeartbeats 1000000 in
theorem implWishes {S : Nat → Prop} {l : List Imp} {v : Value} {w : World} (hS : ∀ b, S b → b < w.heap.size) (h : ImpsAt S w v l) (hsz : ∀ x ∈ l, x.name.size ≤ 1048576) (hT : Lib.Utf8Tabs 0 1 w) :
    Calls Tryz.prog 40 #[v] w fun e w' => e = .returned (.bool (wishesB nameOK l)) ∧ Below w.heap.size w w' := by
  obtain ⟨hlm, a, cap, rfl, hc⟩ := h
  have HC : Hid _ := hc
  have HT : Hid (Lib.Utf8Tabs 0 1 w) := hT
  have HZ : Hid _ := hsz
  have hlm' : (l.length : Int) ≤ 9223372036854775807 := by simp [maxLen] at hlm; omega
  clear hc hlm hT hsz
  unfold wishesB
  by_cases h20 : 20 < l.length
  · rw [if_pos h20]
    have h20' : (20 : Int) < (l.length : Int) := by omega
    go_enter Tryz.func40, Tryz.ntmps40
    go_wp2_with fail
    go_ret
    exact ⟨rfl, Below.refl _ _⟩
  · rw [if_neg h20, wishes_split]
    have h20' : ¬ ((20 : Int) < (l.length : Int)) := by omega
    obtain ⟨F, hF⟩ : ∃ F, (l.all (needB nameOK) && !dupFrom (l.map Imp.name) []) = F := ⟨_, rfl⟩
    rw [hF]
    have HF : Hid _ := hF
    clear hF
    go_enter Tryz.func40, Tryz.ntmps40
    go_wp2_with fail
    go_loopw [3, 13] (fun i3 i13 wr => ∃ (k : Nat), i13 = .int .i64 (k : Int) ∧ k ≤ l.length ∧ OwnS w.heap.size wr i3 ((l.take k).map Imp.name) ∧ (l.take k).all (needB nameOK) = true ∧ Below w.heap.size w wr) (fun _ i13 _ => l.length - (intOf i13).toNat)
    case atStart => exact ⟨0, rfl, by omega, ⟨rfl, .inl ⟨rfl, rfl⟩⟩, by simp, Below.refl _ _⟩
    case round =>
      obtain ⟨k, rfl, hk, hown, hall, hb⟩ := hrel
      have HAL : Hid _ := hall
      clear hall
      by_cases hkn : k < l.length
      · have hkn' : (k : Int) < (l.length : Int) := by omega
        obtain ⟨b, off, rfl, hbB, hcell⟩ := HC.out (by omega)
        obtain ⟨x1, x2, x3⟩ := hcell k hkn
        have hbw := hS b hbB
        have htk : l.take (k + 1) = l.take k ++ [l[k]] := List.take_succ_eq_append_getElem hkn
        have hmem := List.getElem_mem hkn
        obtain ⟨x, hx⟩ : ∃ x, l[k] = x := ⟨_, rfl⟩
        rw [hx] at x1 x2 x3 htk hmem
        have HTK : Hid _ := htk
        have HM : Hid _ := hmem
        clear hx hcell htk hmem
        obtain ⟨nm, mn, mx⟩ := x
        dsimp only at x1 x2 x3
        have d1 := (hb.cell (p := ⟨b, off + k * 3, none⟩) hbw).trans x1
        have d2 := (hb.cell (p := ⟨b, off + k * 3 + 1, none⟩) hbw).trans x2
        have d3 := (hb.cell (p := ⟨b, off + k * 3 + 2, none⟩) hbw).trans x3
        obtain ⟨a3, c3, hv3, hs3⟩ := hown.value
        have hlen : ((l.take k).map Imp.name).length = k := by simp; omega
        rw [hlen] at hv3
        have HLN : Hid _ := hlen
        subst hv3
        clear hs3 hlen
        have HOW : Hid (OwnS w.heap.size wr (.slice a3 k c3) ((l.take k).map Imp.name)) := hown
        clear hown x1 x2 x3
        have cn := fun w' (hbb : Below w.heap.size w w') => implNeed nm mn mx w' (Utf8Tabs_below HT.out hbb)
        obtain ⟨B1, hB1⟩ : ∃ B1, needB nameOK ⟨nm, mn, mx⟩ = B1 := ⟨_, rfl⟩
        rw [hB1] at cn
        have HB1 : Hid _ := hB1
        clear hB1
        cases B1
        · have hno : l.all (needB nameOK) = false := by
            rw [List.all_eq_false]
            exact ⟨_, HM.out, by rw [HB1.out]; simp⟩
          have hF := HF.out
          rw [hno, Bool.false_and] at hF
          subst hF
          clear hno
          go_wp2_with (go_at_call 65; go_must (refine (cn _ (hb.alloc hb.size _)).mono ?_; rintro e w1 ⟨rfl, hb1⟩))
          go_ret
          exact ⟨by simp, (hb.alloc hb.size _).trans (hb1.mono (by have := hb.size; simp only [World.size_alloc]; omega))⟩
        · obtain ⟨ti, hti, ht0, ht1, ht2⟩ := info9
          go_wp2_with (first
            | (go_at_call 65; go_must (refine (cn _ (hb.alloc hb.size _)).mono ?_; rintro e w1 ⟨rfl, hb1⟩; have hk1 : Blk w1 wr.heap.size 34 #[.string nm, .int .i64 mn, .int .i64 mx] := Blk.below (heap_alloc_last wr _) hb1; have e1 := hk1.cell 0; simp at e1))
            | (at_builtin; go_must (refine wpList_appendS rfl (.tmp 20) (.tmp 23) 28 rfl Tryz.underlying28 ti hti ht0 ht1 ht2 w.heap.size (.slice a3 k c3) ((l.take k).map Imp.name) rfl ((HOW.out.below ((Below.refl _ wr).alloc (Nat.le_refl _) _)).below hb1 |>.below ((Below.refl _ w1).alloc (Nat.le_refl _) _)) ⟨w1.heap.size, 0, none⟩ 1 nm rfl (new_cell w1 nm) (by have := HLN.out; omega) (by have := hb.size; have := hb1.size; simp only [World.size_alloc] at *; omega) ?_; intro v4 w4 hown4 hB4 hgr4)))
          have hbb := (hb.alloc hb.size (.cells #[.string nm, .int .i64 mn, .int .i64 mx] 34)).trans (hb1.mono (by have := hb.size; simp only [World.size_alloc]; omega))
          refine ⟨⟨k + 1, rfl, by omega, ?_, ?_, (hbb.alloc hbb.size _).trans hB4⟩, by simp [intOf]; omega⟩
          · rw [HTK.out, List.map_append]; exact hown4
          · rw [HTK.out, List.all_append, HAL.out]; simp [HB1.out]
      · have hkl : k = l.length := by omega
        subst hkl
        have hall := HAL.out
        simp only [List.take_length] at hown hall
        have hkn' : ¬ ((l.length : Int) < (l.length : Int)) := by omega
        obtain ⟨a3, c3, hv3, hs3⟩ := hown.value
        subst hv3
        have hF := HF.out
        rw [hall, Bool.true_and] at hF
        have ct := implTwice (l.map Imp.name) a3 c3 wr (by simp; omega) (fun s hs => by
          obtain ⟨x, hx, rfl⟩ := List.mem_map.1 hs
          exact HZ.out x hx) (fun h0 => by
            obtain ⟨g, hg, hcc⟩ := hs3 h0
            exact ⟨g, hg, cell_lt (hcc 0 h0), hcc⟩)
        obtain ⟨D, hD⟩ : ∃ D, dupFrom (l.map Imp.name) [] = D := ⟨_, rfl⟩
        rw [hD] at ct hF
        rw [List.length_map] at ct
        clear hD hall hown hs3
        subst hF
        go_wp2_with (go_at_call 66; go_must (refine ct.mono ?_; rintro e w1 ⟨⟨t, rfl⟩, hb1⟩))
        go_ret
        exact ⟨rfl, good_below hb hb1⟩

/-- A release by itself. -/
def soloB (nameB : ByteArray → Bool) (r : Rel) : Bool := nameB r.name && (decide (1 ≤ r.ver) && decide (r.ver ≤ 999999)) && wishesB nameB r.needs && !(r.needs.any (ownB r.name))
theorem rel_solo (nameB : ByteArray → Bool) (pre : List Rel) (r : Rel) : relB nameB pre r = (soloB nameB r && !(pre.any fun q => q.name.toList == r.name.toList && q.ver == r.ver)) := by
  unfold relB soloB ownB
  cases nameB r.name <;> cases decide (1 ≤ r.ver) <;> simp

set_option maxRecDepth 100000 in
set_option maxHeartbeats 1000000 in
theorem implRelease {S : Nat → Prop} (x : Rel) (nv : Value) (w : World) (hS : ∀ b, S b → b < w.heap.size) (h : ImpsAt S w nv x.needs) (hsz : ∀ y ∈ x.needs, y.name.size ≤ 1048576) (hT : Lib.Utf8Tabs 0 1 w) :
    Calls Tryz.prog 64 #[.agg #[.string x.name, .int .i64 x.ver, nv]] w fun e w' => e = .returned (.bool (soloB nameOK x)) ∧ Below w.heap.size w w' := by
  obtain ⟨nm, ve, ns⟩ := x
  dsimp only at h hsz ⊢
  have hmf : ∀ (fn : Fn) (first cap : Array Value) (w : World), (Instr.makeFunc fn first cap).run Tryz.prog w = .ok (.func fn first cap) w := fun _ _ _ _ => rfl
  have hw1 : ∀ o, Below w.heap.size w (w.alloc o) := fun o => (Below.refl _ w).alloc (Nat.le_refl _) _
  have cn := fun w' (hb : Below w.heap.size w w') => implNameOK nm w' (Utf8Tabs_below hT hb)
  have cb := fun w' => implBetween ve 1 999999 w'
  have ca := fun w' (hb : Below w.heap.size w w') => implWishes (fun b hbs => Nat.lt_of_lt_of_le (hS b hbs) hb.size) (h.keep (cells_below hS hb)) hsz (Utf8Tabs_below hT hb)
  have cc := fun w' (hb : Below w.heap.size w w') (hcell : w'.cell? ⟨w.heap.size, 0, none⟩ = some (.string nm)) => implContains (fun b hbs => Nat.lt_of_lt_of_le (hS b hbs) hb.size) (h.keep (cells_below hS hb)) w.heap.size nm hcell (cell_lt hcell)
  unfold soloB
  dsimp only
  obtain ⟨B1, hB1⟩ : ∃ B1, nameOK nm = B1 := ⟨_, rfl⟩
  obtain ⟨B2, hB2⟩ : ∃ B2, (decide (1 ≤ ve) && decide (ve ≤ 999999)) = B2 := ⟨_, rfl⟩
  obtain ⟨B3, hB3⟩ : ∃ B3, wishesB nameOK ns = B3 := ⟨_, rfl⟩
  obtain ⟨B4, hB4⟩ : ∃ B4, ns.any (ownB nm) = B4 := ⟨_, rfl⟩
  rw [hB1, hB2, hB3, hB4]
  rw [hB1] at cn
  rw [hB2] at cb
  rw [hB3] at ca
  rw [hB4] at cc
  clear hB1 hB2 hB3 hB4 h hsz hT
  have hk : ∀ W, Below (w.heap.size + 1) (w.alloc (.cells #[.string nm, .int .i64 ve, nv] 36)) W → Blk W w.heap.size 36 #[.string nm, .int .i64 ve, nv] := fun W hb => Blk.below (heap_alloc_last w _) (by simpa only [World.size_alloc] using hb)
  cases B1
  · go_enter Tryz.func64, Tryz.ntmps64
    go_wp2_with (go_at_call 79; go_must (refine (cn _ (hw1 _)).mono ?_; rintro e w1 ⟨rfl, hb1⟩))
    go_ret
    exact ⟨by simp, good_below (hw1 _) hb1⟩
  cases B2
  · go_enter Tryz.func64, Tryz.ntmps64
    go_wp2_with (first
      | (go_at_call 79; go_must (refine (cn _ (hw1 _)).mono ?_; rintro e w1 ⟨rfl, hb1⟩; have hk1 : Blk w1 w.heap.size 36 #[.string nm, .int .i64 ve, nv] := Blk.below (heap_alloc_last w _) hb1; have e1 := hk1.cell 1; simp at e1))
      | (go_at_call 80; go_must (refine (cb _).mono ?_; rintro e w2 ⟨rfl, rfl⟩)))
    go_ret
    exact ⟨by simp, good_below (hw1 _) hb1⟩
  cases B3
  · go_enter Tryz.func64, Tryz.ntmps64
    go_wp2_with (first
      | (go_at_call 79; go_must (refine (cn _ (hw1 _)).mono ?_; rintro e w1 ⟨rfl, hb1⟩; have hk1 : Blk w1 w.heap.size 36 #[.string nm, .int .i64 ve, nv] := Blk.below (heap_alloc_last w _) hb1; have e1 := hk1.cell 1; have e2 := hk1.cell 2; simp at e1 e2))
      | (go_at_call 80; go_must (refine (cb _).mono ?_; rintro e w2 ⟨rfl, rfl⟩))
      | (go_at_call 40; go_must (refine (ca _ (good_below (hw1 _) hb1)).mono ?_; rintro e w3 ⟨rfl, hb3⟩)))
    go_ret
    exact ⟨by simp, good_below (good_below (hw1 _) hb1) hb3⟩
  · go_enter Tryz.func64, Tryz.ntmps64
    go_wp2_with (first
      | (go_at_call 79; go_must (refine (cn _ (hw1 _)).mono ?_; rintro e w1 ⟨rfl, hb1⟩; have hk1 : Blk w1 w.heap.size 36 #[.string nm, .int .i64 ve, nv] := Blk.below (heap_alloc_last w _) hb1; have e1 := hk1.cell 1; have e2 := hk1.cell 2; simp at e1 e2))
      | (go_at_call 80; go_must (refine (cb _).mono ?_; rintro e w2 ⟨rfl, rfl⟩))
      | (go_at_call 40; go_must (refine (ca _ (good_below (hw1 _) hb1)).mono ?_; rintro e w3 ⟨rfl, hb3⟩; have hk3 : Blk w3 w.heap.size 36 #[.string nm, .int .i64 ve, nv] := hk1.below hb3; have e3 := hk3.cell 2; have e4 := hk3.cell 0; simp at e3 e4))
      | (go_at_call 81; go_must (refine (cc _ (good_below (good_below (hw1 _) hb1) hb3) e4).mono ?_; rintro e w4 ⟨rfl, hb4⟩)))
    go_ret
    exact ⟨by cases B4 <;> rfl, good_below (good_below (good_below (hw1 _) hb1) hb3) hb4⟩
end Go.Proofs.YteokcdobapkkhaaGreatDoor

namespace Go.Proofs.YteokcdobapkkhaaGreatDoor
open Go.ChangeShapes Go.WideShapes Go.ChangeAt Go.RowKit
set_option linter.unusedVariables false

/-- f holds 1 of each release of pre, 0 of all others. -/
def SeenR (f : Lit → Int) (pre : List Rel) : Prop := ∀ (nm : ByteArray) (ve : Int) (kl : Lit), keyOf Tryz.prog 41 (pickVal nm ve) = some kl → f kl = if pre.any (fun q => q.name.toList == nm.toList && q.ver == ve) then 1 else 0
theorem SeenR.put {f : Lit → Int} {pre : List Rel} (h : SeenR f pre) {x : Rel} {kx : Lit} (hk : keyOf Tryz.prog 41 (pickVal x.name x.ver) = some kx) : SeenR (upd f kx 1) (pre ++ [x]) := by
  intro nm ve kl hkl
  have ha : (pre ++ [x]).any (fun q => q.name.toList == nm.toList && q.ver == ve) = (pre.any (fun q => q.name.toList == nm.toList && q.ver == ve) || (x.name.toList == nm.toList && x.ver == ve)) := by
    rw [List.any_append]; simp
  by_cases e : kl = kx
  · subst e
    obtain ⟨h1, h2⟩ := key44_inj hk hkl
    rw [upd_same (law44.key hk), ha, h1, h2]
    simp
  · rw [upd_other e, h nm ve kl hkl, ha]
    have hne : (x.name.toList == nm.toList && x.ver == ve) = false := by
      rw [beq_bytes]
      cases hd : (decide (x.name = nm) && x.ver == ve)
      · rfl
      · simp at hd
        rw [hd.1, hd.2, hkl] at hk
        exact absurd (Option.some.inj hk) e
    rw [hne, Bool.or_false]

set_option maxRecDepth 100000 in
set_option maxHeartbeats 2000000 in
theorem implStore : ImplStore (Lib.Utf8Tabs 0 1) nameOK := by
  intro S l v w hS h hl hok hT
  obtain ⟨hlm, a, cap, rfl, hc⟩ := h
  have hmm := @run_makeMap Tryz.prog
  have HC : Hid _ := hc
  have HT : Hid (Lib.Utf8Tabs 0 1 w) := hT
  have HZ : Hid _ := hok
  have hlm' : (l.length : Int) ≤ 9223372036854775807 := by simp [maxLen] at hlm; omega
  clear hc hlm hT hok
  by_cases h200 : 200 < l.length
  · have e0 : storeB nameOK l = false := by simp [storeB]; omega
    rw [e0]
    have h200' : (200 : Int) < (l.length : Int) := by omega
    go_enter Tryz.func39, Tryz.ntmps39
    go_wp2_with fail
    go_ret
    exact ⟨rfl, Below.refl _ _⟩
  · have h200' : ¬ ((200 : Int) < (l.length : Int)) := by omega
    obtain ⟨F, hF⟩ : ∃ F, storeB nameOK l = F := ⟨_, rfl⟩
    rw [hF]
    have HF : Hid _ := hF
    clear hF
    go_enter Tryz.func39, Tryz.ntmps39
    go_wp2_with fail
    go_loopw [13] (fun i13 wr => ∃ (k : Nat) (f : Lit → Int), i13 = .int .i64 (k : Int) ∧ k ≤ l.length ∧ Counts wr 41 w.heap.size k f ∧ SeenR f (l.take k) ∧ (∀ i (hi : i < l.length), i < k → relB nameOK (l.take i) l[i] = true) ∧ Below w.heap.size w wr) (fun i13 _ => l.length - (intOf i13).toNat)
    case atStart => exact ⟨0, _, rfl, by omega, Counts.made _ _, fun nm ve kl hk => by simp, fun i hi h0 => by omega, (Below.refl _ w).alloc (Nat.le_refl _) _⟩
    case round =>
      obtain ⟨k, f, rfl, hk, hcn, hse, hall, hb⟩ := hrel
      have HCN : Hid _ := hcn
      have HSE : Hid _ := hse
      have HAL : Hid _ := hall
      clear hcn hse hall
      by_cases hkn : k < l.length
      · have hkn' : (k : Int) < (l.length : Int) := by omega
        obtain ⟨b, off, rfl, hbB, hcell⟩ := HC.out (by omega)
        obtain ⟨x1, x2, nv, x3, hnv⟩ := hcell k hkn
        have hbw := hS b hbB
        have htk : l.take (k + 1) = l.take k ++ [l[k]] := List.take_succ_eq_append_getElem hkn
        have hmem := List.getElem_mem hkn
        obtain ⟨x, hx⟩ : ∃ x, l[k] = x := ⟨_, rfl⟩
        have HX : Hid (l[k] = x) := hx
        rw [hx] at x1 x2 hnv htk hmem
        have hzx := HZ.out x hmem
        have HTK : Hid _ := htk
        clear hx hcell htk hmem
        have hrs := rel_solo nameOK (l.take k) x
        have HRS : Hid _ := hrs
        clear hrs
        have cr := fun w' (hbb : Below w.heap.size w w') => implRelease x nv w' (fun c hc => Nat.lt_of_lt_of_le (hS c hc) hbb.size) (hnv.keep (cells_below hS hbb)) (fun y hy => by have := hzx.2.2 y hy; unfold ImpOK at this; omega) (Utf8Tabs_below HT.out hbb)
        obtain ⟨na, nc, rfl⟩ := hnv.shape
        have HNV : Hid _ := hnv
        have HZX : Hid _ := hzx
        clear hnv hzx
        obtain ⟨B1, hB1⟩ : ∃ B1, soloB nameOK x = B1 := ⟨_, rfl⟩
        rw [hB1] at cr
        have HB1 : Hid _ := hB1
        clear hB1
        obtain ⟨nm, ve, ns⟩ := x
        dsimp only at x1 x2 cr
        have d1 := (hb.cell (p := ⟨b, off + k * 3, none⟩) hbw).trans x1
        have d2 := (hb.cell (p := ⟨b, off + k * 3 + 1, none⟩) hbw).trans x2
        have d3 := (hb.cell (p := ⟨b, off + k * 3 + 2, none⟩) hbw).trans x3
        clear x1 x2 x3
        cases B1
        · have hno : storeB nameOK l = false := store_bad hkn (by rw [HX.out, HRS.out, HB1.out]; rfl)
          have hF := HF.out
          rw [hno] at hF
          subst hF
          clear hno
          go_wp2_with (go_at_call 64; go_must (refine (cr _ (hb.alloc hb.size _)).mono ?_; rintro e w1 ⟨rfl, hb1⟩))
          go_ret
          exact ⟨rfl, (hb.alloc hb.size _).trans (hb1.mono (by have := hb.size; simp only [World.size_alloc]; omega))⟩
        · have hve : 1 ≤ ve ∧ ve ≤ 999999 := by
            have := HB1.out
            simp [soloB] at this
            exact this.1.1.2
          have hnm : nm.size ≤ 1048576 := by have := HZX.out.1; dsimp only at this; omega
          obtain ⟨kl, hkl⟩ := key44 (s := nm) (v := ve) (by simp [maxLen]; omega) (WalkArith.wf_i64 (by omega))
          have HKL : Hid _ := hkl
          clear hkl
          go_upto_region 10 with (go_at_call 64; go_must (refine (cr _ (hb.alloc hb.size _)).mono ?_; rintro e w1 ⟨rfl, hb1⟩; have hk1 : Blk w1 wr.heap.size 36 #[.string nm, .int .i64 ve, .slice na ns.length nc] := Blk.below (heap_alloc_last wr _) hb1; have e1 := hk1.cell 0; have e2 := hk1.cell 1; simp at e1 e2))
          have hbA := (hb.alloc hb.size (.cells #[.string nm, .int .i64 ve, .slice na ns.length nc] 36)).trans (hb1.mono (by have := hb.size; simp only [World.size_alloc]; omega))
          have hcA : Counts (w1.alloc (.cells #[.string nm, .int .i64 ve] 41)).drew 41 w.heap.size k f := ((Counts.alloc HCN.out _).below hb1).alloc _
          have hgA : w.heap.size < w1.heap.size := by
            have q1 := hb1.size
            have q2 := (show Counts wr 41 w.heap.size k f from HCN.out).lt
            simp only [World.size_alloc] at q1
            omega
          have hfk := HSE.out nm ve kl HKL.out
          have hlk := (hcA.look law44 Tryz.underlying111 HKL.out).1
          obtain ⟨P1, hP1⟩ : ∃ P1, ((l.take k).any fun q => q.name.toList == nm.toList && q.ver == ve) = P1 := ⟨_, rfl⟩
          have HP1 : Hid _ := hP1
          rw [hP1] at hfk
          clear hP1
          cases P1
          · rw [if_neg (by simp)] at hfk
            obtain ⟨st, W1, W2, g1, g2, g3, g4, g5⟩ := hcA.entry (by simp [maxLen]; omega) HKL.out (c := 1) (by decide)
            rw [hfk] at g1 g2 hlk
            unfold pickVal at g1 g2 hlk
            have HC2 : Hid (Counts W2 41 w.heap.size (k + 1) (upd f kl 1)) := g4
            have hkb : Blk W2 w1.heap.size 41 #[.string nm, .int .i64 ve] := (g5.block w1.heap.size (by show w1.heap.size < (w1.alloc _).heap.size; simp only [World.size_alloc]; omega) (by simp; omega)).trans (heap_alloc_last w1 _)
            have hbB2 : Below w.heap.size w W2 := (hbA.alloc hbA.size (.cells #[.string nm, .int .i64 ve] 41)).drew.grown g5 (by show w.heap.size ≤ (w1.alloc _).heap.size; simp only [World.size_alloc]; omega) (fun j hj => by cases hj; exact Nat.le_refl _)
            have hl2 := (Counts.look HC2.out law44 Tryz.underlying111 HKL.out).1
            rw [upd_same (law44.key HKL.out)] at hl2
            unfold pickVal at hl2
            have k0 := hkb.cell 0
            have k1 := hkb.cell 1
            simp at k0 k1
            clear hfk g4 g5 hcA hkb
            go_cut [13] from 25 (fun s13 wx => s13 = .int .i64 (k : Int) ∧ wx = W2)
            case first =>
              go_region
              all_goals
                go_wp2_with fail
                go_meet
                exact ⟨rfl, rfl⟩
            case rest =>
              obtain ⟨rfl, rfl⟩ := hcut
              clear g1 g2 g3 hlk
              go_wp2_with fail
              refine ⟨⟨k + 1, _, rfl, by omega, HC2.out, ?_, ?_, hbB2⟩, by simp [intOf]; omega⟩
              · rw [HTK.out]; exact SeenR.put HSE.out (x := ⟨nm, ve, ns⟩) HKL.out
              · intro i hi hik
                by_cases hie : i < k
                · exact HAL.out i hi hie
                · have : i = k := by omega
                  subst this
                  rw [HX.out, HRS.out, HB1.out, HP1.out]; rfl
          · rw [if_pos rfl] at hfk
            obtain ⟨st, W1, W2, g1, g2, g3, g4, g5⟩ := hcA.entry (by simp [maxLen]; omega) HKL.out (c := 2) (by decide)
            rw [hfk] at g1 g2 hlk
            unfold pickVal at g1 g2 hlk
            have HC2 : Hid (Counts W2 41 w.heap.size (k + 1) (upd f kl 2)) := g4
            have hkb : Blk W2 w1.heap.size 41 #[.string nm, .int .i64 ve] := (g5.block w1.heap.size (by show w1.heap.size < (w1.alloc _).heap.size; simp only [World.size_alloc]; omega) (by simp; omega)).trans (heap_alloc_last w1 _)
            have hbB2 : Below w.heap.size w W2 := (hbA.alloc hbA.size (.cells #[.string nm, .int .i64 ve] 41)).drew.grown g5 (by show w.heap.size ≤ (w1.alloc _).heap.size; simp only [World.size_alloc]; omega) (fun j hj => by cases hj; exact Nat.le_refl _)
            have hl2 := (Counts.look HC2.out law44 Tryz.underlying111 HKL.out).1
            rw [upd_same (law44.key HKL.out)] at hl2
            unfold pickVal at hl2
            have k0 := hkb.cell 0
            have k1 := hkb.cell 1
            simp at k0 k1
            clear hfk g4 g5 hcA hkb
            go_cut [13] from 25 (fun s13 wx => s13 = .int .i64 (k : Int) ∧ wx = W2)
            case first =>
              go_region
              all_goals
                go_wp2_with fail
                go_meet
                exact ⟨rfl, rfl⟩
            case rest =>
              obtain ⟨rfl, rfl⟩ := hcut
              clear g1 g2 g3 hlk
              have hno : storeB nameOK l = false := store_bad hkn (by rw [HX.out, HRS.out, HB1.out, HP1.out]; rfl)
              have hF := HF.out
              rw [hno] at hF
              subst hF
              clear hno
              go_wp2_with fail
              go_ret
              exact ⟨rfl, hbB2⟩
      · have hkl : k = l.length := by omega
        subst hkl
        have hkn' : ¬ ((l.length : Int) < (l.length : Int)) := by omega
        have hyes : storeB nameOK l = true := store_good (by omega) (fun i hi => HAL.out i hi hi)
        have hF := HF.out
        rw [hyes] at hF
        subst hF
        clear hyes
        go_wp2_with fail
        go_ret
        exact ⟨rfl, hb⟩
end Go.Proofs.YteokcdobapkkhaaGreatDoor

namespace Go.Proofs.YteokcdobapkkhaaGreatDoor
open Go.ChangeShapes Go.WideShapes Go.ChangeAt Go.RowKit Go.Maps
set_option linter.unusedVariables false

theorem store_rel {nameB : ByteArray → Bool} {l : List Rel} (h : storeB nameB l = true) : l.length ≤ 200 ∧ ∀ i (hi : i < l.length), relB nameB (l.take i) l[i] = true := by
  unfold storeB at h
  simp only [Bool.and_eq_true, decide_eq_true_eq, List.all_eq_true] at h
  refine ⟨h.1, fun i hi => ?_⟩
  have := h.2 i (by simpa using hi)
  rwa [List.getElem?_eq_getElem hi] at this
theorem wishes_fine {nameB : ByteArray → Bool} {ns : List Imp} (h : wishesB nameB ns = true) : ns.length ≤ 20 ∧ ∀ m ∈ ns, 0 ≤ m.mx := by
  unfold wishesB at h
  split at h
  · cases h
  · refine ⟨by omega, fun m hm => ?_⟩
    rw [wishes_split] at h
    simp only [Bool.and_eq_true, List.all_eq_true] at h
    have := h.1 m hm
    simp only [needB, Bool.and_eq_true, decide_eq_true_eq] at this
    omega
theorem store_apart {nameB : ByteArray → Bool} {l : List Rel} (h : storeB nameB l = true) {i j : Nat} (hij : i < j) (hj : j < l.length) : relPk (l[i]'(by omega)) ≠ relPk l[j] := by
  intro e
  have hr := (store_rel h).2 j hj
  simp only [relPk, Pk.mk.injEq] at e
  simp only [relB, Bool.and_eq_true, Bool.not_eq_true', List.any_eq_false] at hr
  have := hr.2 (l[i]'(by omega)) (by rw [List.mem_take_iff_getElem]; exact ⟨i, by omega, rfl⟩)
  exact this (by rw [beq_bytes]; simp [e.1, e.2])
theorem store_one {nameB : ByteArray → Bool} {l : List Rel} (h : storeB nameB l = true) {r r' : Rel} (hr : r ∈ l) (hr' : r' ∈ l) (e : relPk r = relPk r') : r = r' := by
  obtain ⟨i, hi, rfl⟩ := List.getElem_of_mem hr
  obtain ⟨j, hj, rfl⟩ := List.getElem_of_mem hr'
  rcases Nat.lt_trichotomy i j with q | q | q
  · exact absurd e (store_apart h q hj)
  · subst q; rfl
  · exact absurd e.symm (store_apart h q hi)
open Classical in
/-- The needs of a release. -/
noncomputable def needsOf (l : List Rel) (p : Pk) : List Imp := if h : ∃ r, r ∈ l ∧ relPk r = p then (Classical.choose h).needs else []
theorem needsOf_eq {nameB : ByteArray → Bool} {l : List Rel} (h : storeB nameB l = true) : ∀ r ∈ l, needsOf l (relPk r) = r.needs := by
  intro r hr
  have hex : ∃ r', r' ∈ l ∧ relPk r' = relPk r := ⟨r, hr, rfl⟩
  unfold needsOf
  rw [dif_pos hex]
  obtain ⟨h1, h2⟩ := Classical.choose_spec hex
  rw [store_one h h1 hr h2]
theorem name_empty : nameOK ⟨#[]⟩ = false := by decide
theorem store_fine {l : List Rel} {ws : List Imp} (h : storeB nameOK l = true) (hz : ∀ x ∈ l, RelOK 1048576 x) (hw : ∀ m ∈ ws, 0 ≤ m.mx ∧ m.name.size ≤ 1048576) (hwl : ws.length ≤ 21) : Fine l ws where
  len := (store_rel h).1
  rel := fun r hr => by
    obtain ⟨i, hi, rfl⟩ := List.getElem_of_mem hr
    have := (store_rel h).2 i hi
    simp only [relB, Bool.and_eq_true, decide_eq_true_eq] at this
    refine ⟨fun e => ?_, by have := (hz _ hr).1; omega, by omega, by omega⟩
    have hn := this.1.1.1.1.1
    rw [e, name_empty] at hn
    cases hn
  need := fun r hr m hm => by
    obtain ⟨i, hi, rfl⟩ := List.getElem_of_mem hr
    have := (store_rel h).2 i hi
    simp only [relB, Bool.and_eq_true, decide_eq_true_eq] at this
    refine ⟨(wishes_fine this.1.1.2).2 m hm, by have h1 := (hz _ hr).2.2 m hm; unfold ImpOK at h1; omega⟩
  wish := hw
  few := (store_needs h).2
  fewW := hwl
/-- A map's block is no row's. -/
theorem need_apart {B g n k m : Nat} {w : World} {v : Value} {e : TypeId} {xs : List Value} {f : Lit → Value} (h : NeedsAt w g n f) (ho : w.ownsRow B e k v m xs) : some g ≠ v.ownBlock := by
  obtain ⟨D, ⟨es, clock, hbk, _⟩, _⟩ := h
  rcases ho.2 with ⟨rfl, _⟩ | ⟨g', cap, cur, rfl, _, hg, _⟩
  · simp [Value.ownBlock]
  · simp only [Value.ownBlock, ne_eq, Option.some.injEq]
    intro e1
    subst e1
    rw [hbk] at hg
    cases hg
theorem need_blk {g g' n : Nat} {w : World} {e : TypeId} {cs : Array Value} {f : Lit → Value} (h : NeedsAt w g n f) (hb : Blk w g' e cs) : g ≠ g' := by
  intro e1
  subst e1
  obtain ⟨D, ⟨es, clock, hbk, _⟩, _⟩ := h
  rw [show w.heap[g]? = _ from hb] at hbk
  cases hbk
end Go.Proofs.YteokcdobapkkhaaGreatDoor

namespace Go.Proofs.YteokcdobapkkhaaGreatDoor
open Go.ChangeShapes Go.WideShapes Go.ChangeAt Go.RowKit
set_option linter.unusedVariables false

noncomputable def newestF (l : List Rel) (ws : List Imp) : List Pk × Int :=
  if codeB nameOK l ws = 0 then (if (choiceOf l ws).2.1 = 0 then (newestOf l (choiceOf l ws).1 ws, 0) else ([], (choiceOf l ws).2.1)) else ([], codeB nameOK l ws)
theorem choice_one (l : List Rel) (ws : List Imp) : (choiceOf l ws).1 = [] ∨ (choiceOf l ws).1 = pickedOf l ws := by
  unfold choiceOf finish
  split
  · exact .inl rfl
  · split
    · exact .inl rfl
    · split
      · exact .inl rfl
      · exact .inr rfl
theorem choice_in {nameB : ByteArray → Bool} (l : List Rel) (ws : List Imp) (h : storeB nameB l = true) : (∀ n ∈ (choiceOf l ws).1, n < l.length) ∧ (choiceOf l ws).1.length ≤ 200 := by
  rcases choice_one l ws with e | e
  · rw [e]; exact ⟨fun n hn => (by cases hn), by simp⟩
  · rw [e]
    refine ⟨fun n hn => best_lt (marks_len l ws) n hn, ?_⟩
    have h1 := picked_len l (marksOf l ws)
    have h2 := (store_needs h).1
    unfold pickedOf
    omega
theorem all_succ {l : List Rel} {NS : List Nat} {ws : List Imp} {k : Nat} (hk : k < NS.length) {r : Rel} (hr : l[NS[k]]? = some r) : allNeeds l (NS.take (k + 1)) ws = allNeeds l (NS.take k) ws ++ r.needs := by
  unfold allNeeds
  rw [List.take_succ_eq_append_getElem hk, List.flatMap_append, List.append_assoc]
  simp [hr]
theorem all_len {l : List Rel} {NS : List Nat} {ws : List Imp} (hw : ws.length ≤ 21) (hl : ∀ r ∈ l, r.needs.length ≤ 20) (hN : ∀ n ∈ NS, n < l.length) : ∀ k, k ≤ NS.length → (allNeeds l (NS.take k) ws).length ≤ 21 + 20 * k := by
  intro k
  induction k with
  | zero => intro _; simp [allNeeds]; omega
  | succ k ih =>
    intro hk
    have hk' : k < NS.length := by omega
    have hn := hN _ (List.getElem_mem hk')
    rw [all_succ hk' (List.getElem?_eq_getElem hn), List.length_append]
    have h1 := ih (by omega)
    have h2 := hl _ (List.getElem_mem hn)
    omega
/-- Whether the k-th release stands for a name by the first j needs. -/
def fitsUp (ns : List Imp) (nm : ByteArray) (r : Rel) (j : Nat) : Bool := fitsN (ns.take j) nm r
theorem fitsUp_zero (ns : List Imp) (nm : ByteArray) (r : Rel) : fitsUp ns nm r 0 = (r.name.toList == nm.toList) := by simp [fitsUp, fitsN]
theorem fitsUp_succ {ns : List Imp} {nm : ByteArray} {r : Rel} {j : Nat} (hj : j < ns.length) : fitsUp ns nm r (j + 1) = (fitsUp ns nm r j && !(ns[j].name.toList == nm.toList && decide (ns[j].mx < r.ver))) := by
  unfold fitsUp fitsN
  rw [List.take_succ_eq_append_getElem hj, List.all_append, ← Bool.and_assoc]
  simp
def newUp (l : List Rel) (ns : List Imp) (nm : ByteArray) (k : Nat) : Int := newestV (l.take k) ns nm
theorem newUp_succ {l : List Rel} {ns : List Imp} {nm : ByteArray} {k : Nat} (hk : k < l.length) : newUp l ns nm (k + 1) = if fitsN ns nm l[k] then max (newUp l ns nm k) l[k].ver else newUp l ns nm k := by
  unfold newUp newestV
  rw [List.take_succ_eq_append_getElem hk, List.foldl_append]
  rfl
theorem newUp_bound {l : List Rel} {ns : List Imp} {nm : ByteArray} (h : ∀ r ∈ l, 0 ≤ r.ver ∧ r.ver ≤ 999999) : ∀ k, k ≤ l.length → 0 ≤ newUp l ns nm k ∧ newUp l ns nm k ≤ 999999 := by
  intro k
  induction k with
  | zero => intro _; simp [newUp, newestV]
  | succ k ih =>
    intro hk
    have h1 := ih (by omega)
    have h2 := h l[k] (List.getElem_mem (by omega))
    rw [newUp_succ (by omega)]
    split <;> omega
theorem newest_snoc {l : List Rel} {NS : List Nat} {ws : List Imp} {k : Nat} (hk : k < NS.length) (ns : List Imp) : ((NS.take (k + 1)).map fun n => (⟨(pickAt l n).name, newestV l ns (pickAt l n).name⟩ : Pk)) = ((NS.take k).map fun n => (⟨(pickAt l n).name, newestV l ns (pickAt l n).name⟩ : Pk)) ++ [⟨(pickAt l NS[k]).name, newestV l ns (pickAt l NS[k]).name⟩] := by
  rw [List.take_succ_eq_append_getElem hk, List.map_append]; rfl
theorem empty_pk (B : Nat) (w : World) (hB : B ≤ w.heap.size) : OwnP B (w.alloc (.cells #[] 41)) (.slice (some ⟨w.heap.size, 0, none⟩) 0 0) [] :=
  ⟨rfl, .inr ⟨w.heap.size, 0, #[], rfl, hB, heap_alloc_last w _, Nat.le_refl _, Nat.zero_le _, rfl, rfl⟩⟩
theorem empty_imp (B : Nat) (w : World) (hB : B ≤ w.heap.size) : OwnI B (w.alloc (.cells #[] 34)) (.slice (some ⟨w.heap.size, 0, none⟩) 0 0) [] :=
  ⟨rfl, .inr ⟨w.heap.size, 0, #[], rfl, hB, heap_alloc_last w _, Nat.le_refl _, Nat.zero_le _, rfl, rfl⟩⟩
end Go.Proofs.YteokcdobapkkhaaGreatDoor

namespace Go.Proofs.YteokcdobapkkhaaGreatDoor
open Go.ChangeShapes Go.WideShapes Go.ChangeAt Go.RowKit
set_option linter.unusedVariables false

end Go.Proofs.YteokcdobapkkhaaGreatDoor

namespace Go.Proofs.YteokcdobapkkhaaGreatDoor
open Go.ChangeShapes Go.WideShapes Go.ChangeAt Go.RowKit Go.Maps
set_option linter.unusedVariables false

def zeroShelf : Value := .agg #[.slice none 0 0, .map none, .slice none 0 0]
/-- What shelfOf answers. -/
def ShelfOut (S : Nat → Prop) (l : List Rel) (ws : List Imp) (B : Nat) (w' : World) (sv : Value) : Prop :=
  (codeB nameOK l ws ≠ 0 ∧ sv = zeroShelf) ∨ (codeB nameOK l ws = 0 ∧ ∃ R, ShelfAt S B w' sv R (needsOf l) ws ∧ Same l R (needsOf l))
set_option maxRecDepth 100000 in
set_option maxHeartbeats 4000000 in
theorem implShelf {S : Nat → Prop} {l : List Rel} {ws : List Imp} {v u : Value} {w : World} (hS : ∀ b, S b → b < w.heap.size) (h : RelsAt S w v l) (h2 : ImpsAt S w u ws) (hl : l.length ≤ 1048576) (hok : ∀ x ∈ l, RelOK 1048576 x) (hwl : ws.length ≤ 1048576) (hwok : ∀ x ∈ ws, ImpOK 1048576 x) (hT : ∀ W, Below w.heap.size w W → Lib.Utf8Tabs 0 1 W) :
    Calls Tryz.prog 18 #[v, u] w fun e w' => (∃ sv, e = .returned (.tuple #[sv, .int .i64 (codeB nameOK l ws)]) ∧ ShelfOut S l ws w.heap.size w' sv) ∧ Below w.heap.size w w' := by
  have c38 := fun (W : World) (hW : Below w.heap.size w W) => implStore S l v W (fun b hb => Nat.lt_of_lt_of_le (hS b hb) hW.size) (h.keep (cells_below hS hW)) hl hok (hT W hW)
  have c39 := fun (W : World) (hW : Below w.heap.size w W) => implWishes (w := W) (fun b hb => Nat.lt_of_lt_of_le (hS b hb) hW.size) (h2.keep (cells_below hS hW)) (fun x hx => by have := hwok x hx; unfold ImpOK at this; omega) (hT W hW)
  obtain ⟨la, lc, hv⟩ := h.shape
  obtain ⟨ua, uc, hu⟩ := h2.shape
  subst hv hu
  have hl' : (l.length : Int) ≤ 1048576 := by omega
  have hwl' : (ws.length : Int) ≤ 1048576 := by omega
  have hbA : Below w.heap.size w (w.alloc (.cells #[.slice none 0 0, .map none, .slice none 0 0] 55)) := (Below.refl _ w).alloc (Nat.le_refl _) _
  have hbk0 : Blk (w.alloc (.cells #[.slice none 0 0, .map none, .slice none 0 0] 55)) w.heap.size 55 #[.slice none 0 0, .map none, .slice none 0 0] := heap_alloc_last w _
  by_cases h1 : 4096 < l.length ∨ 4096 < ws.length
  · have hc : codeB nameOK l ws = 2 := by unfold codeB; rw [if_pos h1]
    rw [hc]
    have HC : Hid (codeB nameOK l ws = 2) := hc
    have f0 := hbk0.fro 0
    have f1 := hbk0.fro 1
    have f2 := hbk0.fro 2
    clear c38 c39 hbk0 hc
    by_cases h3 : 4096 < l.length
    · have h3' : (4096 : Int) < (l.length : Int) := by omega
      go_enter Tryz.func18, Tryz.ntmps18
      go_wp2_with fail
      refine bodyPost_ret (v := .tuple #[.agg #[.slice none 0 0, .map none, .slice none 0 0], .int .i64 2]) (by rw [results_cell_tmp Tryz.results18]; simp [go_sem]) rfl ⟨⟨_, rfl, .inl ⟨by rw [HC.out]; decide, rfl⟩⟩, hbA⟩
    · have h3' : ¬ ((4096 : Int) < (l.length : Int)) := by omega
      have h4' : (4096 : Int) < (ws.length : Int) := by omega
      go_enter Tryz.func18, Tryz.ntmps18
      go_wp2_with fail
      refine bodyPost_ret (v := .tuple #[.agg #[.slice none 0 0, .map none, .slice none 0 0], .int .i64 2]) (by rw [results_cell_tmp Tryz.results18]; simp [go_sem]) rfl ⟨⟨_, rfl, .inl ⟨by rw [HC.out]; decide, rfl⟩⟩, hbA⟩
  · have h3' : ¬ ((4096 : Int) < (l.length : Int)) := by omega
    have h4' : ¬ ((4096 : Int) < (ws.length : Int)) := by omega
    have hcd : codeB nameOK l ws = if storeB nameOK l && wishesB nameOK ws then 0 else 1 := by unfold codeB; rw [if_neg h1]
    have c38' := c38 _ hbA
    have HC39 : Hid _ := c39
    have HBK0 : Hid _ := hbk0
    clear c38 c39 hbk0
    cases hst : storeB nameOK l with
    | false =>
      have hc : codeB nameOK l ws = 1 := by rw [hcd, hst]; rfl
      rw [hc]
      have HC : Hid (codeB nameOK l ws = 1) := hc
      rw [hst] at c38'
      clear hc hcd
      go_enter Tryz.func18, Tryz.ntmps18
      go_wp2_with (go_at_call 39; go_must (refine c38'.mono ?_; rintro e w1 ⟨rfl, hb1⟩; have q1 := Blk.below HBK0.out hb1; have r0 := q1.cell 0; have r1 := q1.cell 1; have r2 := q1.cell 2; have f0 := q1.fro 0; have f1 := q1.fro 1; have f2 := q1.fro 2; simp at r0 r1 r2; have Q1 : Hid _ := q1; clear q1))
      have s1 := Blk.set (Blk.set (Blk.set Q1.out 0 (.slice none 0 0)) 1 (.map none)) 2 (.slice none 0 0)
      have t0 := s1.cell 0
      have t1 := s1.cell 1
      have t2 := s1.cell 2
      simp at t0 t1 t2
      have hb := good_below hbA hb1
      refine bodyPost_ret (v := .tuple #[.agg #[.slice none 0 0, .map none, .slice none 0 0], .int .i64 1]) (by rw [results_cell_tmp Tryz.results18]; simp [go_sem, t0, t1, t2]) rfl ⟨⟨_, rfl, .inl ⟨by rw [HC.out]; decide, rfl⟩⟩, ((hb.setCell (Nat.le_refl _) _).setCell (Nat.le_refl _) _).setCell (Nat.le_refl _) _⟩
    | true =>
      cases hwi : wishesB nameOK ws with
      | false =>
        have hc : codeB nameOK l ws = 1 := by rw [hcd, hst, hwi]; rfl
        rw [hc]
        have HC : Hid (codeB nameOK l ws = 1) := hc
        rw [hst] at c38'
        have HWI : Hid _ := hwi
        clear hc hcd
        go_enter Tryz.func18, Tryz.ntmps18
        go_wp2_with (first
          | (go_at_call 39; go_must (refine c38'.mono ?_; rintro e w0 ⟨rfl, hb0⟩; have c39' := HC39.out w0 (good_below hbA hb0); rw [HWI.out] at c39'))
          | (go_at_call 40; go_must (refine c39'.mono ?_; rintro e w1 ⟨rfl, hb1⟩; have hb01 := good_below hb0 hb1; have q1 := Blk.below HBK0.out hb01; have r0 := q1.cell 0; have r1 := q1.cell 1; have r2 := q1.cell 2; have f0 := q1.fro 0; have f1 := q1.fro 1; have f2 := q1.fro 2; simp at r0 r1 r2; have Q1 : Hid _ := q1; clear q1)))
        have s1 := Blk.set (Blk.set (Blk.set Q1.out 0 (.slice none 0 0)) 1 (.map none)) 2 (.slice none 0 0)
        have t0 := s1.cell 0
        have t1 := s1.cell 1
        have t2 := s1.cell 2
        simp at t0 t1 t2
        have hb := good_below hbA hb01
        refine bodyPost_ret (v := .tuple #[.agg #[.slice none 0 0, .map none, .slice none 0 0], .int .i64 1]) (by rw [results_cell_tmp Tryz.results18]; simp [go_sem, t0, t1, t2]) rfl ⟨⟨_, rfl, .inl ⟨by rw [HC.out]; decide, rfl⟩⟩, ((hb.setCell (Nat.le_refl _) _).setCell (Nat.le_refl _) _).setCell (Nat.le_refl _) _⟩
      | true =>
        have hmm := @run_makeMap Tryz.prog
        have hc : codeB nameOK l ws = 0 := by rw [hcd, hst, hwi]; rfl
        rw [hc]
        have HC : Hid (codeB nameOK l ws = 0) := hc
        rw [hst] at c38'
        have HWI : Hid _ := hwi
        have HST : Hid (storeB nameOK l = true) := hst
        have hl2 := (store_rel hst).1
        have hl2' : (l.length : Int) ≤ 200 := by omega
        have HR : Hid (RelsAt S w (.slice la l.length lc) l) := h
        have HI : Hid (ImpsAt S w (.slice ua ws.length uc) ws) := h2
        have HS : Hid _ := hS
        have HOK : Hid _ := hok
        clear hc hcd h h2 hS hok hwok hT hst hwi
        go_enter Tryz.func18, Tryz.ntmps18
        go_wp2_with (first
          | (go_at_call 39; go_must (refine c38'.mono ?_; rintro e w0 ⟨rfl, hb0⟩; have c39' := HC39.out w0 (good_below hbA hb0); rw [HWI.out] at c39'))
          | (go_at_call 40; go_must (refine c39'.mono ?_; rintro e w3 ⟨rfl, hb1⟩; have hb01 := good_below hb0 hb1; have q1 := Blk.below HBK0.out hb01; have Q1 : Hid _ := q1; clear q1)))
        have hbw3 := good_below hbA hb01
        have hlt3 : w.heap.size < w3.heap.size := by have := hb01.size; simp only [World.size_alloc] at this; omega
        clear c38' c39'
        obtain ⟨W0, hW0⟩ : ∃ W0, (w3.alloc (.map #[] 0)).alloc (.cells #[.slice none 0 0, .map (some w3.heap.size), .slice ua ws.length uc] 55) = W0 := ⟨_, rfl⟩
        have hbW0 : Below w3.heap.size w3 W0 := by rw [← hW0]; exact ((Below.refl _ w3).alloc (Nat.le_refl _) _).alloc (by simp) _
        have k1 : Blk W0 (w3.heap.size + 1) 55 #[.slice none 0 0, .map (some w3.heap.size), .slice ua ws.length uc] := by
          rw [← hW0]
          have := heap_alloc_last (w3.alloc (.map #[] 0)) (.cells #[.slice none 0 0, .map (some w3.heap.size), .slice ua ws.length uc] 55)
          rwa [World.size_alloc] at this
        have k2 : NeedsAt W0 w3.heap.size 0 (fun _ => .slice none 0 0) := by
          rw [← hW0]
          exact (NeedsAt.made w3).below ((Below.refl _ _).alloc (Nat.le_refl _) _)
        have HK1 : Hid (Blk W0 (w3.heap.size + 1) 55 #[.slice none 0 0, .map (some w3.heap.size), .slice ua ws.length uc]) := k1
        have HK2 : Hid (NeedsAt W0 w3.heap.size 0 (fun _ => .slice none 0 0)) := k2
        have HBW0 : Hid (Below w3.heap.size w3 W0) := hbW0
        have HW0 : Hid _ := hW0
        clear k1 k2 hbW0 hW0
        go_loopw [33] (fun i33 wr => ∃ (k : Nat) (rv : Value) (f : Lit → Value), i33 = .int .i64 (k : Int) ∧ k ≤ l.length ∧ Blk wr (w3.heap.size + 1) 55 #[rv, .map (some w3.heap.size), .slice ua ws.length uc] ∧ OwnP w3.heap.size wr rv ((l.take k).map relPk) ∧ NeedsAt wr w3.heap.size k f ∧ (∀ j (hj : j < l.length), j < k → ∃ kl, keyOf Tryz.prog 41 (pkVal (relPk l[j])) = some kl ∧ ImpsAt S w (f kl) l[j].needs) ∧ Below w3.heap.size w3 wr) (fun i33 _ => l.length - (intOf i33).toNat)
        case atStart =>
          rw [HW0.out]
          exact ⟨0, _, _, rfl, by omega, HK1.out, ⟨rfl, .inl ⟨rfl, rfl⟩⟩, HK2.out, fun j hj h => by omega, HBW0.out⟩
        case round =>
          obtain ⟨k, rv, f, rfl, hk, hbx, hop, hne, hkeys, hb⟩ := hrel
          have hbW := good_below hbw3 hb
          have hs3 := hb.size
          by_cases hkn : k < l.length
          · have hkn' : (k : Int) < (l.length : Int) := by omega
            obtain ⟨_, la', lc', hlv, hlc⟩ := (show RelsAt S w (.slice la l.length lc) l from HR.out)
            simp only [Value.slice.injEq] at hlv
            obtain ⟨rfl, -, rfl⟩ := hlv
            obtain ⟨b, off, rfl, hbS, hcell⟩ := hlc (by omega)
            obtain ⟨x1, x2, nv, x3, hnI⟩ := hcell k hkn
            have hbw := HS.out b hbS
            have d1 := (hbW.cell (p := ⟨b, off + k * 3, none⟩) hbw).trans x1
            have d2 := (hbW.cell (p := ⟨b, off + k * 3 + 1, none⟩) hbw).trans x2
            have d3 := (hbW.cell (p := ⟨b, off + k * 3 + 2, none⟩) hbw).trans x3
            have htk : (l.take (k + 1)).map relPk = (l.take k).map relPk ++ [relPk l[k]] := by rw [List.take_succ_eq_append_getElem hkn, List.map_append]; rfl
            have hrel := (store_rel HST.out).2 k hkn
            simp only [relB, Bool.and_eq_true, decide_eq_true_eq] at hrel
            have hv1 := hrel.1.1.1.1.2
            have hv2 := hrel.1.1.1.2
            have hz := (HOK.out _ (List.getElem_mem hkn)).1
            have hap : ∀ j (hj : j < l.length), j < k → relPk l[j] ≠ relPk l[k] := fun j hj hjk => store_apart HST.out hjk hkn
            obtain ⟨x, hx⟩ : ∃ x, l[k] = x := ⟨_, rfl⟩
            have HX : Hid (l[k] = x) := hx
            rw [hx] at d1 d2 hnI htk hv1 hv2 hz hap
            clear hx hcell x1 x2 x3 hlc hrel
            obtain ⟨xn, xv, xs⟩ := x
            dsimp only at d1 d2 hnI hv1 hv2 hz
            obtain ⟨na, nc, hnv⟩ := hnI.shape
            subst hnv
            obtain ⟨kl, hkl⟩ := key44 (s := xn) (v := xv) (by simp [maxLen]; omega) (WalkArith.wf_i64 (by omega))
            unfold pickVal at hkl
            obtain ⟨ra, rc, hrv, _⟩ := hop.value
            subst hrv
            obtain ⟨M, hM⟩ : ∃ M, (l.take k).map relPk = M := ⟨_, rfl⟩
            rw [hM] at hop hbx
            have hMl : M.length ≤ 200 := by rw [← hM]; simp; omega
            have HM : Hid _ := hM
            have HTK : Hid _ := htk
            have HKL : Hid (keyOf Tryz.prog 41 (.agg #[.string xn, .int .i64 xv]) = some kl) := hkl
            have HKE : Hid _ := hkeys
            have HAP : Hid _ := hap
            have HNI : Hid _ := hnI
            clear hM htk hkl hkeys hap hnI
            have bA : Below wr.heap.size wr ((wr.alloc (.cells #[.string xn, .int .i64 xv, .slice na xs.length nc] 36)).alloc (.cells #[.string xn, .int .i64 xv] 41)) := ((Below.refl _ wr).alloc (Nat.le_refl _) _).alloc (by simp) _
            have hltM : ∀ j, (Value.slice ra M.length rc).ownBlock = some j → j < wr.heap.size := fun j hj => (World.ownsRow.lt hop j hj).2
            have b55 : Blk ((wr.alloc (.cells #[.string xn, .int .i64 xv, .slice na xs.length nc] 36)).alloc (.cells #[.string xn, .int .i64 xv] 41)) wr.heap.size 36 #[.string xn, .int .i64 xv, .slice na xs.length nc] := Blk.below (show Blk (wr.alloc (.cells #[.string xn, .int .i64 xv, .slice na xs.length nc] 36)) wr.heap.size 36 _ from heap_alloc_last wr _) ((Below.refl _ _).alloc (Nat.le_refl _) _)
            have b67 : Blk ((wr.alloc (.cells #[.string xn, .int .i64 xv, .slice na xs.length nc] 36)).alloc (.cells #[.string xn, .int .i64 xv] 41)) (wr.heap.size + 1) 41 #[.string xn, .int .i64 xv] := by
              have := heap_alloc_last (wr.alloc (.cells #[.string xn, .int .i64 xv, .slice na xs.length nc] 36)) (.cells #[.string xn, .int .i64 xv] 41)
              rwa [World.size_alloc] at this
            obtain ⟨WA, hWA⟩ : ∃ WA, (wr.alloc (.cells #[.string xn, .int .i64 xv, .slice na xs.length nc] 36)).alloc (.cells #[.string xn, .int .i64 xv] 41) = WA := ⟨_, rfl⟩
            have hsA : WA.heap.size = wr.heap.size + 2 := by rw [← hWA]; simp
            rw [hWA] at bA b55 b67
            have hbxA := hbx.below bA
            have e0 := hbxA.cell 0
            have e1 := b67.cell 0
            have e2 := b67.cell 1
            simp at e0 e1 e2
            rw [← hWA] at e0 e1 e2
            have HBX : Hid _ := hbxA
            have H55 : Hid (Blk WA wr.heap.size 36 #[.string xn, .int .i64 xv, .slice na xs.length nc]) := b55
            have H67 : Hid (Blk WA (wr.heap.size + 1) 41 #[.string xn, .int .i64 xv]) := b67
            have HOP : Hid (OwnP w3.heap.size WA (.slice ra M.length rc) M) := OwnP.below hop bA
            have HNE : Hid (NeedsAt WA w3.heap.size k f) := NeedsAt.below hne bA
            have HWA : Hid _ := hWA
            have HSA : Hid _ := hsA
            have HBA : Hid (Below wr.heap.size wr WA) := bA
            clear b55 b67 hbxA hbx hop hne hWA hsA bA
            have bL : Below WA.heap.size WA (WA.alloc (.cells #[.string xn, .int .i64 xv] 41)) := (Below.refl _ WA).alloc (Nat.le_refl _) _
            have HPN : Hid (∀ (j : Nat) u, (Pk.cells ⟨xn, xv⟩)[j]? = some u → (WA.alloc (.cells #[.string xn, .int .i64 xv] 41)).cell? ((⟨wr.heap.size + 2, 0, none⟩ : Addr).add j) = some u) := (show _ from by have := pk_new WA xn xv; rwa [HSA.out] at this)
            have HBL : Hid (Below WA.heap.size WA (WA.alloc (.cells #[.string xn, .int .i64 xv] 41))) := bL
            clear bL
            go_upto_region 11 with (at_builtin; rw [HWA.out]; go_must (refine wpList_appendP rfl (.tmp 43) (.tmp 45) rfl w3.heap.size (.slice ra M.length rc) M rfl (OwnP.below HOP.out HBL.out) ⟨wr.heap.size + 2, 0, none⟩ ⟨xn, xv⟩ rfl HPN.out (by omega) (by simp only [World.size_alloc]; have := HSA.out; omega) ?_; intro v8 w8 hown8 hB8 hgr8; obtain ⟨va, vc, hv8, _⟩ := hown8.value; subst hv8; have r8 := (Blk.below HBX.out HBL.out).kept hgr8 (row_blk (by decide) (OwnP.below HOP.out HBL.out) (Blk.below HBX.out HBL.out)); have l8 := r8.cell 0; have f8 := r8.fro 0; simp at l8; have R8 : Hid _ := r8; have O8 : Hid _ := hown8; have G8 : Hid _ := hgr8; clear r8 hown8 hgr8))
            have hlen : (M ++ [(⟨xn, xv⟩ : Pk)]).length = M.length + 1 := by simp
            have o8 : OwnP w3.heap.size w8 (.slice va (M.length + 1) vc) (M ++ [⟨xn, xv⟩]) := by have := O8.out; rw [hlen] at this; unfold OwnP; rw [hlen]; exact this
            have g9 := set_grown w8 (w3.heap.size + 1) 0 (.slice va (M.length + 1) vc)
            have r9 := Blk.set R8.out 0 (.slice va (M.length + 1) vc)
            have hne55 : some wr.heap.size ≠ (Value.slice ra M.length rc).ownBlock := fun e => Nat.lt_irrefl _ (hltM _ e.symm)
            have hne67 : some (wr.heap.size + 1) ≠ (Value.slice ra M.length rc).ownBlock := fun e => by have := hltM _ e.symm; omega
            have n1 : wr.heap.size ≠ w3.heap.size + 1 := fun e => by
              have h1 : Blk WA wr.heap.size 36 _ := H55.out
              have h2 : Blk WA (w3.heap.size + 1) 55 _ := HBX.out
              rw [e] at h1
              unfold Blk at h1 h2
              rw [h1] at h2
              simp at h2
            have n2 : wr.heap.size + 1 ≠ w3.heap.size + 1 := fun e => by
              have h1 : Blk WA (wr.heap.size + 1) 41 _ := H67.out
              have h2 : Blk WA (w3.heap.size + 1) 55 _ := HBX.out
              rw [e] at h1
              unfold Blk at h1 h2
              rw [h1] at h2
              simp at h2
            have p55 := ((Blk.below H55.out HBL.out).kept G8.out hne55).kept g9 (by simpa using n1)
            have p67 := ((Blk.below H67.out HBL.out).kept G8.out hne67).kept g9 (by simpa using n2)
            have y1 := r9.cell 1
            have y2 := p67.cell 0
            have y3 := p67.cell 1
            have y4 := p55.cell 2
            simp at y1 y2 y3 y4
            have ne8 := (NeedsAt.below HNE.out HBL.out).kept G8.out (need_apart (NeedsAt.below HNE.out HBL.out) (OwnP.below HOP.out HBL.out))
            have ne9 := ne8.kept g9 (by simp)
            have o9 := OwnP.kept o8 g9 (.inr (fun e => row_blk (by decide) o8 R8.out e.symm))
            have hs8 : w3.heap.size ≤ w8.heap.size := Nat.le_trans (by have h1 := HBA.out.size; have h2 := HBL.out.size; omega) hB8.size
            have b8 : Below w3.heap.size w3 w8 := ((hb.trans (HBA.out.mono hs3)).trans (HBL.out.mono (Nat.le_trans hs3 HBA.out.size))).trans hB8
            have b9 := b8.setCell (p := ⟨w3.heap.size + 1, 0, none⟩) (Nat.le_succ _) (.slice va (M.length + 1) vc)
            obtain ⟨w9, hw9⟩ : ∃ w9, w8.setCell ⟨w3.heap.size + 1, 0, none⟩ (.slice va (M.length + 1) vc) = w9 := ⟨_, rfl⟩
            rw [hw9] at g9 r9 p55 p67 y1 y2 y3 y4 ne9 o9 b9 ⊢
            have NE9 : Hid (NeedsAt w9 w3.heap.size k f) := ne9
            have R9 : Hid _ := r9
            have O9 : Hid (OwnP w3.heap.size w9 (.slice va (M.length + 1) vc) (M ++ [⟨xn, xv⟩])) := o9
            have B9 : Hid (Below w3.heap.size w3 w9) := b9
            clear ne8 ne9 o8 o9 r9 p55 p67 g9 hw9 b8 b9 hB8 l8 f8 e0 e1 e2 d1 d2 d3 hlen n1 n2 hne55 hne67
            go_wp2_with (first
              | (at_mapUpdate; go_must (refine wpList_storeN _ rfl _ _ _ rfl w3.heap.size k f rfl NE9.out (by simp [maxLen]; omega) _ _ kl rfl rfl HKL.out ?_; intro w10 hn10 hg10; have HN10 : Hid _ := hn10; have HG10 : Hid _ := hg10; clear hn10 hg10)))
            have b10 := B9.out.grown HG10.out B9.out.size (fun j hj => by cases hj; exact Nat.le_refl _)
            have bx10 := Blk.kept R9.out HG10.out (by simp)
            have op10 := OwnP.kept O9.out HG10.out (.inr (fun e => need_apart NE9.out O9.out e.symm))
            refine ⟨⟨k + 1, .slice va (M.length + 1) vc, _, rfl, by omega, bx10, ?_, HN10.out, fun j hj hjk => ?_, b10⟩, by simp [intOf]; omega⟩
            · rw [HTK.out, HM.out]; exact op10
            · by_cases e : j = k
              · subst e
                refine ⟨kl, ?_, ?_⟩
                · rw [HX.out]; exact HKL.out
                · rw [updV_same (law44.key HKL.out), HX.out]; exact HNI.out
              · obtain ⟨kj, q1, q2⟩ := HKE.out j hj (by omega)
                refine ⟨kj, q1, ?_⟩
                rw [updV_other (fun e2 => ?_)]
                · exact q2
                · subst e2
                  have := law44.inj q1 HKL.out
                  simp only [pkVal, Value.agg.injEq] at this
                  refine HAP.out j hj (by omega) ?_
                  simp at this
                  simp [relPk] at this ⊢
                  exact this
          · obtain rfl : k = l.length := by omega
            have hkn' : ¬ ((l.length : Int) < (l.length : Int)) := by omega
            rw [List.take_length] at hop
            have cs := implSortTwo hop hs3 (by simp; omega)
            obtain ⟨ra, rc, hrv, _⟩ := hop.value
            rw [List.length_map] at hrv
            subst hrv
            have e0 := hbx.cell 0
            simp at e0
            have HBX : Hid _ := hbx
            have HOP : Hid _ := hop
            have HNE : Hid _ := hne
            have HKE : Hid _ := hkeys
            clear hbx hop hne hkeys
            go_wp2_with (go_at_call 41; go_must (refine cs.mono ?_; rintro e w5 ⟨rfl, ⟨R, hso, hoR⟩, ⟨w6, hb6, hgr⟩, hb5⟩; have bx5 := (Blk.below HBX.out hb6).kept hgr (row_blk (by decide) (OwnP.below HOP.out hb6) (Blk.below HBX.out hb6)); have m0 := bx5.cell 0; have m1 := bx5.cell 1; have m2 := bx5.cell 2; simp at m0 m1 m2; have hb35 := hb.trans hb5; have q5 : Blk w5 w.heap.size 55 #[.slice none 0 0, .map none, .slice none 0 0] := (hb35.block w.heap.size hlt3).trans Q1.out; have r0 := q5.cell 0; have r1 := q5.cell 1; have r2 := q5.cell 2; have f0 := q5.fro 0; have f1 := q5.fro 1; have f2 := q5.fro 2; simp at r0 r1 r2; have Q5 : Hid _ := q5; have HSO : Hid _ := hso; have HOR : Hid _ := hoR; have HGR : Hid _ := hgr; clear q5 bx5 hso hoR hgr))
            have s0 := Blk.set Q5.out 0 (.slice ra l.length rc)
            have s1 := Blk.set s0 1 (.map (some w3.heap.size))
            have s2 := Blk.set s1 2 (.slice ua ws.length uc)
            have t0 := s2.cell 0
            have t1 := s2.cell 1
            have t2 := s2.cell 2
            simp at t0 t1 t2
            have g0 := set_grown w5 w.heap.size 0 (.slice ra l.length rc)
            have g1 := set_grown (w5.setCell ⟨w.heap.size, 0, none⟩ (.slice ra l.length rc)) w.heap.size 1 (.map (some w3.heap.size))
            have g2 := set_grown ((w5.setCell ⟨w.heap.size, 0, none⟩ (.slice ra l.length rc)).setCell ⟨w.heap.size, 1, none⟩ (.map (some w3.heap.size))) w.heap.size 2 (.slice ua ws.length uc)
            have hb5w := good_below hbw3 hb35
            have hbF := ((hb5w.setCell (p := ⟨w.heap.size, 0, none⟩) (Nat.le_refl _) (.slice ra l.length rc)).setCell (p := ⟨w.heap.size, 1, none⟩) (Nat.le_refl _) (.map (some w3.heap.size))).setCell (p := ⟨w.heap.size, 2, none⟩) (Nat.le_refl _) (.slice ua ws.length uc)
            have n5 := ((NeedsAt.below HNE.out hb6).kept HGR.out (need_apart (NeedsAt.below HNE.out hb6) (OwnP.below HOP.out hb6)))
            have hnw : some w3.heap.size ≠ some w.heap.size := by simp; omega
            have nF := ((n5.kept g0 hnw).kept g1 hnw).kept g2 hnw
            have o0 := OwnP.kept HOR.out g0 (.inr (fun e => row_blk (by decide) HOR.out Q5.out e.symm))
            have o1 := OwnP.kept o0 g1 (.inr (fun e => row_blk (by decide) o0 s0 e.symm))
            have o2 := OwnP.kept o1 g2 (.inr (fun e => row_blk (by decide) o1 s1 e.symm))
            refine bodyPost_ret (v := .tuple #[.agg #[.slice ra l.length rc, .map (some w3.heap.size), .slice ua ws.length uc], .int .i64 0]) (by rw [results_cell_tmp Tryz.results18]; simp [go_sem, t0, t1, t2]) rfl ⟨⟨_, rfl, .inr ⟨HC.out, R, ⟨_, _, _, f, _, rfl, OwnP.mono o2 (Nat.le_of_lt hlt3), nF, HI.out.keep (cells_below HS.out hbF), fun p hp => ?_⟩, ⟨HSO.out.perm, HSO.out.rises, needsOf_eq HST.out⟩⟩⟩, hbF⟩
            obtain ⟨r, hr, rfl⟩ := List.mem_map.1 (HSO.out.perm.mem_iff.1 hp)
            obtain ⟨j, hj, rfl⟩ := List.getElem_of_mem hr
            obtain ⟨kl, q1, q2⟩ := HKE.out j hj hj
            refine ⟨kl, q1, ?_⟩
            rw [needsOf_eq HST.out _ hr]
            exact q2.keep (cells_below HS.out hbF)
end Go.Proofs.YteokcdobapkkhaaGreatDoor

namespace Go.Proofs.YteokcdobapkkhaaGreatDoor
open Go.ChangeShapes Go.WideShapes Go.ChangeAt Go.RowKit
set_option linter.unusedVariables false

def lastUp (R : List Pk) (nm : ByteArray) (lim : Int) (k : Nat) : Int := lastV (R.take k) nm lim
theorem lastUp_succ {R : List Pk} {nm : ByteArray} {lim : Int} {k : Nat} (hk : k < R.length) : lastUp R nm lim (k + 1) = if R[k].name = nm ∧ R[k].ver ≤ lim then R[k].ver else lastUp R nm lim k := by
  unfold lastUp lastV
  rw [List.take_succ_eq_append_getElem hk, List.foldl_append]
  rfl
set_option maxRecDepth 100000 in
set_option maxHeartbeats 4000000 in
theorem implLast {S : Nat → Prop} {B : Nat} {w : World} {sv : Value} {R : List Pk} {nf : Pk → List Imp} {ws : List Imp} (h : ShelfAt S B w sv R nf ws) (hRl : R.length ≤ 1000000) (nm : ByteArray) (lim : Int) :
    Calls Tryz.prog 21 #[sv, .string nm, .int .i64 lim] w fun e w' => e = .returned (.int .i64 (lastV R nm lim)) ∧ Below w.heap.size w w' := by
  obtain ⟨rv, mb, wv, f, n, rfl, h2, h3, h4, h5⟩ := h
  obtain ⟨ra, rc, hrv, hrc⟩ := h2.value
  obtain ⟨wa, wc, hwv⟩ := h4.shape
  subst hrv hwv
  have HRC : Hid _ := hrc
  have hRl' : (R.length : Int) ≤ 1000000 := by omega
  have hbA : Below w.heap.size w (w.alloc (.cells #[.slice ra R.length rc, .map (some mb), .slice wa ws.length wc] 55)) := (Below.refl _ w).alloc (Nat.le_refl _) _
  clear hrc h2 h3 h4 h5
  obtain ⟨L, hL⟩ : ∃ L, lastV R nm lim = L := ⟨_, rfl⟩
  have HL : Hid (lastV R nm lim = L) := hL
  rw [hL]
  clear hL
  go_enter Tryz.func21, Tryz.ntmps21
  go_wp2_with fail
  go_loopw [7, 13] (fun i7 i13 wr => ∃ (k : Nat), i7 = .int .i64 (lastUp R nm lim k) ∧ i13 = .int .i64 (k : Int) ∧ k ≤ R.length ∧ Below w.heap.size w wr) (fun _ i13 _ => R.length - (intOf i13).toNat)
  case atStart => exact ⟨0, by simp [lastUp, lastV], rfl, by omega, hbA⟩
  case round =>
    obtain ⟨k, rfl, rfl, hk, hb⟩ := hrel
    by_cases hkn : k < R.length
    · have hkn' : (k : Int) < (R.length : Int) := by omega
      obtain ⟨g, rfl, hcell⟩ := HRC.out (by omega)
      obtain ⟨x1, x2⟩ := hcell k hkn
      have hgw := cell_lt' x1
      have d1 := (hb.cell (p := ⟨g, k * 2, none⟩) hgw).trans x1
      have d2 := (hb.cell (p := ⟨g, k * 2 + 1, none⟩) hgw).trans x2
      have hus := lastUp_succ (nm := nm) (lim := lim) hkn
      obtain ⟨V, hV⟩ : ∃ V, lastUp R nm lim k = V := ⟨_, rfl⟩
      rw [hV] at hus ⊢
      obtain ⟨x, hx⟩ : ∃ x, R[k] = x := ⟨_, rfl⟩
      rw [hx] at d1 d2 hus
      clear hx hcell x1 x2 hV
      obtain ⟨xn, xv⟩ := x
      dsimp only at d1 d2 hus
      have HUS : Hid _ := hus
      clear hus
      have bA := hb.alloc hb.size (.cells #[.string xn, .int .i64 xv] 41)
      cases hne : xn.toList == nm.toList
      · go_wp2_with fail
        refine ⟨⟨k + 1, ?_, rfl, by omega, bA⟩, by simp [intOf]; omega⟩
        rw [HUS.out, if_neg (fun h => by rw [beq_bytes] at hne; simp at hne; exact hne h.1)]
      · by_cases hle : xv ≤ lim
        · go_wp2_with fail
          refine ⟨⟨k + 1, ?_, rfl, by omega, bA⟩, by simp [intOf]; omega⟩
          rw [HUS.out, if_pos ⟨by rw [beq_bytes] at hne; simpa using hne, hle⟩]
        · go_wp2_with fail
          refine ⟨⟨k + 1, ?_, rfl, by omega, bA⟩, by simp [intOf]; omega⟩
          rw [HUS.out, if_neg (fun h => hle h.2)]
    · obtain rfl : k = R.length := by omega
      have hkn' : ¬ ((R.length : Int) < (R.length : Int)) := by omega
      have hlast : lastUp R nm lim R.length = L := by rw [← HL.out]; unfold lastUp; rw [List.take_length]
      rw [hlast]
      go_wp2_with fail
      go_ret
      exact ⟨rfl, hb⟩

theorem pkCells_set {l : List Pk} {k : Nat} (hk : k < l.length) (v : Int) : pkCells (l.set k ⟨l[k].name, v⟩) = (pkCells l).set (k * 2 + 1) (.int .i64 v) := by
  induction l generalizing k with
  | nil => simp at hk
  | cons a r ih =>
    cases k with
    | zero => simp [pkCells, Pk.cells]
    | succ k =>
      have hk' : k < r.length := by simpa using hk
      have := ih hk'
      simp only [List.set_cons_succ, List.getElem_cons_succ]
      unfold pkCells at this ⊢
      rw [List.flatMap_cons, List.flatMap_cons, this]
      simp only [Pk.cells, List.cons_append, List.nil_append]
      rw [show (k + 1) * 2 + 1 = (k * 2 + 1) + 1 + 1 by omega, List.set_cons_succ, List.set_cons_succ]
theorem OwnP.set {B g n cap : Nat} {w : World} {l : List Pk} (h : OwnP B w (.slice (some ⟨g, 0, none⟩) n cap) l) {k : Nat} (hk : k < l.length) (v : Int) : OwnP B (w.setCell ⟨g, k * 2 + 1, none⟩ (.int .i64 v)) (.slice (some ⟨g, 0, none⟩) n cap) (l.set k ⟨l[k].name, v⟩) := by
  obtain ⟨hl, h⟩ := h
  rcases h with ⟨hv, _⟩ | ⟨g', cap', cur, hv, hB, hg, h1, h2, h3, h4⟩
  · simp at hv
  · simp only [Value.slice.injEq, Option.some.injEq, Addr.mk.injEq, and_true] at hv
    obtain ⟨rfl, rfl, rfl⟩ := hv
    have hb : Blk w g 41 cur := hg
    refine ⟨?_, .inr ⟨g, cap, _, by simp, hB, hb.set (k * 2 + 1) (.int .i64 v), by simpa using h1, h2, by simpa using h3, ?_⟩⟩
    · rw [pkCells_set hk, List.length_set, List.length_set, hl]
    · rw [pkCells_set hk, ← h4, List.length_set]
      rw [Array.toList_setIfInBounds, List.take_set]

/-- The limits so far: of picked names from the greatest version on, of others from 0. -/
def Lims (f : Lit → Int) (P : List Pk) (CL : List Cl) : Prop := ∀ t, f (textKey t) = limF CL (if hasB (P.map Pk.name) t then 999999 else 0) t
theorem Lims.start {f : Lit → Int} (h : ∀ kl, f kl = 0) : Lims f [] [] := fun t => by rw [h]; simp [limF, hasB]
theorem Lims.pick {f : Lit → Int} {P : List Pk} (h : Lims f P []) (p : Pk) : Lims (upd f (textKey p.name) 999999) (P ++ [p]) [] := by
  intro t
  by_cases e : p.name = t
  · subst e; rw [upd_same (by exact trivial), List.map_append, List.map_cons, List.map_nil, hasB_snoc]; simp [limF]
  · rw [upd_other (fun h => e (textKey_inj h).symm), h t, List.map_append, List.map_cons, List.map_nil, hasB_snoc]
    simp [limF, e]
theorem Lims.claim {f : Lit → Int} {P : List Pk} {CL : List Cl} (h : Lims f P CL) (c : Cl) : Lims (upd f (textKey c.need.name) (min (f (textKey c.need.name)) c.need.mx)) P (CL ++ [c]) := by
  intro t
  unfold limF
  rw [List.foldl_append]
  simp only [List.foldl_cons, List.foldl_nil]
  by_cases e : c.need.name = t
  · subst e; rw [upd_same (by exact trivial), if_pos rfl, h]; rfl
  · rw [upd_other (fun h => e (textKey_inj h).symm), if_neg e, h t]; rfl
theorem Lims.bound {f : Lit → Int} {P : List Pk} {CL : List Cl} (h : Lims f P CL) (hm : ∀ c ∈ CL, 0 ≤ c.need.mx) (t : ByteArray) : 0 ≤ f (textKey t) ∧ f (textKey t) ≤ 999999 := by
  rw [h t]
  unfold limF
  have h1 := (limF_le t CL (if hasB (P.map Pk.name) t then 999999 else 0) 0).2 ⟨by split <;> omega, fun c hc _ => hm c hc⟩
  have h2 := ((limF_le t CL (if hasB (P.map Pk.name) t then 999999 else 0) _).1 (Int.le_refl _)).1
  refine ⟨h1, Int.le_trans h2 ?_⟩
  split <;> omega
end Go.Proofs.YteokcdobapkkhaaGreatDoor
