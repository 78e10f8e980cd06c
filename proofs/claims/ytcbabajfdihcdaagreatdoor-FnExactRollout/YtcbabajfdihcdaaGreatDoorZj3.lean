/-
  The contract of spec.l01Rune: at every place of a text of at most 65536 bytes it answers as the model's own decoder of UTF-8. The contracts of spec.RuneAt and impl.RuneAt: both answer 'runeAt', the model's decoder at the place, (0, 0) outside. impl.RuneAt under the two tables of unicode/utf8 as they are laid. The contracts of the small tests on runes: spec.IsLetter, impl.IsLetter, spec.l01Digit, impl.isDigit, impl.isNameRune, impl.isBlank and impl.isWrong. Tools for the seat's other texts: a slice literal and an array literal of strings, every place written, as one step of a walk. Where a run of runes ends, as plain data; the contracts of impl.runEnd and spec.l01Word. The contracts of spec.l00Has, spec.l01Reserved and impl.isReserved: each tells whether a text is one of some words. The contracts of spec.NameOK and impl.NameOK: both answer 'nameOK'. impl.NameOK under the two tables of unicode/utf8 as they are laid. Numbers as the document reads them; the contract of spec.l00Number. Spans as the document reads them; the contract of spec.l08Span. No statement of the seat is proved here.
-/
import Derived.Test.YtcbabajfdihcdaaGreatDoorZj2
import Derived.Lib.RuneCountTail
import Derived.Test.YtcbabajfdihcdaaGreatDoorRows
import Derived.WalkKit
import Derived.ProofKit
import Derived.OpenShut
import Derived.WalkSpells
import Derived.Great.BuildSlice
import Derived.Deep.WholeRow
import Derived.Deep.Cut
import Derived.Deep.CutRange
namespace Go.Proofs.YtcbabajfdihcdaaGreatDoor
open Go.ChangeShapes Go.WideShapes Go.ChangeAt Go.RowKit
set_option linter.unusedVariables false

theorem decode_byt (s : ByteArray) (i : Nat) : Utf8.decode s i = Lib.decodeN (s.size - i) (byt s i) (byt s (i + 1)) (byt s (i + 2)) (byt s (i + 3)) := Lib.decode_at s i
theorem get_byt (s : ByteArray) (i : Nat) (h : i < s.size) (x : UInt8) (hx : s.get! i = x) : s[i]'h = x := by
  rw [← hx]; exact (Utf8W.get!_of_lt s i h).symm

set_option maxRecDepth 100000 in
set_option maxHeartbeats 400000 in
/-- a first byte below 128 -/
theorem rune0 (s : ByteArray) (i : Nat) (hs : s.size ≤ 65536) (hi : i < s.size) (h : byt s i < 128) (w : World) :
    Calls Tryz.prog 90 #[.string s, .int .i64 i] w fun e w' => e = .returned (.tuple #[.int .i64 (Utf8.decode s i).1, .int .i64 (Utf8.decode s i).2]) ∧ Below w.heap.size w w' := by
  have hd : Utf8.decode s i = (byt s i, 1) := by rw [decode_byt]; unfold Lib.decodeN; rw [if_pos h]
  rw [hd]
  have hb := byt_eq s i hi
  have h' : ((byt s i : Nat) : Int) < 128 := by omega
  obtain ⟨b, hbb⟩ : ∃ b, byt s i = b := ⟨_, rfl⟩
  rw [hbb] at hb h' ⊢
  clear hbb hd h
  go_enter Tryz.func90, Tryz.ntmps90
  go_wp2
  go_ret2
  exact ⟨rfl, Below.refl _ _⟩

set_option maxRecDepth 100000 in
set_option maxHeartbeats 400000 in
/-- a first byte that begins no encoding -/
theorem runeNone (s : ByteArray) (i : Nat) (hs : s.size ≤ 65536) (hi : i < s.size) (h : (128 ≤ byt s i ∧ byt s i < 194) ∨ 245 ≤ byt s i) (w : World) :
    Calls Tryz.prog 90 #[.string s, .int .i64 i] w fun e w' => e = .returned (.tuple #[.int .i64 (Utf8.decode s i).1, .int .i64 (Utf8.decode s i).2]) ∧ Below w.heap.size w w' := by
  have hd : Utf8.decode s i = (65533, 1) := by rw [decode_byt]; exact dec_none h (byt_lt _ _) (byt_lt _ _) (byt_lt _ _) (byt_lt _ _)
  rw [hd]
  have hb := byt_eq s i hi
  obtain ⟨b, hbb⟩ : ∃ b, byt s i = b := ⟨_, rfl⟩
  have hlt : b < 256 := by rw [← hbb]; exact byt_lt s i
  rw [hbb] at hb h
  clear hbb hd
  rcases h with ⟨h1, h2⟩ | h1
  · have h1' : ¬ ((b : Int) < 128) := by omega
    have h2' : ¬ ((194 : Int) ≤ (b : Int)) := by omega
    go_enter Tryz.func90, Tryz.ntmps90
    go_wp2
    go_ret2
    exact ⟨rfl, Below.refl _ _⟩
  · have h1' : (245 : Int) ≤ (b : Int) := by omega
    have h2' : (b : Int) < 256 := by omega
    go_enter Tryz.func90, Tryz.ntmps90
    go_wp2
    go_ret2
    exact ⟨rfl, Below.refl _ _⟩

set_option maxRecDepth 100000 in
set_option maxHeartbeats 1000000 in
/-- an encoding of two bytes -/
theorem core1 (s : ByteArray) (i b c : Nat) (hs : s.size ≤ 65536) (hi : i < s.size) (hi1 : i + 1 < s.size) (hb : s[i].toNat = b) (hc1 : s[i + 1].toNat = c)
    (h1 : (194 : Int) ≤ (b : Int)) (h2 : (b : Int) ≤ 223) (h3 : (128 : Int) ≤ (c : Int)) (h4 : (c : Int) ≤ 191)
    (ct : ∀ w, Calls Tryz.prog 116 #[.string s, .int .i64 ((i + 1 : Nat) : Int), .int .i64 ((1 : Nat) : Int)] w fun e w' => e = .returned (.bool true) ∧ w = w') (w : World) :
    Calls Tryz.prog 90 #[.string s, .int .i64 i] w fun e w' => e = .returned (.tuple #[.int .i64 (((b : Int) - 192) * 64 + (c : Int) - 128), .int .i64 2]) ∧ Below w.heap.size w w' := by
  go_enter Tryz.func90, Tryz.ntmps90
  go_wp2_with (go_at_call 116; go_must (refine (ct _).mono ?_; rintro e w' ⟨rfl, rfl⟩))
  clear ct
  refine wp_loop_rounds 2 ?_
  rw [rounds_succ]
  go_wp2
  rw [rounds_succ]
  go_wp2
  go_ret2
  exact ⟨rfl, by exact (Below.refl _ w).alloc (Nat.le_refl _) _⟩

set_option maxRecDepth 100000 in
set_option maxHeartbeats 2000000 in
/-- an encoding of 3 bytes -/
theorem core2 (s : ByteArray) (i b c d : Nat) (hs : s.size ≤ 65536) (hi : i < s.size) (hi1 : i + 1 < s.size) (hi2 : i + 2 < s.size) (hb : s[i].toNat = b) (hx1 : s[i + 1].toNat = c) (hx2 : s[i + 2].toNat = d)
    (hb1 : (224 : Int) ≤ (b : Int)) (hb2 : (b : Int) ≤ 239) (hl1 : (128 : Int) ≤ (c : Int)) (hu1 : (c : Int) ≤ 191) (hl2 : (128 : Int) ≤ (d : Int)) (hu2 : (d : Int) ≤ 191)
    (ct : ∀ w, Calls Tryz.prog 116 #[.string s, .int .i64 ((i + 1 : Nat) : Int), .int .i64 ((2 : Nat) : Int)] w fun e w' => e = .returned (.bool true) ∧ w = w') (w : World) :
    Calls Tryz.prog 90 #[.string s, .int .i64 i] w fun e w' => (∃ R K : Int, e = .returned (.tuple #[.int .i64 R, .int .i64 K]) ∧ (((((((b : Int) - 224) * 64 + (c : Int) - 128) * 64 + (d : Int) - 128) < 2048 ∨ (55296 ≤ ((((b : Int) - 224) * 64 + (c : Int) - 128) * 64 + (d : Int) - 128) ∧ ((((b : Int) - 224) * 64 + (c : Int) - 128) * 64 + (d : Int) - 128) ≤ 57343)) ∧ R = 65533 ∧ K = 1) ∨ (¬ (((((b : Int) - 224) * 64 + (c : Int) - 128) * 64 + (d : Int) - 128) < 2048 ∨ (55296 ≤ ((((b : Int) - 224) * 64 + (c : Int) - 128) * 64 + (d : Int) - 128) ∧ ((((b : Int) - 224) * 64 + (c : Int) - 128) * 64 + (d : Int) - 128) ≤ 57343)) ∧ R = ((((b : Int) - 224) * 64 + (c : Int) - 128) * 64 + (d : Int) - 128) ∧ K = 3))) ∧ Below w.heap.size w w' := by
  go_enter Tryz.func90, Tryz.ntmps90
  go_wp2_with (go_at_call 116; go_must (refine (ct _).mono ?_; rintro e w' ⟨rfl, rfl⟩))
  clear ct
  refine wp_loop_rounds 3 ?_
  rw [rounds_succ]
  go_wp2
  rw [rounds_succ]
  go_wp2
  rw [rounds_succ]
  go_wp2
  all_goals
    go_ret2
    first
    | exact ⟨rfl, (Below.refl _ w).alloc (Nat.le_refl _) _⟩
    | (refine ⟨⟨_, _, rfl, ?_⟩, (Below.refl _ w).alloc (Nat.le_refl _) _⟩
       omega)

set_option maxRecDepth 100000 in
set_option maxHeartbeats 2000000 in
/-- an encoding of 4 bytes -/
theorem core3 (s : ByteArray) (i b c d f : Nat) (hs : s.size ≤ 65536) (hi : i < s.size) (hi1 : i + 1 < s.size) (hi2 : i + 2 < s.size) (hi3 : i + 3 < s.size) (hb : s[i].toNat = b) (hx1 : s[i + 1].toNat = c) (hx2 : s[i + 2].toNat = d) (hx3 : s[i + 3].toNat = f)
    (hb1 : (240 : Int) ≤ (b : Int)) (hb2 : (b : Int) ≤ 244) (hl1 : (128 : Int) ≤ (c : Int)) (hu1 : (c : Int) ≤ 191) (hl2 : (128 : Int) ≤ (d : Int)) (hu2 : (d : Int) ≤ 191) (hl3 : (128 : Int) ≤ (f : Int)) (hu3 : (f : Int) ≤ 191)
    (ct : ∀ w, Calls Tryz.prog 116 #[.string s, .int .i64 ((i + 1 : Nat) : Int), .int .i64 ((3 : Nat) : Int)] w fun e w' => e = .returned (.bool true) ∧ w = w') (w : World) :
    Calls Tryz.prog 90 #[.string s, .int .i64 i] w fun e w' => (∃ R K : Int, e = .returned (.tuple #[.int .i64 R, .int .i64 K]) ∧ ((((((((b : Int) - 240) * 64 + (c : Int) - 128) * 64 + (d : Int) - 128) * 64 + (f : Int) - 128) < 65536 ∨ 1114111 < (((((b : Int) - 240) * 64 + (c : Int) - 128) * 64 + (d : Int) - 128) * 64 + (f : Int) - 128)) ∧ R = 65533 ∧ K = 1) ∨ (¬ ((((((b : Int) - 240) * 64 + (c : Int) - 128) * 64 + (d : Int) - 128) * 64 + (f : Int) - 128) < 65536 ∨ 1114111 < (((((b : Int) - 240) * 64 + (c : Int) - 128) * 64 + (d : Int) - 128) * 64 + (f : Int) - 128)) ∧ R = (((((b : Int) - 240) * 64 + (c : Int) - 128) * 64 + (d : Int) - 128) * 64 + (f : Int) - 128) ∧ K = 4))) ∧ Below w.heap.size w w' := by
  go_enter Tryz.func90, Tryz.ntmps90
  go_wp2_with (go_at_call 116; go_must (refine (ct _).mono ?_; rintro e w' ⟨rfl, rfl⟩))
  clear ct
  refine wp_loop_rounds 4 ?_
  rw [rounds_succ]
  go_wp2
  rw [rounds_succ]
  go_wp2
  rw [rounds_succ]
  go_wp2
  rw [rounds_succ]
  go_wp2
  all_goals
    go_ret2
    first
    | exact ⟨rfl, (Below.refl _ w).alloc (Nat.le_refl _) _⟩
    | (refine ⟨⟨_, _, rfl, ?_⟩, (Below.refl _ w).alloc (Nat.le_refl _) _⟩
       omega)

set_option maxRecDepth 100000 in
set_option maxHeartbeats 400000 in
/-- a first byte of a longer encoding, and what must stand behind it does not -/
theorem coreNo (s : ByteArray) (i b n : Nat) (hs : s.size ≤ 65536) (hi : i < s.size) (hb : s[i].toNat = b)
    (h : ((194 : Int) ≤ (b : Int) ∧ (b : Int) ≤ 223 ∧ n = 1) ∨ ((224 : Int) ≤ (b : Int) ∧ (b : Int) ≤ 239 ∧ n = 2) ∨ ((240 : Int) ≤ (b : Int) ∧ (b : Int) ≤ 244 ∧ n = 3))
    (ct : ∀ w, Calls Tryz.prog 116 #[.string s, .int .i64 ((i + 1 : Nat) : Int), .int .i64 (n : Int)] w fun e w' => e = .returned (.bool false) ∧ w = w') (w : World) :
    Calls Tryz.prog 90 #[.string s, .int .i64 i] w fun e w' => e = .returned (.tuple #[.int .i64 65533, .int .i64 1]) ∧ Below w.heap.size w w' := by
  rcases h with ⟨h1, h2, rfl⟩ | ⟨h1, h2, rfl⟩ | ⟨h1, h2, rfl⟩
  all_goals
    go_enter Tryz.func90, Tryz.ntmps90
    go_wp2_with (go_at_call 116; go_must (refine (ct _).mono ?_; rintro e w' ⟨rfl, rfl⟩))
    go_ret2
    exact ⟨rfl, Below.refl _ _⟩

/-- spec.l01Rune, at every place of a text of at most 65536 bytes: the model's own decoder. -/
theorem specRune (s : ByteArray) (i : Nat) (hs : s.size ≤ 65536) (hi : i < s.size) (w : World) :
    Calls Tryz.prog 90 #[.string s, .int .i64 i] w fun e w' => e = .returned (.tuple #[.int .i64 (Utf8.decode s i).1, .int .i64 (Utf8.decode s i).2]) ∧ Below w.heap.size w w' := by
  have l0 := byt_lt s i
  have l1 := byt_lt s (i + 1)
  have l2 := byt_lt s (i + 2)
  have l3 := byt_lt s (i + 3)
  have hb := byt_eq s i hi
  by_cases c0 : byt s i < 128
  · exact rune0 s i hs hi c0 w
  by_cases cn : byt s i < 194 ∨ 245 ≤ byt s i
  · exact runeNone s i hs hi (by omega) w
  by_cases c1 : byt s i ≤ 223
  · have ct := specTail s (i + 1) 1 hs (by omega) (by omega)
    by_cases t : tailB s (i + 1) 1 = true
    · have hk : i + 1 < s.size ∧ 128 ≤ byt s (i + 1) ∧ byt s (i + 1) ≤ 191 := by simp [tailB, contAt] at t; omega
      have hd : Utf8.decode s i = ((byt s i - 192) * 64 + byt s (i + 1) - 128, 2) := by
        rw [decode_byt]; exact dec_1yes ⟨by omega, c1⟩ ⟨by omega, hk.2⟩
      rw [hd]
      rw [t] at ct
      refine (core1 s i (byt s i) (byt s (i + 1)) hs hi hk.1 hb (byt_eq s (i + 1) hk.1) (by omega) (by omega) (by omega) (by omega) ct w).mono ?_
      rintro e w' ⟨rfl, hB⟩
      refine ⟨?_, hB⟩
      rw [show (((byt s i - 192) * 64 + byt s (i + 1) - 128 : Nat) : Int) = ((byt s i : Int) - 192) * 64 + (byt s (i + 1) : Int) - 128 from by omega]
      rfl
    · rw [Bool.not_eq_true] at t
      have hd : Utf8.decode s i = (65533, 1) := by
        rw [decode_byt]
        refine dec_1no ⟨by omega, c1⟩ l1 fun a => ?_
        simp [tailB, contAt] at t
        omega
      rw [hd]
      rw [t] at ct
      exact coreNo s i _ 1 hs hi hb (by omega) ct w
  by_cases c2 : byt s i ≤ 239
  · have ct := specTail s (i + 1) 2 hs (by omega) (by omega)
    by_cases t : tailB s (i + 1) 2 = true
    · have hk : (i + 1 < s.size ∧ 128 ≤ byt s (i + 1) ∧ byt s (i + 1) ≤ 191) ∧ (i + 2 < s.size ∧ 128 ≤ byt s (i + 2) ∧ byt s (i + 2) ≤ 191) := by
        simp [tailB, contAt, Nat.add_assoc] at t; omega
      rw [t] at ct
      refine (core2 s i (byt s i) (byt s (i + 1)) (byt s (i + 2)) hs hi hk.1.1 hk.2.1 hb (byt_eq s (i + 1) hk.1.1) (byt_eq s (i + 2) hk.2.1) (by omega) (by omega) (by omega) (by omega) (by omega) (by omega) ct w).mono ?_
      rintro e w' ⟨⟨R, K, rfl, hRK⟩, hB⟩
      refine ⟨?_, hB⟩
      rcases hRK with ⟨hbad, rfl, rfl⟩ | ⟨hgood, rfl, rfl⟩
      · have hd : Utf8.decode s i = (65533, 1) := by
          rw [decode_byt]; exact dec_2bad ⟨by omega, c2⟩ hk.1.2 hk.2.2 (by omega)
        rw [hd]
        rfl
      · have hd : Utf8.decode s i = (((byt s i - 224) * 64 + byt s (i + 1) - 128) * 64 + byt s (i + 2) - 128, 3) := by
          rw [decode_byt]; exact dec_2yes ⟨by omega, c2⟩ (by omega) hk.1.2 hk.2.2 (by omega)
        rw [hd]
        rw [show (((((byt s i - 224) * 64 + byt s (i + 1) - 128) * 64 + byt s (i + 2) - 128 : Nat)) : Int) = (((byt s i : Int) - 224) * 64 + (byt s (i + 1) : Int) - 128) * 64 + (byt s (i + 2) : Int) - 128 from by omega]
        rfl
    · rw [Bool.not_eq_true] at t
      have hd : Utf8.decode s i = (65533, 1) := by
        rw [decode_byt]
        refine dec_2no ⟨by omega, c2⟩ l1 l2 fun a => ?_
        simp [tailB, contAt, Nat.add_assoc] at t
        omega
      rw [hd]
      rw [t] at ct
      exact coreNo s i _ 2 hs hi hb (by omega) ct w
  · have ct := specTail s (i + 1) 3 hs (by omega) (by omega)
    by_cases t : tailB s (i + 1) 3 = true
    · have hk : (i + 1 < s.size ∧ 128 ≤ byt s (i + 1) ∧ byt s (i + 1) ≤ 191) ∧ (i + 2 < s.size ∧ 128 ≤ byt s (i + 2) ∧ byt s (i + 2) ≤ 191) ∧ (i + 3 < s.size ∧ 128 ≤ byt s (i + 3) ∧ byt s (i + 3) ≤ 191) := by
        simp [tailB, contAt, Nat.add_assoc] at t; omega
      rw [t] at ct
      refine (core3 s i (byt s i) (byt s (i + 1)) (byt s (i + 2)) (byt s (i + 3)) hs hi hk.1.1 hk.2.1.1 hk.2.2.1 hb (byt_eq s (i + 1) hk.1.1) (byt_eq s (i + 2) hk.2.1.1) (byt_eq s (i + 3) hk.2.2.1) (by omega) (by omega) (by omega) (by omega) (by omega) (by omega) (by omega) (by omega) ct w).mono ?_
      rintro e w' ⟨⟨R, K, rfl, hRK⟩, hB⟩
      refine ⟨?_, hB⟩
      rcases hRK with ⟨hbad, rfl, rfl⟩ | ⟨hgood, rfl, rfl⟩
      · have hd : Utf8.decode s i = (65533, 1) := by
          rw [decode_byt]; exact dec_3bad ⟨by omega, by omega⟩ hk.1.2 hk.2.1.2 hk.2.2.2 (by omega)
        rw [hd]
        rfl
      · have hd : Utf8.decode s i = ((((byt s i - 240) * 64 + byt s (i + 1) - 128) * 64 + byt s (i + 2) - 128) * 64 + byt s (i + 3) - 128, 4) := by
          rw [decode_byt]; exact dec_3yes ⟨by omega, by omega⟩ (by omega) hk.1.2 hk.2.1.2 hk.2.2.2 (by omega)
        rw [hd]
        rw [show ((((((byt s i - 240) * 64 + byt s (i + 1) - 128) * 64 + byt s (i + 2) - 128) * 64 + byt s (i + 3) - 128 : Nat)) : Int) = ((((byt s i : Int) - 240) * 64 + (byt s (i + 1) : Int) - 128) * 64 + (byt s (i + 2) : Int) - 128) * 64 + (byt s (i + 3) : Int) - 128 from by omega]
        rfl
    · rw [Bool.not_eq_true] at t
      have hd : Utf8.decode s i = (65533, 1) := by
        rw [decode_byt]
        refine dec_3no ⟨by omega, by omega⟩ l1 l2 l3 fun a => ?_
        simp [tailB, contAt, Nat.add_assoc] at t
        omega
      rw [hd]
      rw [t] at ct
      exact coreNo s i _ 3 hs hi hb (by omega) ct w
end Go.Proofs.YtcbabajfdihcdaaGreatDoor

namespace Go.Proofs.YtcbabajfdihcdaaGreatDoor
open Go.ChangeShapes Go.WideShapes Go.ChangeAt Go.RowKit
set_option linter.unusedVariables false

theorem decodeN_le (n b0 b1 b2 b3 : Nat) (h0 : b0 < 256) (h1 : b1 < 256) (h2 : b2 < 256) (h3 : b3 < 256) : (Lib.decodeN n b0 b1 b2 b3).1 ≤ 1114111 ∧ 1 ≤ (Lib.decodeN n b0 b1 b2 b3).2 ∧ (Lib.decodeN n b0 b1 b2 b3).2 ≤ 4 := by
  unfold Lib.decodeN
  repeat' split
  all_goals simp only
  all_goals omega
theorem decode_le (s : ByteArray) (i : Nat) : (Utf8.decode s i).1 ≤ 1114111 ∧ 1 ≤ (Utf8.decode s i).2 ∧ (Utf8.decode s i).2 ≤ 4 := by
  rw [decode_byt]; exact decodeN_le _ _ _ _ _ (byt_lt _ _) (byt_lt _ _) (byt_lt _ _) (byt_lt _ _)

/-- The rune at a place and its length; (0, 0) of a text that is too long, and outside of it. -/
def runeAt (s : ByteArray) (p : Int) : Int × Int :=
  if 65536 < s.size ∨ p < 0 ∨ (s.size : Int) ≤ p then (0, 0) else (((Utf8.decode s p.toNat).1 : Int), ((Utf8.decode s p.toNat).2 : Int))
theorem runeAt_out {s : ByteArray} {p : Int} (h : 65536 < s.size ∨ p < 0 ∨ (s.size : Int) ≤ p) : runeAt s p = (0, 0) := if_pos h
theorem runeAt_in {s : ByteArray} {i : Nat} (hs : s.size ≤ 65536) (h : i < s.size) : runeAt s (i : Int) = (((Utf8.decode s i).1 : Int), ((Utf8.decode s i).2 : Int)) := by
  unfold runeAt; rw [if_neg (by omega)]; rfl

set_option maxRecDepth 100000 in
set_option maxHeartbeats 400000 in
theorem implRuneAt (s : ByteArray) (p : Int) (w : World) (hT : Lib.Utf8Tabs 0 1 w) :
    Calls Tryz.prog 101 #[.string s, .int .i64 p] w fun e w' => e = .returned (.tuple #[.int .i64 (runeAt s p).1, .int .i64 (runeAt s p).2]) ∧ Below w.heap.size w w' := by
  by_cases h : 65536 < s.size ∨ p < 0 ∨ (s.size : Int) ≤ p
  · rw [runeAt_out h]
    clear hT
    by_cases h1 : (65536 : Int) < (s.size : Int)
    · clear h
      go_enter Tryz.func101, Tryz.ntmps101
      go_wp2_with fail
      go_ret2
      exact ⟨rfl, Below.refl _ _⟩
    by_cases h2 : p < 0
    · clear h
      go_enter Tryz.func101, Tryz.ntmps101
      go_wp2_with fail
      go_ret2
      exact ⟨rfl, Below.refl _ _⟩
    have h3 : (s.size : Int) ≤ p := by omega
    clear h
    go_enter Tryz.func101, Tryz.ntmps101
    go_wp2_with fail
    go_ret2
    exact ⟨rfl, Below.refl _ _⟩
  · have hs : s.size ≤ 65536 := by omega
    obtain ⟨i, rfl⟩ : ∃ i : Nat, p = (i : Int) := ⟨p.toNat, by omega⟩
    have hi : i < s.size := by omega
    rw [runeAt_in hs hi]
    have hd : Lib.decodeGo (s.extract i s.size) = Utf8.decode s i := by
      have : ¬ (s.extract i s.size).size = 0 := by simp; omega
      simp only [Lib.decodeGo, if_neg this]
      exact Lib.tail_decode s i 0
    have c := Tryz.utf8_DecodeRuneInString (s.extract i s.size) w hT
    have hle := (decode_le s i).1
    clear h hT
    have h1 : ¬ ((65536 : Int) < (s.size : Int)) := by omega
    have h3 : ¬ ((s.size : Int) ≤ (i : Int)) := by omega
    rw [hd] at c
    obtain ⟨R, hR⟩ : ∃ R, (Utf8.decode s i).1 = R := ⟨_, rfl⟩
    obtain ⟨K, hK⟩ : ∃ K, (Utf8.decode s i).2 = K := ⟨_, rfl⟩
    rw [hR, hK] at c
    rw [hR] at hle
    rw [hR, hK]
    clear hR hK hd
    have hle' : (R : Int) ≤ 1114111 := by omega
    go_enter Tryz.func101, Tryz.ntmps101
    go_wp2_with (go_at_call 121; go_must (refine c.mono ?_; rintro e w' ⟨rfl, hB⟩))
    go_ret2
    exact ⟨rfl, hB⟩
end Go.Proofs.YtcbabajfdihcdaaGreatDoor

namespace Go.Proofs.YtcbabajfdihcdaaGreatDoor
open Go.ChangeShapes Go.WideShapes Go.ChangeAt Go.RowKit
set_option linter.unusedVariables false

def isLet (r : Int) : Bool := (decide (97 ≤ r) && decide (r ≤ 122)) || (decide (65 ≤ r) && decide (r ≤ 90)) || (r == 95) || (decide (192 ≤ r) && decide (r ≤ 591) && r != 215 && r != 247) || (decide (913 ≤ r) && decide (r ≤ 937) && r != 930) || (decide (945 ≤ r) && decide (r ≤ 969)) || (decide (1040 ≤ r) && decide (r ≤ 1103))

set_option maxHeartbeats 400000 in
theorem specLetter (r : Int) (w : World) :
    Calls Tryz.prog 91 #[.int .i64 r] w fun e w' => e = .returned (.bool (isLet r)) ∧ w = w' := by
  go_enter Tryz.func91, Tryz.ntmps91
  go_wp2
  all_goals
    go_ret
    refine ⟨congrArg (fun b => Ending.returned (Value.bool b)) ?_, rfl⟩
    rw [Bool.eq_iff_iff]
    simp only [isLet, Bool.or_eq_true, Bool.and_eq_true, decide_eq_true_eq, beq_iff_eq, bne_iff_ne, beq_eq_false_iff_ne, Bool.false_eq_true, true_iff, false_iff, ne_eq] at *
    first | omega | decide

set_option maxHeartbeats 400000 in
theorem implLetter (r : Int) (w : World) :
    Calls Tryz.prog 102 #[.int .i64 r] w fun e w' => e = .returned (.bool (isLet r)) ∧ w = w' := by
  go_enter Tryz.func102, Tryz.ntmps102
  go_wp2
  all_goals
    go_ret
    refine ⟨congrArg (fun b => Ending.returned (Value.bool b)) ?_, rfl⟩
    rw [Bool.eq_iff_iff]
    simp only [isLet, Bool.or_eq_true, Bool.and_eq_true, decide_eq_true_eq, beq_iff_eq, bne_iff_ne, beq_eq_false_iff_ne, Bool.false_eq_true, true_iff, false_iff, ne_eq] at *
    first | omega | decide


def isDig (r : Int) : Bool := decide (48 ≤ r) && decide (r ≤ 57)
def isNam (r : Int) : Bool := isLet r || isDig r

theorem specDigit (r : Int) (w : World) :
    Calls Tryz.prog 92 #[.int .i64 r] w fun e w' => e = .returned (.bool (isDig r)) ∧ w = w' := by
  go_enter Tryz.func92, Tryz.ntmps92
  go_wp2
  all_goals
    go_ret
    refine ⟨congrArg (fun b => Ending.returned (Value.bool b)) ?_, rfl⟩
    rw [Bool.eq_iff_iff]
    simp only [isDig, Bool.and_eq_true, decide_eq_true_eq, Bool.false_eq_true, false_iff] at *
    omega
theorem implDigit (r : Int) (w : World) :
    Calls Tryz.prog 122 #[.int .i64 r] w fun e w' => e = .returned (.bool (isDig r)) ∧ w = w' := by
  go_enter Tryz.func122, Tryz.ntmps122
  go_wp2
  all_goals
    go_ret
    refine ⟨congrArg (fun b => Ending.returned (Value.bool b)) ?_, rfl⟩
    rw [Bool.eq_iff_iff]
    simp only [isDig, Bool.and_eq_true, decide_eq_true_eq, Bool.false_eq_true, false_iff] at *
    omega
theorem implNam (r : Int) (w : World) :
    Calls Tryz.prog 104 #[.int .i64 r] w fun e w' => e = .returned (.bool (isNam r)) ∧ w = w' := by
  unfold isNam
  have c1 := implLetter r
  have c2 := implDigit r
  obtain ⟨L, hL⟩ : ∃ L, isLet r = L := ⟨_, rfl⟩
  obtain ⟨D, hD⟩ : ∃ D, isDig r = D := ⟨_, rfl⟩
  rw [hL] at c1 ⊢
  rw [hD] at c2 ⊢
  cases L
  · go_enter Tryz.func104, Tryz.ntmps104
    go_wp2_with (first | (go_at_call 102; go_must (refine (c1 _).mono ?_; rintro e w' ⟨rfl, rfl⟩)) | (go_at_call 122; go_must (refine (c2 _).mono ?_; rintro e w' ⟨rfl, rfl⟩)))
    go_ret
    exact ⟨rfl, rfl⟩
  · go_enter Tryz.func104, Tryz.ntmps104
    go_wp2_with (first | (go_at_call 102; go_must (refine (c1 _).mono ?_; rintro e w' ⟨rfl, rfl⟩)) | (go_at_call 122; go_must (refine (c2 _).mono ?_; rintro e w' ⟨rfl, rfl⟩)))
    go_ret
    exact ⟨rfl, rfl⟩
end Go.Proofs.YtcbabajfdihcdaaGreatDoor

namespace Go.Proofs.YtcbabajfdihcdaaGreatDoor
open Go
section
variable {P : Program}

theorem parts_strs (a : Act) (parts : Array (Nat × Operand)) (ss : List ByteArray) (hparts : parts.toList = (ss.zipIdx 0).map fun x => (x.2, Operand.const (Value.string x.1))) :
    (parts.map fun (i, x) => (i, a.eval x)).toList = ((ss.map Value.string).zipIdx 0).map fun x => (x.2, x.1) := by
  rw [Array.toList_map, hparts, List.zipIdx_map, List.map_map, List.map_map]
  rfl

theorem wpList_buildStrs {ops : Array Oper} {rest : List Oper} {o : Oper} {a : Act} {w : World} {Q : Exit → Act → World → Prop} (hg : o.guard = none) (t e : TypeId) (len : Nat) (parts : Array (Nat × Operand)) (ho : o.op = .buildSlice t len parts)
    (ss : List ByteArray)
    (hu : P.underlying t = some (.slice e)) (hsz : (P.info? e).map (·.size) = some 1) (hz : ((P.info? e).bind (·.zero)).isSome = true)
    (hlen : len = ss.length) (hpos : 0 < len) (hsmall : len ≤ 2 ^ 24)
    (hparts : parts.toList = (ss.zipIdx 0).map fun x => (x.2, Operand.const (Value.string x.1)))
    (h : wpList P ops Q rest (a.put o.dst (.slice (some ⟨w.heap.size, 0, none⟩) len len)) (w.alloc (.cells (ss.map Value.string).toArray e))) : wpList P ops Q (o :: rest) a w := by
  cases hie : P.info? e with
  | none => simp [hie] at hsz
  | some ie =>
    simp only [hie, Option.map_some, Option.some.injEq, Option.bind_some] at hsz hz
    obtain ⟨z, hzz⟩ := Option.isSome_iff_exists.1 hz
    refine wpList_buildSlice hg t e len parts ho _ ie z hu hie hzz (by rw [hsz]; omega) (by rw [hsz]; omega) ?_ h
    rw [parts_strs a parts ss hparts, hsz]
    exact Great.fill_flat _ _ (fun v hv => by obtain ⟨n, _, rfl⟩ := List.mem_map.1 hv; rfl) (by simp [hlen])

theorem wpList_buildStrsArr {ops : Array Oper} {rest : List Oper} {o : Oper} {a : Act} {w : World} {Q : Exit → Act → World → Prop} (hg : o.guard = none) (t e : TypeId) (n : Nat) (parts : Array (Nat × Operand)) (ho : o.op = .build t parts)
    (ss : List ByteArray)
    (hu : P.underlying t = some (.array n e)) (hsz : (P.info? e).map (·.size) = some 1) (hz : ((P.info? t).bind (·.zero)).map (·.cells.size) = some ss.length)
    (hparts : parts.toList = (ss.zipIdx 0).map fun x => (x.2, Operand.const (Value.string x.1)))
    (h : wpList P ops Q rest (a.put o.dst (.agg (ss.map Value.string).toArray)) w) : wpList P ops Q (o :: rest) a w := by
  cases hie : P.info? e with
  | none => simp [hie] at hsz
  | some ie =>
    cases hit : P.info? t with
    | none => simp [hit] at hz
    | some it =>
      cases hzz : it.zero with
      | none => simp [hit, hzz] at hz
      | some z =>
        simp only [hie, hit, hzz, Option.map_some, Option.some.injEq, Option.bind_some] at hsz hz
        have hb : P.built t (parts.map fun (i, x) => (i, a.eval x)).toList = some (ss.map Value.string).toArray := by
          unfold Program.built
          simp only [hit, hu, hzz, hie]
          rw [parts_strs a parts ss hparts, hsz]
          exact Great.fill_flat _ _ (fun v hv => by obtain ⟨n, _, rfl⟩ := List.mem_map.1 hv; rfl) (by simp [hz])
        refine wpList_plain hg fun _ hK => ?_
        unfold Oper.wp execOp
        simp only [ho, Sem.run_bind, run_build w t _ _ hb, Result.andThen_ok]
        exact hK _ _ h
end

end Go.Proofs.YtcbabajfdihcdaaGreatDoor

namespace Go.Proofs.YtcbabajfdihcdaaGreatDoor
open Go.ChangeShapes Go.WideShapes Go.ChangeAt Go.RowKit
set_option linter.unusedVariables false

theorem decodeN_fits (n b0 b1 b2 b3 : Nat) (hn : 1 ≤ n) : (Lib.decodeN n b0 b1 b2 b3).2 ≤ n := by
  unfold Lib.decodeN
  repeat' split
  all_goals simp only
  all_goals omega
theorem decode_fits (s : ByteArray) (i : Nat) (h : i < s.size) : i + (Utf8.decode s i).2 ≤ s.size := by
  have := decodeN_fits (s.size - i) (byt s i) (byt s (i + 1)) (byt s (i + 2)) (byt s (i + 3)) (by omega)
  rw [decode_byt]
  omega

/-- Where the run of runes that f takes ends, from a place on. -/
def endOf (f : Int → Bool) (s : ByteArray) (pos : Nat) : Nat :=
  if h : pos < s.size then
    if f ((Utf8.decode s pos).1 : Int) then endOf f s (pos + (Utf8.decode s pos).2) else pos
  else s.size
termination_by s.size - pos
decreasing_by
  have := (decode_le s pos).2.1
  omega
theorem endOf_on {f : Int → Bool} {s : ByteArray} {pos : Nat} (h : pos < s.size) (hf : f ((Utf8.decode s pos).1 : Int) = true) : endOf f s pos = endOf f s (pos + (Utf8.decode s pos).2) := by
  rw [endOf, dif_pos h, if_pos hf]
theorem endOf_stop {f : Int → Bool} {s : ByteArray} {pos : Nat} (h : pos < s.size) (hf : f ((Utf8.decode s pos).1 : Int) = false) : endOf f s pos = pos := by
  rw [endOf, dif_pos h, if_neg (by simp [hf])]
theorem endOf_out {f : Int → Bool} {s : ByteArray} {pos : Nat} (h : ¬ pos < s.size) : endOf f s pos = s.size := by
  rw [endOf, dif_neg h]
theorem endOf_ge (f : Int → Bool) (s : ByteArray) (pos : Nat) (h : pos ≤ s.size) : pos ≤ endOf f s pos ∧ endOf f s pos ≤ s.size := by
  by_cases hp : pos < s.size
  · by_cases hf : f ((Utf8.decode s pos).1 : Int) = true
    · rw [endOf_on hp hf]
      have h1 := (decode_le s pos).2.1
      have h2 := decode_fits s pos hp
      have := endOf_ge f s (pos + (Utf8.decode s pos).2) h2
      omega
    · rw [endOf_stop hp (by simpa using hf)]; omega
  · rw [endOf_out hp]; omega
termination_by s.size - pos
decreasing_by
  have := (decode_le s pos).2.1
  omega

set_option maxRecDepth 1000000 in
set_option maxHeartbeats 400000 in
theorem runEndNam (s : ByteArray) (a : Nat) (hs : s.size ≤ 65536) (ha : a ≤ s.size) (w : World) :
    Calls Tryz.prog 103 #[.string s, .int .i64 a, .func (.func 104) #[] #[]] w fun e w' => e = .returned (.int .i64 (endOf isNam s a)) ∧ Below w.heap.size w w' := by
  obtain ⟨E, hE⟩ : ∃ E, endOf isNam s a = E := ⟨_, rfl⟩
  rw [hE]
  have hTs : (s.extract a s.size).size = s.size - a := by simp
  have hdec : ∀ pos, Utf8.decode (s.extract a s.size) pos = Utf8.decode s (a + pos) := fun pos => Lib.tail_decode s a pos
  go_enter Tryz.func103, Tryz.ntmps103
  go_wp2
  generalize s.extract a s.size = T at hTs hdec ⊢
  have HD : Hid (∀ pos, Utf8.decode T pos = Utf8.decode s (a + pos)) := hdec
  have HE : Hid (endOf isNam s a = E) := hE
  clear hdec hE
  go_loopw [7] (fun _ wr => ∃ pos : Nat, pos ≤ T.size ∧ wr = w.iter T pos ∧ endOf isNam s (a + pos) = E) (fun _ wr => T.size - wr.iterPos w.heap.size)
  case atStart => exact ⟨0, by omega, rfl, HE⟩
  case round =>
    obtain ⟨pos, hpos, rfl, hen⟩ := hrel
    have HN : Hid (endOf isNam s (a + pos) = E) := hen
    clear hen HE
    by_cases hp : pos < T.size
    · have hnx : ∀ ty, (Instr.next (.pointer (some ⟨w.heap.size, 0, none⟩)) true ty).run Tryz.prog (w.iter T pos) = _ := fun ty => run_next_any w T pos ty hp
      have c := implNam ((Utf8.decode T pos).1 : Int)
      have hle := (decode_le T pos).1
      have hg1 := (decode_le T pos).2.1
      have hft := decode_fits T pos hp
      obtain ⟨b, hb⟩ : ∃ b, isNam ((Utf8.decode T pos).1 : Int) = b := ⟨_, rfl⟩
      rw [hb] at c
      have HB : Hid (isNam ((Utf8.decode T pos).1 : Int) = b) := hb
      clear hb
      obtain ⟨R, hR⟩ : ∃ R, (Utf8.decode T pos).1 = R := ⟨_, rfl⟩
      obtain ⟨K, hK⟩ : ∃ K, (Utf8.decode T pos).2 = K := ⟨_, rfl⟩
      have HK : Hid ((Utf8.decode T pos).2 = K) := hK
      rw [hR] at c hle hnx
      rw [hK] at hnx hg1 hft
      clear hR hK
      have hle' : (R : Int) ≤ 1114111 := by omega
      cases b
      · go_wp2_with (go_at_call 104; go_must (refine (c _).mono ?_; rintro e w' ⟨rfl, rfl⟩))
        go_ret
        refine ⟨?_, (Below.refl _ w).alloc (Nat.le_refl _) _⟩
        have h1 := HN.out
        rw [endOf_stop (by omega) (by rw [← HD.out]; exact HB)] at h1
        rw [← h1]
        go_num
      · go_wp2_with (go_at_call 104; go_must (refine (c _).mono ?_; rintro e w' ⟨rfl, rfl⟩))
        go_roundw
        case rel =>
          refine ⟨pos + K, by omega, rfl, ?_⟩
          have h1 := HN.out
          rw [endOf_on (by omega) (by rw [← HD.out]; exact HB), ← HD.out, HK.out] at h1
          rw [← Nat.add_assoc]; exact h1
        case measure => simp; omega
    · have hnx : ∀ ty, (Instr.next (.pointer (some ⟨w.heap.size, 0, none⟩)) true ty).run Tryz.prog (w.iter T pos) = _ := fun ty => run_next_end w T pos ty hp
      go_wp2
      go_ret
      refine ⟨?_, (Below.refl _ w).alloc (Nat.le_refl _) _⟩
      have h1 := HN.out
      rw [endOf_out (by omega)] at h1
      rw [← h1]
      rfl

set_option maxRecDepth 1000000 in
set_option maxHeartbeats 400000 in
theorem runEndDig (s : ByteArray) (a : Nat) (hs : s.size ≤ 65536) (ha : a ≤ s.size) (w : World) :
    Calls Tryz.prog 103 #[.string s, .int .i64 a, .func (.func 122) #[] #[]] w fun e w' => e = .returned (.int .i64 (endOf isDig s a)) ∧ Below w.heap.size w w' := by
  obtain ⟨E, hE⟩ : ∃ E, endOf isDig s a = E := ⟨_, rfl⟩
  rw [hE]
  have hTs : (s.extract a s.size).size = s.size - a := by simp
  have hdec : ∀ pos, Utf8.decode (s.extract a s.size) pos = Utf8.decode s (a + pos) := fun pos => Lib.tail_decode s a pos
  go_enter Tryz.func103, Tryz.ntmps103
  go_wp2
  generalize s.extract a s.size = T at hTs hdec ⊢
  have HD : Hid (∀ pos, Utf8.decode T pos = Utf8.decode s (a + pos)) := hdec
  have HE : Hid (endOf isDig s a = E) := hE
  clear hdec hE
  go_loopw [7] (fun _ wr => ∃ pos : Nat, pos ≤ T.size ∧ wr = w.iter T pos ∧ endOf isDig s (a + pos) = E) (fun _ wr => T.size - wr.iterPos w.heap.size)
  case atStart => exact ⟨0, by omega, rfl, HE⟩
  case round =>
    obtain ⟨pos, hpos, rfl, hen⟩ := hrel
    have HN : Hid (endOf isDig s (a + pos) = E) := hen
    clear hen HE
    by_cases hp : pos < T.size
    · have hnx : ∀ ty, (Instr.next (.pointer (some ⟨w.heap.size, 0, none⟩)) true ty).run Tryz.prog (w.iter T pos) = _ := fun ty => run_next_any w T pos ty hp
      have c := implDigit ((Utf8.decode T pos).1 : Int)
      have hle := (decode_le T pos).1
      have hg1 := (decode_le T pos).2.1
      have hft := decode_fits T pos hp
      obtain ⟨b, hb⟩ : ∃ b, isDig ((Utf8.decode T pos).1 : Int) = b := ⟨_, rfl⟩
      rw [hb] at c
      have HB : Hid (isDig ((Utf8.decode T pos).1 : Int) = b) := hb
      clear hb
      obtain ⟨R, hR⟩ : ∃ R, (Utf8.decode T pos).1 = R := ⟨_, rfl⟩
      obtain ⟨K, hK⟩ : ∃ K, (Utf8.decode T pos).2 = K := ⟨_, rfl⟩
      have HK : Hid ((Utf8.decode T pos).2 = K) := hK
      rw [hR] at c hle hnx
      rw [hK] at hnx hg1 hft
      clear hR hK
      have hle' : (R : Int) ≤ 1114111 := by omega
      cases b
      · go_wp2_with (go_at_call 122; go_must (refine (c _).mono ?_; rintro e w' ⟨rfl, rfl⟩))
        go_ret
        refine ⟨?_, (Below.refl _ w).alloc (Nat.le_refl _) _⟩
        have h1 := HN.out
        rw [endOf_stop (by omega) (by rw [← HD.out]; exact HB)] at h1
        rw [← h1]
        go_num
      · go_wp2_with (go_at_call 122; go_must (refine (c _).mono ?_; rintro e w' ⟨rfl, rfl⟩))
        go_roundw
        case rel =>
          refine ⟨pos + K, by omega, rfl, ?_⟩
          have h1 := HN.out
          rw [endOf_on (by omega) (by rw [← HD.out]; exact HB), ← HD.out, HK.out] at h1
          rw [← Nat.add_assoc]; exact h1
        case measure => simp; omega
    · have hnx : ∀ ty, (Instr.next (.pointer (some ⟨w.heap.size, 0, none⟩)) true ty).run Tryz.prog (w.iter T pos) = _ := fun ty => run_next_end w T pos ty hp
      go_wp2
      go_ret
      refine ⟨?_, (Below.refl _ w).alloc (Nat.le_refl _) _⟩
      have h1 := HN.out
      rw [endOf_out (by omega)] at h1
      rw [← h1]
      rfl

/-- Where a name ends that begins at a place: at the place itself if no letter stands there. -/
def wordEnd (s : ByteArray) (a : Nat) : Nat :=
  if a < s.size ∧ isLet ((Utf8.decode s a).1 : Int) = true then endOf isNam s (a + (Utf8.decode s a).2) else a
theorem wordEnd_ge (s : ByteArray) (a : Nat) (h : a ≤ s.size) : a ≤ wordEnd s a ∧ wordEnd s a ≤ s.size := by
  unfold wordEnd
  split
  · rename_i hc
    have h1 := endOf_ge isNam s (a + (Utf8.decode s a).2) (decode_fits s a hc.1)
    omega
  · omega
/-- What the search for a name's end keeps. -/
def AtWord (s : ByteArray) (a i W : Nat) : Prop := (i = a ∧ wordEnd s a = W) ∨ (a < i ∧ endOf isNam s i = W)
theorem AtWord.stop {s : ByteArray} {a i W : Nat} (h : AtWord s a i W) (hi : i < s.size) (h1 : isLet ((Utf8.decode s i).1 : Int) = false) (h2 : a < i → isDig ((Utf8.decode s i).1 : Int) = false) : W = i := by
  rcases h with ⟨rfl, rfl⟩ | ⟨hl, rfl⟩
  · unfold wordEnd; rw [if_neg]; simp [h1]
  · exact endOf_stop hi (by simp [isNam, h1, h2 hl])
theorem AtWord.end {s : ByteArray} {a i W : Nat} (h : AtWord s a i W) (hi : ¬ i < s.size) (hle : i ≤ s.size) : W = i := by
  rcases h with ⟨rfl, rfl⟩ | ⟨hl, rfl⟩
  · unfold wordEnd; rw [if_neg]; simp [hi]
  · rw [endOf_out hi]; omega
theorem AtWord.on {s : ByteArray} {a i W : Nat} (h : AtWord s a i W) (hi : i < s.size) (h1 : isLet ((Utf8.decode s i).1 : Int) = true ∨ (a < i ∧ isDig ((Utf8.decode s i).1 : Int) = true)) : AtWord s a (i + (Utf8.decode s i).2) W := by
  have hk := (decode_le s i).2.1
  rcases h with ⟨rfl, rfl⟩ | ⟨hl, rfl⟩
  · refine .inr ⟨by omega, ?_⟩
    unfold wordEnd; rw [if_pos ⟨hi, by rcases h1 with h | ⟨h, _⟩; exact h; omega⟩]
  · refine .inr ⟨by omega, ?_⟩
    rw [endOf_on hi]
    rcases h1 with h | ⟨_, h⟩ <;> simp [isNam, h]

set_option maxRecDepth 1000000 in
set_option maxHeartbeats 1000000 in
theorem specWord (s : ByteArray) (a : Nat) (hs : s.size ≤ 65536) (ha : a ≤ s.size) (w : World) :
    Calls Tryz.prog 59 #[.string s, .int .i64 a] w fun e w' => e = .returned (.int .i64 ((wordEnd s a : Int) - (a : Int))) ∧ Below w.heap.size w w' := by
  obtain ⟨W, hW⟩ : ∃ W, wordEnd s a = W := ⟨_, rfl⟩
  have hAW : AtWord s a a W := .inl ⟨rfl, hW⟩
  rw [hW]
  clear hW
  go_enter Tryz.func59, Tryz.ntmps59
  go_wp2
  go_loopw [5] (fun i wr => ∃ k : Nat, a ≤ k ∧ k ≤ s.size ∧ i = .int .i64 (k : Int) ∧ AtWord s a k W ∧ Below w.heap.size w wr) (fun i _ => s.size - (intOf i).toNat)
  case atStart => exact ⟨a, by omega, by omega, rfl, hAW, Below.refl _ _⟩
  case round =>
    obtain ⟨k, hk1, hk2, rfl, hkW, hB⟩ := hrel
    clear hAW
    by_cases hk : k < s.size
    · have c := specRune s k hs hk
      have c1 := specLetter ((Utf8.decode s k).1 : Int)
      have c2 := specDigit ((Utf8.decode s k).1 : Int)
      have hle := (decode_le s k).1
      have hg1 := (decode_le s k).2.1
      have hft := decode_fits s k hk
      have hst := AtWord.stop hkW hk
      have hon := AtWord.on hkW hk
      obtain ⟨R, hR⟩ : ∃ R, (Utf8.decode s k).1 = R := ⟨_, rfl⟩
      obtain ⟨K, hK⟩ : ∃ K, (Utf8.decode s k).2 = K := ⟨_, rfl⟩
      rw [hR, hK] at c
      rw [hR] at c1 c2 hst hon hle
      rw [hK] at hg1 hft hon
      clear hR hK hkW
      obtain ⟨bl, hbl⟩ : ∃ b, isLet (R : Int) = b := ⟨_, rfl⟩
      obtain ⟨bd, hbd⟩ : ∃ b, isDig (R : Int) = b := ⟨_, rfl⟩
      rw [hbl] at c1 hst hon
      rw [hbd] at c2 hst hon
      clear hbl hbd
      have hkz : (k : Int) < (s.size : Int) := by omega
      cases bl
      · by_cases hak : (a : Int) < (k : Int)
        · cases bd
          · have e := hst rfl fun _ => rfl
            subst e
            clear hst hon
            go_wp2_with (first | (go_at_call 90; go_must (refine (c _).mono ?_; rintro e w1 ⟨rfl, hB1⟩)) | (go_at_call 91; go_must (refine (c1 _).mono ?_; rintro e w' ⟨rfl, rfl⟩)) | (go_at_call 92; go_must (refine (c2 _).mono ?_; rintro e w' ⟨rfl, rfl⟩)))
            go_ret
            exact ⟨rfl, hB.trans (hB1.mono hB.size)⟩
          · have hn := hon (.inr ⟨by omega, rfl⟩)
            clear hst hon
            go_wp2_with (first | (go_at_call 90; go_must (refine (c _).mono ?_; rintro e w1 ⟨rfl, hB1⟩)) | (go_at_call 91; go_must (refine (c1 _).mono ?_; rintro e w' ⟨rfl, rfl⟩)) | (go_at_call 92; go_must (refine (c2 _).mono ?_; rintro e w' ⟨rfl, rfl⟩)))
            go_roundw
            case rel => exact ⟨k + K, by omega, by omega, by go_num, hn, hB.trans (hB1.mono hB.size)⟩
            case measure => simp [intOf]; omega
        · have e := hst rfl (fun h => absurd h (by omega))
          subst e
          clear hst hon
          go_wp2_with (first | (go_at_call 90; go_must (refine (c _).mono ?_; rintro e w1 ⟨rfl, hB1⟩)) | (go_at_call 91; go_must (refine (c1 _).mono ?_; rintro e w' ⟨rfl, rfl⟩)) | (go_at_call 92; go_must (refine (c2 _).mono ?_; rintro e w' ⟨rfl, rfl⟩)))
          go_ret
          exact ⟨rfl, hB.trans (hB1.mono hB.size)⟩
      · have hn := hon (.inl rfl)
        clear hst hon c2
        go_wp2_with (first | (go_at_call 90; go_must (refine (c _).mono ?_; rintro e w1 ⟨rfl, hB1⟩)) | (go_at_call 91; go_must (refine (c1 _).mono ?_; rintro e w' ⟨rfl, rfl⟩)))
        go_roundw
        case rel => exact ⟨k + K, by omega, by omega, by go_num, hn, hB.trans (hB1.mono hB.size)⟩
        case measure => simp [intOf]; omega
    · have e := AtWord.end hkW hk hk2
      subst e
      have hkz : ¬ ((W : Int) < (s.size : Int)) := by omega
      go_wp2
      go_ret
      exact ⟨rfl, hB⟩
end Go.Proofs.YtcbabajfdihcdaaGreatDoor

namespace Go.Proofs.YtcbabajfdihcdaaGreatDoor
open Go.ChangeShapes Go.WideShapes Go.ChangeAt Go.RowKit
set_option linter.unusedVariables false

def hasB (ss : List ByteArray) (t : ByteArray) : Bool := ss.any fun x => x.toList == t.toList
theorem any_take_succ (ss : List ByteArray) (f : ByteArray → Bool) (k : Nat) (h : k < ss.length) (h0 : (ss.take k).any f = false) (h1 : f ss[k] = false) : (ss.take (k + 1)).any f = false := by
  rw [List.take_succ_eq_append_getElem h, List.any_append, h0]
  simp [h1]
theorem any_hit (ss : List ByteArray) (f : ByteArray → Bool) (k : Nat) (h : k < ss.length) (h1 : f ss[k] = true) : ss.any f = true :=
  List.any_eq_true.2 ⟨ss[k], List.getElem_mem h, h1⟩

set_option maxRecDepth 100000 in
set_option maxHeartbeats 400000 in
theorem specHasR (ss : List ByteArray) (t : ByteArray) (b : Nat) (w : World) (hlen : ss.length ≤ 1000)
    (hc : ∀ k (h : k < ss.length), w.cell? ⟨b, k, none⟩ = some (.string ss[k])) :
    Calls Tryz.prog 36 #[.slice (some ⟨b, 0, none⟩) ss.length ss.length, .string t] w fun e w' => e = .returned (.bool (hasB ss t)) ∧ w = w' := by
  have HC : Hid (∀ k (h : k < ss.length), w.cell? ⟨b, k, none⟩ = some (.string ss[k])) := hc
  clear hc
  obtain ⟨n, hn⟩ : ∃ n, ss.length = n := ⟨_, rfl⟩
  rw [hn]
  go_enter Tryz.func36, Tryz.ntmps36
  go_wp2
  go_loop [5] (fun i => ∃ k : Nat, k ≤ n ∧ i = .int .i64 (k : Int) ∧ (ss.take k).any (fun x => x.toList == t.toList) = false) (fun i => n - (intOf i).toNat)
  case atStart => exact ⟨0, by omega, rfl, rfl⟩
  case round =>
    obtain ⟨k, hk, rfl, h0⟩ := hrel
    have H0 : Hid ((ss.take k).any (fun x => x.toList == t.toList) = false) := h0
    clear h0
    by_cases hkn : k < n
    · have hk' : k < ss.length := by omega
      have hcell := HC.out k hk'
      obtain ⟨x, hx⟩ : ∃ x, ss[k] = x := ⟨_, rfl⟩
      rw [hx] at hcell
      have HX : Hid (ss[k] = x) := hx
      clear hx
      go_wp2
      · have h1 : (x.toList == t.toList) = true := by assumption
        go_ret
        refine ⟨?_, rfl⟩
        have : hasB ss t = true := any_hit ss _ k hk' (by rw [HX.out]; exact h1)
        rw [this]; rfl
      · have h1 : (x.toList == t.toList) = false := by assumption
        go_round
        case rel => exact ⟨k + 1, by omega, by go_num, any_take_succ ss _ k hk' H0 (by rw [HX.out]; exact h1)⟩
        case measure => simp [intOf]; omega
    · go_wp2
      go_ret
      refine ⟨?_, rfl⟩
      have : hasB ss t = false := by
        have h1 := H0.out
        rw [List.take_of_length_le (by omega)] at h1
        exact h1
      rw [this]; rfl

/-- The eleven reserved words. -/
def resList : List ByteArray :=
  [⟨#[112, 97, 99, 107, 97, 103, 101]⟩, ⟨#[105, 109, 112, 111, 114, 116]⟩, ⟨#[99, 111, 110, 115, 116]⟩, ⟨#[118, 97, 114]⟩, ⟨#[102, 117, 110, 99]⟩, ⟨#[105, 110, 105, 116]⟩, ⟨#[115, 116, 111, 112]⟩, ⟨#[115, 101, 116]⟩, ⟨#[101, 109, 105, 116]⟩, ⟨#[102, 97, 105, 108]⟩, ⟨#[119, 104, 101, 110]⟩]

theorem cells_new (w : World) (ss : List ByteArray) (e : TypeId) (k : Nat) (h : k < ss.length) : (w.alloc (.cells (ss.map Value.string).toArray e)).cell? ⟨w.heap.size, k, none⟩ = some (.string ss[k]) := by
  simp only [World.cell?, heap_alloc_last]
  simp [h]

set_option maxRecDepth 100000 in
set_option maxHeartbeats 400000 in
theorem specReserved (t : ByteArray) (w : World) :
    Calls Tryz.prog 60 #[.string t] w fun e w' => e = .returned (.bool (hasB resList t)) ∧ Below w.heap.size w w' := by
  have c := specHasR resList t w.heap.size (w.alloc (.cells (resList.map Value.string).toArray 9)) (by decide) (cells_new w resList 9)
  obtain ⟨B, hB⟩ : ∃ B, hasB resList t = B := ⟨_, rfl⟩
  rw [hB] at c ⊢
  clear hB
  go_enter Tryz.func60, Tryz.ntmps60
  go_wp2_with (first
    | (refine wpList_buildStrs rfl 49 9 11 _ rfl resList (by kernel_rfl) (by kernel_rfl) (by kernel_rfl) (by kernel_rfl) (by decide) (by decide) (by kernel_rfl) ?_)
    | (go_at_call 36; go_must (refine c.mono ?_; rintro e w' ⟨rfl, rfl⟩)))
  go_ret
  exact ⟨rfl, (Below.refl _ w).alloc (Nat.le_refl _) _⟩

theorem res_eq (t : ByteArray) : hasB resList t = ((t.toList == [112, 97, 99, 107, 97, 103, 101]) || (t.toList == [105, 109, 112, 111, 114, 116]) || (t.toList == [99, 111, 110, 115, 116]) || (t.toList == [118, 97, 114]) || (t.toList == [102, 117, 110, 99]) || (t.toList == [105, 110, 105, 116]) || (t.toList == [115, 116, 111, 112]) || (t.toList == [115, 101, 116]) || (t.toList == [101, 109, 105, 116]) || (t.toList == [102, 97, 105, 108]) || (t.toList == [119, 104, 101, 110])) := by
  rw [Bool.eq_iff_iff]
  simp only [hasB, resList, List.any_cons, List.any_nil, Bool.or_eq_true, beq_iff_eq, Bool.or_false, ByteArray.toList_eq, or_assoc]
  simp only [eq_comm (a := t.data.toList)]
set_option maxRecDepth 100000 in
set_option maxHeartbeats 400000 in
theorem implReserved (t : ByteArray) (w : World) :
    Calls Tryz.prog 100 #[.string t] w fun e w' => e = .returned (.bool (hasB resList t)) ∧ w = w' := by
  go_enter Tryz.func100, Tryz.ntmps100
  go_wp2
  all_goals
    go_ret
    refine ⟨congrArg (fun b => Ending.returned (Value.bool b)) ?_, rfl⟩
    rw [res_eq]
    simp_all
end Go.Proofs.YtcbabajfdihcdaaGreatDoor

namespace Go.Proofs.YtcbabajfdihcdaaGreatDoor
open Go.ChangeShapes Go.WideShapes Go.ChangeAt Go.RowKit
set_option linter.unusedVariables false

def nameOK (s : ByteArray) : Bool := decide (0 < s.size) && decide (s.size ≤ 40) && decide (wordEnd s 0 = s.size) && !hasB resList s

set_option maxRecDepth 100000 in
set_option maxHeartbeats 400000 in
theorem specNameOK (s : ByteArray) (w : World) :
    Calls Tryz.prog 33 #[.string s] w fun e w' => e = .returned (.bool (nameOK s)) ∧ Below w.heap.size w w' := by
  by_cases h0 : s.size = 0
  · have e : nameOK s = false := by simp [nameOK, h0]
    rw [e]
    have h1 : (s.size : Int) = 0 := by omega
    go_enter Tryz.func33, Tryz.ntmps33
    go_wp2_with fail
    go_ret
    exact ⟨rfl, Below.refl _ _⟩
  by_cases h1 : 40 < s.size
  · have e : nameOK s = false := by
      have : decide (s.size ≤ 40) = false := by simp; omega
      simp [nameOK, this]
    rw [e]
    have h2 : (40 : Int) < (s.size : Int) := by omega
    go_enter Tryz.func33, Tryz.ntmps33
    go_wp2_with fail
    go_ret
    exact ⟨rfl, Below.refl _ _⟩
  obtain ⟨E, hE⟩ : ∃ E, wordEnd s 0 = E := ⟨_, rfl⟩
  obtain ⟨B, hB⟩ : ∃ B, hasB resList s = B := ⟨_, rfl⟩
  have c1 : ∀ w, Calls Tryz.prog 59 #[.string s, .int .i64 0] w fun e w' => e = .returned (.int .i64 (E : Int)) ∧ Below w.heap.size w w' := by
    intro w
    have := specWord s 0 (by omega) (by omega) w
    rw [hE] at this
    simpa using this
  have c2 := specReserved s
  rw [hB] at c2
  have e : nameOK s = (decide (E = s.size) && !B) := by
    have a1 : decide (0 < s.size) = true := by simp; omega
    have a2 : decide (s.size ≤ 40) = true := by simp; omega
    simp [nameOK, a1, a2, hE, hB]
  rw [e]
  clear hE hB e
  have p1 : (0 : Int) < (s.size : Int) := by omega
  have p2 : (s.size : Int) ≤ 40 := by omega
  by_cases hEs : (E : Int) = (s.size : Int)
  · have e2 : E = s.size := by omega
    have e3 : decide (E = s.size) = true := by simp [e2]
    have q : ((E : Int) == (s.size : Int)) = true := by simp [e2]
    rw [e3]
    clear e2 e3 hEs
    go_enter Tryz.func33, Tryz.ntmps33
    go_wp2_with (first | (go_at_call 59; go_must (refine (c1 _).mono ?_; rintro e w1 ⟨rfl, hB1⟩)) | (go_at_call 60; go_must (refine (c2 _).mono ?_; rintro e w2 ⟨rfl, hB2⟩)))
    go_ret
    refine ⟨?_, hB1.trans (hB2.mono hB1.size)⟩
    cases B <;> rfl
  · have e3 : decide (E = s.size) = false := by simp; omega
    have q : ((E : Int) == (s.size : Int)) = false := by simp; omega
    rw [e3]
    clear e3 hEs
    go_enter Tryz.func33, Tryz.ntmps33
    go_wp2_with (first | (go_at_call 59; go_must (refine (c1 _).mono ?_; rintro e w1 ⟨rfl, hB1⟩)) | (go_at_call 60; go_must (refine (c2 _).mono ?_; rintro e w2 ⟨rfl, hB2⟩)))
    go_ret
    exact ⟨rfl, hB1⟩

theorem word_of_end (s : ByteArray) (h : 0 < s.size) : decide (wordEnd s 0 = s.size) = (isLet ((Utf8.decode s 0).1 : Int) && decide (endOf isNam s 0 = s.size)) := by
  unfold wordEnd
  cases hl : isLet ((Utf8.decode s 0).1 : Int)
  · rw [if_neg (by simp)]; simp; omega
  · rw [if_pos ⟨h, rfl⟩, endOf_on (f := isNam) h (by simp [isNam, hl])]
    simp

set_option maxRecDepth 100000 in
set_option maxHeartbeats 400000 in
theorem implNameOK (s : ByteArray) (w : World) (hT : Lib.Utf8Tabs 0 1 w) :
    Calls Tryz.prog 70 #[.string s] w fun e w' => e = .returned (.bool (nameOK s)) ∧ Below w.heap.size w w' := by
  by_cases h0 : s.size = 0
  · have e : nameOK s = false := by simp [nameOK, h0]
    rw [e]
    clear hT
    have h1 : (s.size : Int) = 0 := by omega
    go_enter Tryz.func70, Tryz.ntmps70
    go_wp2_with fail
    go_ret
    exact ⟨rfl, Below.refl _ _⟩
  by_cases h1 : 40 < s.size
  · have e : nameOK s = false := by
      have : decide (s.size ≤ 40) = false := by simp; omega
      simp [nameOK, this]
    rw [e]
    clear hT
    have h2 : (40 : Int) < (s.size : Int) := by omega
    go_enter Tryz.func70, Tryz.ntmps70
    go_wp2_with fail
    go_ret
    exact ⟨rfl, Below.refl _ _⟩
  have c0 := implReserved s
  have hr := runeAt_in (s := s) (i := 0) (by omega) (by omega)
  have c1 := fun w hT => implRuneAt s 0 w hT
  have hr' : runeAt s 0 = (((Utf8.decode s 0).1 : Int), ((Utf8.decode s 0).2 : Int)) := hr
  rw [hr'] at c1
  have c2 := implLetter ((Utf8.decode s 0).1 : Int)
  have c3 : ∀ w, Calls Tryz.prog 103 #[.string s, .int .i64 0, .func (.func 104) #[] #[]] w fun e w' => e = .returned (.int .i64 (endOf isNam s 0)) ∧ Below w.heap.size w w' := fun w => runEndNam s 0 (by omega) (by omega) w
  have hw := word_of_end s (by omega)
  obtain ⟨B, hB⟩ : ∃ B, hasB resList s = B := ⟨_, rfl⟩
  obtain ⟨E, hE⟩ : ∃ E, endOf isNam s 0 = E := ⟨_, rfl⟩
  have e : nameOK s = (isLet ((Utf8.decode s 0).1 : Int) && decide (E = s.size) && !B) := by
    have a1 : decide (0 < s.size) = true := by simp; omega
    have a2 : decide (s.size ≤ 40) = true := by simp; omega
    simp only [nameOK, a1, a2, hB, hw, hE, Bool.true_and]
  rw [e]
  rw [hB] at c0
  rw [hE] at c3
  obtain ⟨R, hR⟩ : ∃ R, (Utf8.decode s 0).1 = R := ⟨_, rfl⟩
  obtain ⟨K, hK⟩ : ∃ K, (Utf8.decode s 0).2 = K := ⟨_, rfl⟩
  rw [hR] at c1 c2 ⊢
  rw [hK] at c1
  obtain ⟨Lb, hL⟩ : ∃ L, isLet (R : Int) = L := ⟨_, rfl⟩
  rw [hL] at c2 ⊢
  have HT : Hid (Lib.Utf8Tabs 0 1 w) := hT
  clear hE hB e hw hr hr' hR hK hL hT
  have p1 : ((s.size : Int) == 0) = false := by rw [beq_eq_false_iff_ne]; omega
  have p2 : (s.size : Int) ≤ 40 := by omega
  cases B
  · cases Lb
    · go_enter Tryz.func70, Tryz.ntmps70
      go_wp2_with (first | (go_at_call 100; go_must (refine (c0 _).mono ?_; rintro e w1 ⟨rfl, rfl⟩)) | (go_at_call 101; go_must (refine (c1 _ HT.out).mono ?_; rintro e w2 ⟨rfl, hB2⟩)) | (go_at_call 102; go_must (refine (c2 _).mono ?_; rintro e w' ⟨rfl, rfl⟩)) | (go_at_call 103; go_must (refine (c3 _).mono ?_; rintro e w3 ⟨rfl, hB3⟩)))
      go_ret
      exact ⟨rfl, hB2⟩
    · go_enter Tryz.func70, Tryz.ntmps70
      go_wp2_with (first | (go_at_call 100; go_must (refine (c0 _).mono ?_; rintro e w1 ⟨rfl, rfl⟩)) | (go_at_call 101; go_must (refine (c1 _ HT.out).mono ?_; rintro e w2 ⟨rfl, hB2⟩)) | (go_at_call 102; go_must (refine (c2 _).mono ?_; rintro e w' ⟨rfl, rfl⟩)) | (go_at_call 103; go_must (refine (c3 _).mono ?_; rintro e w3 ⟨rfl, hB3⟩)))
      go_ret
      refine ⟨?_, hB2.trans (hB3.mono hB2.size)⟩
      refine congrArg (fun b => Ending.returned (Value.bool b)) ?_
      rw [Bool.eq_iff_iff]
      simp
      omega
  · have e4 : (Lb && decide (E = s.size) && !true) = false := by simp
    rw [e4]
    go_enter Tryz.func70, Tryz.ntmps70
    go_wp2_with (first | (go_at_call 100; go_must (refine (c0 _).mono ?_; rintro e w1 ⟨rfl, rfl⟩)))
    go_ret
    exact ⟨rfl, Below.refl _ _⟩
end Go.Proofs.YtcbabajfdihcdaaGreatDoor

namespace Go.Proofs.YtcbabajfdihcdaaGreatDoor
open Go.ChangeShapes Go.WideShapes Go.ChangeAt Go.RowKit
set_option linter.unusedVariables false
set_option linter.unusedSimpArgs false

def numOf (l : List UInt8) : Nat := l.foldl (fun n b => n * 10 + (b.toNat - 48)) 0
theorem numOf_succ (d : ByteArray) (k : Nat) (h : k < d.size) : numOf (d.data.toList.take (k + 1)) = numOf (d.data.toList.take k) * 10 + (byt d k - 48) := by
  have hl : k < d.data.toList.length := by simpa using h
  unfold numOf
  rw [List.take_succ_eq_append_getElem hl, List.foldl_append]
  simp only [List.foldl_cons, List.foldl_nil]
  have : (d.data.toList[k]).toNat = byt d k := by
    rw [← byt_eq d k h]; rfl
  rw [this]
theorem numOf_lt (d : ByteArray) (k : Nat) (hd : ∀ i, i < k → 48 ≤ byt d i ∧ byt d i ≤ 57) (h : k ≤ d.size) : numOf (d.data.toList.take k) < 10 ^ k := by
  induction k with
  | zero => simp [numOf]
  | succ k ih =>
    rw [numOf_succ d k (by omega), Nat.pow_succ]
    have := ih (fun i hi => hd i (by omega)) (by omega)
    have := hd k (by omega)
    omega
def digsB (d : ByteArray) : Bool := (List.range d.size).all fun i => decide (48 ≤ byt d i) && decide (byt d i ≤ 57)
def negB (t : ByteArray) : Bool := decide (0 < t.size) && decide (byt t 0 = 45)
def absT (t : ByteArray) : ByteArray := if negB t then t.extract 1 t.size else t
def headB (d : ByteArray) (neg : Bool) : Bool := decide (d.size = 0) || decide (18 < d.size) || (decide (byt d 0 = 48) && (decide (1 < d.size) || neg))
def numB (t : ByteArray) : Bool := !headB (absT t) (negB t) && digsB (absT t)
def numV (t : ByteArray) : Int := if numB t then (if negB t then -1 else 1) * (numOf (absT t).data.toList : Int) else 0
theorem digs_no {d : ByteArray} {k : Nat} (hk : k < d.size) (h : ¬ (48 ≤ byt d k ∧ byt d k ≤ 57)) : digsB d = false := by
  unfold digsB
  rw [List.all_eq_false]
  exact ⟨k, List.mem_range.2 hk, by simpa using h⟩
theorem digs_yes {d : ByteArray} (h : ∀ i, i < d.size → 48 ≤ byt d i ∧ byt d i ≤ 57) : digsB d = true := by
  unfold digsB
  rw [List.all_eq_true]
  intro i hi
  simpa using h i (List.mem_range.1 hi)
set_option maxRecDepth 100000 in
set_option maxHeartbeats 2000000 in
theorem specNumber (t : ByteArray) (ht : t.size ≤ 1048576) (w : World) :
    Calls Tryz.prog 88 #[.string t] w fun e w' => e = .returned (.tuple #[.int .i64 (numV t), .bool (numB t)]) ∧ w' = w := by
  have hbt := fun h => byt_eq t 0 h
  have hts : (t.size : Int) ≤ 1048576 := by omega
  have hda : (absT t).size ≤ 1048576 := by
    unfold absT; split
    · rw [ByteArray.size_extract]; omega
    · exact ht
  have hval : numV t = if numB t then (if negB t then -1 else 1) * (numOf (absT t).data.toList : Int) else 0 := rfl
  have hnb : numB t = (!headB (absT t) (negB t) && digsB (absT t)) := rfl
  have hneg : negB t = (decide (0 < t.size) && decide (byt t 0 = 45)) := rfl
  have habs : absT t = if negB t then t.extract 1 t.size else t := rfl
  obtain ⟨NV, hNV⟩ : ∃ NV, numV t = NV := ⟨_, rfl⟩
  obtain ⟨NB, hNB⟩ : ∃ NB, numB t = NB := ⟨_, rfl⟩
  obtain ⟨d, hd⟩ : ∃ d, absT t = d := ⟨_, rfl⟩
  obtain ⟨ng, hng⟩ : ∃ ng, negB t = ng := ⟨_, rfl⟩
  rw [hNV, hNB, hng, hd] at hval
  rw [hNB, hd, hng] at hnb
  rw [hng] at hneg habs
  rw [hd] at habs hda
  rw [hNV, hNB]
  have HV : Hid (NV = if NB = true then (if ng = true then -1 else 1) * (numOf d.data.toList : Int) else 0) := hval
  have HNB : Hid (NB = (!headB d ng && digsB d)) := hnb
  have HNG : Hid (ng = (decide (0 < t.size) && decide (byt t 0 = 45))) := hneg
  have HAB : Hid (d = if ng = true then t.extract 1 t.size else t) := habs
  clear hNV hNB hd hng hval hnb hneg habs
  cases ng
  case true =>
    have hn := HNG.out
    obtain ⟨h0, h45⟩ : 0 < t.size ∧ byt t 0 = 45 := by simpa using hn.symm
    have h0' : (0 : Int) < (t.size : Int) := by omega
    have hb45 := hbt h0
    rw [h45] at hb45
    have hab0 := HAB.out
    rw [if_pos rfl] at hab0
    have HAB2 : Hid (d = t.extract 1 t.size) := hab0
    clear hab0 HAB
    have hlo : (1 : Int) ≤ (t.size : Int) := by omega
    clear hbt hn
    go_enter Tryz.func88, Tryz.ntmps88
    go_upto_region 5 with fail
    rw [← HAB2.out]
    go_cut [38] from 17 to 39 (fun s38 wx => s38 = .bool (headB d true) ∧ wx = w)
    case first =>
      have HH : Hid (headB d true = (decide (d.size = 0) || decide (18 < d.size) || (decide (byt d 0 = 48) && (decide (1 < d.size) || true)))) := (show headB d true = (decide (d.size = 0) || decide (18 < d.size) || (decide (byt d 0 = 48) && (decide (1 < d.size) || true))) from rfl)
      by_cases s0 : d.size = 0
      · have s0' : ((d.size : Int) == 0) = true := by rw [beq_iff_eq]; omega
        have e := HH.out
        rw [decide_eq_true s0] at e
        simp only [Bool.true_or] at e
        have HE : Hid (headB d true = true) := e
        clear e
        go_wp2_with fail
        go_meet
        exact ⟨by rw [HE.out], rfl⟩
      have s0' : ((d.size : Int) == 0) = false := by rw [beq_eq_false_iff_ne]; omega
      by_cases s18 : 18 < d.size
      · have s18' : (18 : Int) < (d.size : Int) := by omega
        have e := HH.out
        rw [decide_eq_true s18] at e
        simp only [Bool.true_or, Bool.or_true] at e
        have HE : Hid (headB d true = true) := e
        clear e
        go_wp2_with fail
        go_meet
        exact ⟨by rw [HE.out], rfl⟩
      have s18' : ¬ ((18 : Int) < (d.size : Int)) := by omega
      have hpos : (0 : Int) < (d.size : Int) := by omega
      have hb0 := byt_eq d 0 (by omega)
      by_cases b48 : byt d 0 = 48
      · rw [b48] at hb0
        by_cases s1 : 1 < d.size
        · have s1' : (1 : Int) < (d.size : Int) := by omega
          have e := HH.out
          rw [decide_eq_true b48, decide_eq_true s1] at e
          simp only [Bool.true_or, Bool.or_true, Bool.true_and] at e
          have HE : Hid (headB d true = true) := e
          clear e
          go_wp2_with fail
          go_meet
          exact ⟨by rw [HE.out], rfl⟩
        · have s1' : ¬ ((1 : Int) < (d.size : Int)) := by omega
          have e := HH.out
          rw [decide_eq_true b48, decide_eq_false s1, decide_eq_false s0, decide_eq_false s18] at e
          simp only [Bool.or_false, Bool.false_or, Bool.true_and] at e
          have HE : Hid (headB d true = true) := e
          clear e
          go_wp2_with fail
          go_meet
          exact ⟨by rw [HE.out], rfl⟩
      · have q48 : ((byt d 0 : Int) == 48) = false := by rw [beq_eq_false_iff_ne]; omega
        have e := HH.out
        rw [decide_eq_false b48, decide_eq_false s0, decide_eq_false s18] at e
        simp only [Bool.or_false, Bool.false_or, Bool.false_and] at e
        have HE : Hid (headB d true = false) := e
        obtain ⟨c, hc⟩ : ∃ c, byt d 0 = c := ⟨_, rfl⟩
        rw [hc] at hb0 q48
        clear hc
        clear e b48
        go_wp2_with fail
        go_meet
        exact ⟨by rw [HE.out], rfl⟩
    case rest =>
      obtain ⟨rfl, rfl⟩ := hcut
      obtain ⟨W, hW⟩ : ∃ W, W = wc := ⟨_, rfl⟩
      subst hW
      cases hh : headB d true
      case true =>
        have hn := HNB.out
        rw [hh] at hn
        simp only [Bool.not_true, Bool.false_and] at hn
        subst hn
        have hv := HV.out
        rw [if_neg (by simp)] at hv
        subst hv
        go_wp2_with fail
        go_ret2
        exact ⟨rfl, rfl⟩
      case false =>
      have hn := HNB.out
      rw [hh] at hn
      simp only [Bool.not_false, Bool.true_and] at hn
      have HN2 : Hid (NB = digsB d) := hn
      have h18 : 1 ≤ d.size ∧ d.size ≤ 18 := by
        unfold headB at hh
        simp only [Bool.or_eq_false_iff, decide_eq_false_iff_not] at hh
        omega
      clear hn hh
      go_wp2_with fail
      go_loopw [5, 6] (fun i5 i6 wr => ∃ k : Nat, k ≤ d.size ∧ i6 = .int .i64 (k : Int) ∧ i5 = .int .i64 ((numOf (d.data.toList.take k) : Nat) : Int) ∧ (∀ i, i < k → 48 ≤ byt d i ∧ byt d i ≤ 57) ∧ wr = W) (fun _ i6 _ => d.size - (intOf i6).toNat)
      case atStart => exact ⟨0, by omega, rfl, rfl, fun i hi => by omega, rfl⟩
      case round =>
        obtain ⟨k, hk, rfl, rfl, hdg, rfl⟩ := hrel
        have HDG : Hid (∀ i, i < k → 48 ≤ byt d i ∧ byt d i ≤ 57) := hdg
        have hlt := numOf_lt d k hdg hk
        clear hdg
        by_cases hkn : k < d.size
        · have hkn' : (k : Int) < (d.size : Int) := by omega
          have hbk := byt_eq d k hkn
          have hsu := numOf_succ d k hkn
          have hpw : 10 ^ k ≤ 10 ^ 17 := Nat.pow_le_pow_right (by omega) (by omega)
          have hno := digs_no hkn
          have hst : 48 ≤ byt d k ∧ byt d k ≤ 57 → ∀ i, i < k + 1 → 48 ≤ byt d i ∧ byt d i ≤ 57 := fun h0 i hi => by
            by_cases e : i = k
            · subst e; exact h0
            · exact HDG.out i (by omega)
          obtain ⟨c, hc⟩ : ∃ c, byt d k = c := ⟨_, rfl⟩
          obtain ⟨n, hn⟩ : ∃ n, numOf (d.data.toList.take k) = n := ⟨_, rfl⟩
          obtain ⟨m, hm⟩ : ∃ m, numOf (d.data.toList.take (k + 1)) = m := ⟨_, rfl⟩
          have HM : Hid (numOf (d.data.toList.take (k + 1)) = m) := hm
          rw [hc] at hbk hsu hno hst
          rw [hn] at hlt hsu ⊢
          rw [hm] at hsu
          have HST : Hid (48 ≤ c ∧ c ≤ 57 → ∀ i, i < k + 1 → 48 ≤ byt d i ∧ byt d i ≤ 57) := hst
          have HNO : Hid (¬ (48 ≤ c ∧ c ≤ 57) → digsB d = false) := hno
          have HSU : Hid (m = n * 10 + (c - 48)) := hsu
          have hn17 : n < 100000000000000000 := by omega
          clear hm hn hc hlt hpw hno hst hsu
          by_cases c1 : c < 48
          · have c1' : (c : Int) < 48 := by omega
            have hf := HNO.out (by omega)
            have h1 := HN2.out
            rw [hf] at h1
            subst h1
            have hv := HV.out
            rw [if_neg (by simp)] at hv
            subst hv
            go_wp2_with fail
            go_ret2
            exact ⟨rfl, rfl⟩
          by_cases c2 : 57 < c
          · have c1' : ¬ ((c : Int) < 48) := by omega
            have c2' : (57 : Int) < (c : Int) := by omega
            have hf := HNO.out (by omega)
            have h1 := HN2.out
            rw [hf] at h1
            subst h1
            have hv := HV.out
            rw [if_neg (by simp)] at hv
            subst hv
            go_wp2_with fail
            go_ret2
            exact ⟨rfl, rfl⟩
          have c1' : ¬ ((c : Int) < 48) := by omega
          have c2' : ¬ ((57 : Int) < (c : Int)) := by omega
          go_wp2_with fail
          exact ⟨⟨k + 1, by omega, by go_num, by rw [HM.out, HSU.out]; congr 1; omega, HST.out ⟨by omega, by omega⟩, by trivial⟩, by simp [intOf]; omega⟩
        · obtain rfl : k = d.size := by omega
          have hkn' : ¬ ((d.size : Int) < (d.size : Int)) := by omega
          have hy := digs_yes HDG.out
          have h1 := HN2.out
          rw [hy] at h1
          subst h1
          have hv := HV.out
          simp only [↓reduceIte, Bool.false_eq_true] at hv
          have htk : numOf (d.data.toList.take d.size) = numOf d.data.toList := by rw [List.take_of_length_le (by simp)]
          rw [htk] at hlt ⊢
          have hpw : 10 ^ d.size ≤ 10 ^ 18 := Nat.pow_le_pow_right (by omega) (by omega)
          obtain ⟨N, hN⟩ : ∃ N, numOf d.data.toList = N := ⟨_, rfl⟩
          rw [hN] at hv hlt ⊢
          have hN18 : N < 1000000000000000000 := by omega
          clear hN hlt hpw htk
          have HV2 : Hid (NV = (-1) * (N : Int)) := hv
          clear hv
          go_wp2_with fail
          go_ret2
          exact ⟨by rw [HV2.out]; simp, rfl⟩
  case false =>
    have hab := HAB.out
    rw [if_neg (by simp)] at hab
    subst hab
    have hn := HNG.out
    by_cases h0 : 0 < d.size
    case neg =>
      have h0' : ¬ ((0 : Int) < (d.size : Int)) := by omega
      clear hbt hn
      have hz : ((d.size : Int) == 0) = true := by rw [beq_iff_eq]; omega
      have hd0 : d.size = 0 := by omega
      have h1 := HNB.out
      unfold headB at h1
      rw [decide_eq_true hd0] at h1
      simp only [Bool.true_or, Bool.not_true, Bool.false_and] at h1
      subst h1
      have hv := HV.out
      rw [if_neg (by simp)] at hv
      subst hv
      clear hd0
      go_enter Tryz.func88, Tryz.ntmps88
      go_wp2_with fail
      go_ret2
      exact ⟨rfl, rfl⟩
    have h0' : (0 : Int) < (d.size : Int) := by omega
    have hb45 := hbt h0
    have hne : byt d 0 ≠ 45 := fun e => by rw [decide_eq_true h0, decide_eq_true e] at hn; cases hn
    have q45 : ((byt d 0 : Int) == 45) = false := by rw [beq_eq_false_iff_ne]; omega
    obtain ⟨c45, hc45⟩ : ∃ c, byt d 0 = c := ⟨_, rfl⟩
    rw [hc45] at hb45 q45
    have HC45 : Hid (byt d 0 = c45) := hc45
    clear hbt hn hne hc45
    go_enter Tryz.func88, Tryz.ntmps88
    go_upto_region 5 with fail
    go_cut [38] from 17 to 39 (fun s38 wx => s38 = .bool (headB d false) ∧ wx = w)
    case first =>
      have HH : Hid (headB d false = (decide (d.size = 0) || decide (18 < d.size) || (decide (byt d 0 = 48) && (decide (1 < d.size) || false)))) := (show headB d false = (decide (d.size = 0) || decide (18 < d.size) || (decide (byt d 0 = 48) && (decide (1 < d.size) || false))) from rfl)
      by_cases s0 : d.size = 0
      · have s0' : ((d.size : Int) == 0) = true := by rw [beq_iff_eq]; omega
        have e := HH.out
        rw [decide_eq_true s0] at e
        simp only [Bool.true_or] at e
        have HE : Hid (headB d false = true) := e
        clear e
        go_wp2_with fail
        go_meet
        exact ⟨by rw [HE.out], rfl⟩
      have s0' : ((d.size : Int) == 0) = false := by rw [beq_eq_false_iff_ne]; omega
      by_cases s18 : 18 < d.size
      · have s18' : (18 : Int) < (d.size : Int) := by omega
        have e := HH.out
        rw [decide_eq_true s18] at e
        simp only [Bool.true_or, Bool.or_true] at e
        have HE : Hid (headB d false = true) := e
        clear e
        go_wp2_with fail
        go_meet
        exact ⟨by rw [HE.out], rfl⟩
      have s18' : ¬ ((18 : Int) < (d.size : Int)) := by omega
      have hpos : (0 : Int) < (d.size : Int) := by omega
      by_cases b48 : byt d 0 = 48
      · have e48 : c45 = 48 := HC45.out.symm.trans b48
        subst e48
        by_cases s1 : 1 < d.size
        · have s1' : (1 : Int) < (d.size : Int) := by omega
          have e := HH.out
          rw [decide_eq_true b48, decide_eq_true s1] at e
          simp only [Bool.true_or, Bool.or_true, Bool.true_and] at e
          have HE : Hid (headB d false = true) := e
          clear e
          go_wp2_with fail
          go_meet
          exact ⟨by rw [HE.out], rfl⟩
        · have s1' : ¬ ((1 : Int) < (d.size : Int)) := by omega
          have e := HH.out
          rw [decide_eq_true b48, decide_eq_false s1, decide_eq_false s0, decide_eq_false s18] at e
          simp only [Bool.or_false, Bool.false_or, Bool.true_and] at e
          have HE : Hid (headB d false = false) := e
          clear e
          go_wp2_with fail
          go_meet
          exact ⟨by rw [HE.out], rfl⟩
      · have q48 : ((c45 : Int) == 48) = false := by have := HC45.out; rw [beq_eq_false_iff_ne]; omega
        have e := HH.out
        rw [decide_eq_false b48, decide_eq_false s0, decide_eq_false s18] at e
        simp only [Bool.or_false, Bool.false_or, Bool.false_and] at e
        have HE : Hid (headB d false = false) := e
        clear e b48
        go_wp2_with fail
        go_meet
        exact ⟨by rw [HE.out], rfl⟩
    case rest =>
      obtain ⟨rfl, rfl⟩ := hcut
      obtain ⟨W, hW⟩ : ∃ W, W = wc := ⟨_, rfl⟩
      subst hW
      cases hh : headB d false
      case true =>
        have hn := HNB.out
        rw [hh] at hn
        simp only [Bool.not_true, Bool.false_and] at hn
        subst hn
        have hv := HV.out
        rw [if_neg (by simp)] at hv
        subst hv
        go_wp2_with fail
        go_ret2
        exact ⟨rfl, rfl⟩
      case false =>
      have hn := HNB.out
      rw [hh] at hn
      simp only [Bool.not_false, Bool.true_and] at hn
      have HN2 : Hid (NB = digsB d) := hn
      have h18 : 1 ≤ d.size ∧ d.size ≤ 18 := by
        unfold headB at hh
        simp only [Bool.or_eq_false_iff, decide_eq_false_iff_not] at hh
        omega
      clear hn hh
      go_wp2_with fail
      go_loopw [5, 6] (fun i5 i6 wr => ∃ k : Nat, k ≤ d.size ∧ i6 = .int .i64 (k : Int) ∧ i5 = .int .i64 ((numOf (d.data.toList.take k) : Nat) : Int) ∧ (∀ i, i < k → 48 ≤ byt d i ∧ byt d i ≤ 57) ∧ wr = W) (fun _ i6 _ => d.size - (intOf i6).toNat)
      case atStart => exact ⟨0, by omega, rfl, rfl, fun i hi => by omega, rfl⟩
      case round =>
        obtain ⟨k, hk, rfl, rfl, hdg, rfl⟩ := hrel
        have HDG : Hid (∀ i, i < k → 48 ≤ byt d i ∧ byt d i ≤ 57) := hdg
        have hlt := numOf_lt d k hdg hk
        clear hdg
        by_cases hkn : k < d.size
        · have hkn' : (k : Int) < (d.size : Int) := by omega
          have hbk := byt_eq d k hkn
          have hsu := numOf_succ d k hkn
          have hpw : 10 ^ k ≤ 10 ^ 17 := Nat.pow_le_pow_right (by omega) (by omega)
          have hno := digs_no hkn
          have hst : 48 ≤ byt d k ∧ byt d k ≤ 57 → ∀ i, i < k + 1 → 48 ≤ byt d i ∧ byt d i ≤ 57 := fun h0 i hi => by
            by_cases e : i = k
            · subst e; exact h0
            · exact HDG.out i (by omega)
          obtain ⟨c, hc⟩ : ∃ c, byt d k = c := ⟨_, rfl⟩
          obtain ⟨n, hn⟩ : ∃ n, numOf (d.data.toList.take k) = n := ⟨_, rfl⟩
          obtain ⟨m, hm⟩ : ∃ m, numOf (d.data.toList.take (k + 1)) = m := ⟨_, rfl⟩
          have HM : Hid (numOf (d.data.toList.take (k + 1)) = m) := hm
          rw [hc] at hbk hsu hno hst
          rw [hn] at hlt hsu ⊢
          rw [hm] at hsu
          have HST : Hid (48 ≤ c ∧ c ≤ 57 → ∀ i, i < k + 1 → 48 ≤ byt d i ∧ byt d i ≤ 57) := hst
          have HNO : Hid (¬ (48 ≤ c ∧ c ≤ 57) → digsB d = false) := hno
          have HSU : Hid (m = n * 10 + (c - 48)) := hsu
          have hn17 : n < 100000000000000000 := by omega
          clear hm hn hc hlt hpw hno hst hsu
          by_cases c1 : c < 48
          · have c1' : (c : Int) < 48 := by omega
            have hf := HNO.out (by omega)
            have h1 := HN2.out
            rw [hf] at h1
            subst h1
            have hv := HV.out
            rw [if_neg (by simp)] at hv
            subst hv
            go_wp2_with fail
            go_ret2
            exact ⟨rfl, rfl⟩
          by_cases c2 : 57 < c
          · have c1' : ¬ ((c : Int) < 48) := by omega
            have c2' : (57 : Int) < (c : Int) := by omega
            have hf := HNO.out (by omega)
            have h1 := HN2.out
            rw [hf] at h1
            subst h1
            have hv := HV.out
            rw [if_neg (by simp)] at hv
            subst hv
            go_wp2_with fail
            go_ret2
            exact ⟨rfl, rfl⟩
          have c1' : ¬ ((c : Int) < 48) := by omega
          have c2' : ¬ ((57 : Int) < (c : Int)) := by omega
          go_wp2_with fail
          exact ⟨⟨k + 1, by omega, by go_num, by rw [HM.out, HSU.out]; congr 1; omega, HST.out ⟨by omega, by omega⟩, by trivial⟩, by simp [intOf]; omega⟩
        · obtain rfl : k = d.size := by omega
          have hkn' : ¬ ((d.size : Int) < (d.size : Int)) := by omega
          have hy := digs_yes HDG.out
          have h1 := HN2.out
          rw [hy] at h1
          subst h1
          have hv := HV.out
          simp only [↓reduceIte, Bool.false_eq_true] at hv
          have htk : numOf (d.data.toList.take d.size) = numOf d.data.toList := by rw [List.take_of_length_le (by simp)]
          rw [htk] at hlt ⊢
          have hpw : 10 ^ d.size ≤ 10 ^ 18 := Nat.pow_le_pow_right (by omega) (by omega)
          obtain ⟨N, hN⟩ : ∃ N, numOf d.data.toList = N := ⟨_, rfl⟩
          rw [hN] at hv hlt ⊢
          have hN18 : N < 1000000000000000000 := by omega
          clear hN hlt hpw htk
          have HV2 : Hid (NV = 1 * (N : Int)) := hv
          clear hv
          go_wp2_with fail
          go_ret2
          exact ⟨by rw [HV2.out]; simp, rfl⟩
end Go.Proofs.YtcbabajfdihcdaaGreatDoor

namespace Go.Proofs.YtcbabajfdihcdaaGreatDoor
open Go.ChangeShapes Go.WideShapes Go.ChangeAt Go.RowKit
set_option linter.unusedVariables false
set_option linter.unusedSimpArgs false

def uT : Nat → ByteArray
  | 0 => ⟨#[109, 115]⟩
  | 1 => ⟨#[115]⟩
  | 2 => ⟨#[109]⟩
  | _ => ⟨#[104]⟩
def mT : Nat → Nat
  | 0 => 1
  | 1 => 1000
  | 2 => 60000
  | _ => 3600000
def uL : Nat → List UInt8
  | 0 => [109, 115]
  | 1 => [115]
  | 2 => [109]
  | _ => [104]
/-- What a text is as a span of the i-th unit. -/
def spanAt (t : ByteArray) (i : Nat) : Option Int :=
  if decide ((uT i).size < t.size) && ((t.extract (t.size - (uT i).size) t.size).toList == uL i) then
    (if numB (t.extract 0 (t.size - (uT i).size)) && decide (0 ≤ numV (t.extract 0 (t.size - (uT i).size))) && decide (numV (t.extract 0 (t.size - (uT i).size)) ≤ ((999999999999999999 / mT i : Nat) : Int))
      then some (numV (t.extract 0 (t.size - (uT i).size)) * (mT i : Int)) else none)
  else none
def spanO (t : ByteArray) : Option Int := (List.range 4).findSome? (spanAt t)
def spanV (t : ByteArray) : Int := (spanO t).getD 0
def spanB (t : ByteArray) : Bool := (spanO t).isSome
theorem span_hit {t : ByteArray} {k : Nat} {v : Int} (hk : k < 4) (h : ∀ i, i < k → spanAt t i = none) (hv : spanAt t k = some v) : spanO t = some v := by
  unfold spanO
  rw [List.findSome?_eq_some_iff]
  refine ⟨List.range k, k, (List.range' (k + 1) (3 - k)), ?_, hv, fun x hx => h x (List.mem_range.1 hx)⟩
  have : k = 0 ∨ k = 1 ∨ k = 2 ∨ k = 3 := by omega
  rcases this with rfl | rfl | rfl | rfl <;> rfl
theorem span_miss {t : ByteArray} (h : ∀ i, i < 4 → spanAt t i = none) : spanO t = none := by
  unfold spanO
  rw [List.findSome?_eq_none_iff]
  exact fun x hx => h x (List.mem_range.1 hx)
theorem uT_size (i : Nat) : 1 ≤ (uT i).size ∧ (uT i).size ≤ 2 := by
  unfold uT; split <;> decide
theorem mT_size (i : Nat) : 1 ≤ mT i ∧ mT i ≤ 3600000 := by
  unfold mT; split <;> decide
set_option maxRecDepth 100000 in
set_option maxHeartbeats 2000000 in
theorem specSpan (t : ByteArray) (ht : t.size ≤ 1048576) (w : World) :
    Calls Tryz.prog 89 #[.string t] w fun e w' => e = .returned (.tuple #[.int .i64 (spanV t), .bool (spanB t)]) ∧ Below w.heap.size w w' := by
  have hts : (t.size : Int) ≤ 1048576 := by omega
  have hU : ∀ W0, W0 = ((w.alloc (.cells #[.string ⟨#[109, 115]⟩, .string ⟨#[115]⟩, .string ⟨#[109]⟩, .string ⟨#[104]⟩] 9)).alloc (.cells #[.int .i64 1, .int .i64 1000, .int .i64 60000, .int .i64 3600000] 3)) →
      Blk W0 w.heap.size 9 #[.string ⟨#[109, 115]⟩, .string ⟨#[115]⟩, .string ⟨#[109]⟩, .string ⟨#[104]⟩] ∧ Blk W0 (w.heap.size + 1) 3 #[.int .i64 1, .int .i64 1000, .int .i64 60000, .int .i64 3600000] ∧ Below w.heap.size w W0 := by
    rintro W0 rfl
    have h1 : Blk (w.alloc (.cells #[.string ⟨#[109, 115]⟩, .string ⟨#[115]⟩, .string ⟨#[109]⟩, .string ⟨#[104]⟩] 9)) w.heap.size 9 #[.string ⟨#[109, 115]⟩, .string ⟨#[115]⟩, .string ⟨#[109]⟩, .string ⟨#[104]⟩] := heap_alloc_last w _
    refine ⟨Blk.below h1 ((Below.refl _ _).alloc (Nat.le_refl _) _), ?_, ((Below.refl _ w).alloc (Nat.le_refl _) _).alloc (by simp) _⟩
    have h2 := heap_alloc_last (w.alloc (.cells #[.string ⟨#[109, 115]⟩, .string ⟨#[115]⟩, .string ⟨#[109]⟩, .string ⟨#[104]⟩] 9)) (.cells #[.int .i64 1, .int .i64 1000, .int .i64 60000, .int .i64 3600000] 3)
    rwa [World.size_alloc] at h2
  have cN := fun (p : ByteArray) (hp : p.size ≤ 1048576) (w : World) => specNumber p hp w
  have HCN : Hid (∀ (p : ByteArray) (hp : p.size ≤ 1048576) (w : World), Calls Tryz.prog 88 #[.string p] w fun e w' => e = .returned (.tuple #[.int .i64 (numV p), .bool (numB p)]) ∧ w' = w) := cN
  clear cN
  go_enter Tryz.func89, Tryz.ntmps89
  go_wp2_with fail
  obtain ⟨W0, hW0⟩ : ∃ W0, W0 = ((w.alloc (.cells #[.string ⟨#[109, 115]⟩, .string ⟨#[115]⟩, .string ⟨#[109]⟩, .string ⟨#[104]⟩] 9)).alloc (.cells #[.int .i64 1, .int .i64 1000, .int .i64 60000, .int .i64 3600000] 3)) := ⟨_, rfl⟩
  obtain ⟨k1, k2, k3⟩ := hU W0 hW0
  rw [← hW0]
  clear hU hW0
  obtain ⟨gU, hgU⟩ : ∃ gU, w.heap.size = gU := ⟨_, rfl⟩
  rw [hgU] at k1 k2 ⊢
  have K1 : Hid (Blk W0 gU 9 #[.string ⟨#[109, 115]⟩, .string ⟨#[115]⟩, .string ⟨#[109]⟩, .string ⟨#[104]⟩]) := k1
  have K2 : Hid (Blk W0 (gU + 1) 3 #[.int .i64 1, .int .i64 1000, .int .i64 60000, .int .i64 3600000]) := k2
  have K3 : Hid (Below w.heap.size w W0) := k3
  have HG : Hid (w.heap.size = gU) := hgU
  clear k1 k2 k3 hgU
  go_loopw [6] (fun i6 wr => ∃ k : Nat, i6 = .int .i64 (k : Int) ∧ k ≤ 4 ∧ (∀ i, i < k → spanAt t i = none) ∧ Below W0.heap.size W0 wr) (fun i6 _ => 4 - (intOf i6).toNat)
  case atStart => exact ⟨0, rfl, by omega, fun i hi => by omega, Below.refl _ _⟩
  case round =>
    obtain ⟨k, rfl, hk, hno, hb⟩ := hrel
    have HNO : Hid (∀ i, i < k → spanAt t i = none) := hno
    have HB : Hid (Below W0.heap.size W0 wr) := hb
    clear hno
    by_cases hkn : k < 4
    · have hst : spanAt t k = none → ∀ i, i < k + 1 → spanAt t i = none := fun h0 i hi => by
        by_cases e : i = k
        · subst e; exact h0
        · exact HNO.out i (by omega)
      have hhi := fun v hv => span_hit (v := v) hkn HNO.out hv
      have HST : Hid (spanAt t k = none → ∀ i, i < k + 1 → spanAt t i = none) := hst
      have HHI : Hid (∀ v, spanAt t k = some v → spanO t = some v) := hhi
      clear hst hhi hb
      have q1 := Blk.below K1.out HB.out
      have q2 := Blk.below K2.out HB.out
      have hsa : spanAt t k = if decide ((uT k).size < t.size) && ((t.extract (t.size - (uT k).size) t.size).toList == uL k) then (if numB (t.extract 0 (t.size - (uT k).size)) && decide (0 ≤ numV (t.extract 0 (t.size - (uT k).size))) && decide (numV (t.extract 0 (t.size - (uT k).size)) ≤ ((999999999999999999 / mT k : Nat) : Int)) then some (numV (t.extract 0 (t.size - (uT k).size)) * (mT k : Int)) else none) else none := rfl
      have e4 : k = 0 ∨ k = 1 ∨ k = 2 ∨ k = 3 := by omega
      rcases e4 with rfl | rfl | rfl | rfl
      · have c1 := q1.cell 0
        have c2 := q2.cell 0
        simp at c1 c2
        have hsz : (⟨#[109, 115]⟩ : ByteArray).size = 2 := rfl
        simp only [show uT 0 = ⟨#[109, 115]⟩ from rfl, show uL 0 = [109, 115] from rfl, show mT 0 = 1 from rfl, hsz] at hsa
        have HSA : Hid (spanAt t 0 = if decide (2 < t.size) && ((t.extract (t.size - 2) t.size).toList == ([109, 115] : List UInt8)) then (if numB (t.extract 0 (t.size - 2)) && decide (0 ≤ numV (t.extract 0 (t.size - 2))) && decide (numV (t.extract 0 (t.size - 2)) ≤ ((999999999999999999 / 1 : Nat) : Int)) then some (numV (t.extract 0 (t.size - 2)) * ((1 : Nat) : Int)) else none) else none) := hsa
        clear hsa q1 q2
        by_cases hlt : 2 < t.size
        case neg =>
          have hle : (t.size : Int) - 2 ≤ 0 := by omega
          have hn := HSA.out
          rw [decide_eq_false hlt] at hn
          simp only [Bool.false_and, Bool.false_eq_true, ↓reduceIte] at hn
          have HN : Hid (spanAt t 0 = none) := hn
          clear hn
          go_upto_region 7 with fail
          go_quiet (fail)
          go_wp2_with fail
          exact ⟨⟨0 + 1, by go_num, by omega, HST.out HN.out, bel_drewN HB.out nq⟩, by simp [intOf]⟩
        obtain ⟨kk, hkk⟩ : ∃ kk, t.size - 2 = kk := ⟨_, rfl⟩
        have ek : (t.size : Int) - 2 = (kk : Int) := by omega
        have hkp : ¬ (kk = 0) := by omega
        have hkt : (kk : Int) ≤ (t.size : Int) := by omega
        have hkt' : kk ≤ t.size := by omega
        have hsa2 := HSA.out
        rw [hkk, decide_eq_true hlt] at hsa2
        simp only [Bool.true_and] at hsa2
        have HS2 : Hid (spanAt t 0 = if ((t.extract kk t.size).toList == ([109, 115] : List UInt8)) = true then (if (numB (t.extract 0 kk) && decide (0 ≤ numV (t.extract 0 kk)) && decide (numV (t.extract 0 kk) ≤ ((999999999999999999 / 1 : Nat) : Int))) = true then some (numV (t.extract 0 kk) * ((1 : Nat) : Int)) else none) else none) := hsa2
        clear hsa2 HSA hkk
        cases hq : ((t.extract kk t.size).toList == ([109, 115] : List UInt8))
        case false =>
          have hn := HS2.out
          rw [hq, if_neg (by simp)] at hn
          have HN : Hid (spanAt t 0 = none) := hn
          clear hn
          go_upto_region 7 with fail
          go_quiet (fail)
          go_wp2_with fail
          exact ⟨⟨0 + 1, by go_num, by omega, HST.out HN.out, bel_drewN HB.out nq⟩, by simp [intOf]⟩
        have hs3 := HS2.out
        rw [hq, if_pos rfl] at hs3
        have cn := fun w => HCN.out (t.extract 0 kk) (by rw [ByteArray.size_extract]; omega) w
        obtain ⟨NV, hNV⟩ : ∃ NV, numV (t.extract 0 kk) = NV := ⟨_, rfl⟩
        obtain ⟨NB, hNB⟩ : ∃ NB, numB (t.extract 0 kk) = NB := ⟨_, rfl⟩
        rw [hNV, hNB] at hs3 cn
        have HS3 : Hid (spanAt t 0 = if (NB && decide (0 ≤ NV) && decide (NV ≤ ((999999999999999999 / 1 : Nat) : Int))) = true then some (NV * ((1 : Nat) : Int)) else none) := hs3
        clear hs3 hNV hNB HS2
        go_upto_region 7 with fail
        go_quiet (fail)
        cases NB
        case false =>
          have hn := HS3.out
          rw [Bool.false_and, Bool.false_and, if_neg (by simp)] at hn
          have HN : Hid (spanAt t 0 = none) := hn
          clear hn
          go_wp2_with (go_at_call 88; go_must (refine (cn _).mono ?_; rintro e w2 ⟨rfl, rfl⟩))
          exact ⟨⟨0 + 1, by go_num, by omega, HST.out HN.out, bel_drewN HB.out nq⟩, by simp [intOf]⟩
        by_cases hv0 : 0 ≤ NV
        case neg =>
          have hn := HS3.out
          rw [decide_eq_false hv0, Bool.and_false, Bool.false_and, if_neg (by simp)] at hn
          have HN : Hid (spanAt t 0 = none) := hn
          clear hn
          go_wp2_with (go_at_call 88; go_must (refine (cn _).mono ?_; rintro e w2 ⟨rfl, rfl⟩))
          exact ⟨⟨0 + 1, by go_num, by omega, HST.out HN.out, bel_drewN HB.out nq⟩, by simp [intOf]⟩
        have hq2 : ((999999999999999999 / 1 : Nat) : Int) = 999999999999999999 := rfl
        by_cases hv1 : NV ≤ 999999999999999999
        case neg =>
          have hn := HS3.out
          rw [hq2, decide_eq_false hv1, Bool.and_false, if_neg (by simp)] at hn
          have HN : Hid (spanAt t 0 = none) := hn
          clear hn hq2
          go_wp2_with (go_at_call 88; go_must (refine (cn _).mono ?_; rintro e w2 ⟨rfl, rfl⟩))
          exact ⟨⟨0 + 1, by go_num, by omega, HST.out HN.out, bel_drewN HB.out nq⟩, by simp [intOf]⟩
        have hn := HS3.out
        rw [hq2, decide_eq_true hv1, decide_eq_true hv0] at hn
        simp only [Bool.and_self, ↓reduceIte] at hn
        have hh := HHI.out _ hn
        have HH : Hid (spanO t = some (NV * ((1 : Nat) : Int))) := hh
        clear hn hq2 hh
        go_wp2_with (go_at_call 88; go_must (refine (cn _).mono ?_; rintro e w2 ⟨rfl, rfl⟩))
        go_ret2
        exact ⟨by unfold spanV spanB; rw [HH.out]; simp, good_below K3.out (bel_drewN HB.out nq)⟩
      · have c1 := q1.cell 1
        have c2 := q2.cell 1
        simp at c1 c2
        have hsz : (⟨#[115]⟩ : ByteArray).size = 1 := rfl
        simp only [show uT 1 = ⟨#[115]⟩ from rfl, show uL 1 = [115] from rfl, show mT 1 = 1000 from rfl, hsz] at hsa
        have HSA : Hid (spanAt t 1 = if decide (1 < t.size) && ((t.extract (t.size - 1) t.size).toList == ([115] : List UInt8)) then (if numB (t.extract 0 (t.size - 1)) && decide (0 ≤ numV (t.extract 0 (t.size - 1))) && decide (numV (t.extract 0 (t.size - 1)) ≤ ((999999999999999999 / 1000 : Nat) : Int)) then some (numV (t.extract 0 (t.size - 1)) * ((1000 : Nat) : Int)) else none) else none) := hsa
        clear hsa q1 q2
        by_cases hlt : 1 < t.size
        case neg =>
          have hle : (t.size : Int) - 1 ≤ 0 := by omega
          have hn := HSA.out
          rw [decide_eq_false hlt] at hn
          simp only [Bool.false_and, Bool.false_eq_true, ↓reduceIte] at hn
          have HN : Hid (spanAt t 1 = none) := hn
          clear hn
          go_upto_region 7 with fail
          go_quiet (fail)
          go_wp2_with fail
          exact ⟨⟨1 + 1, by go_num, by omega, HST.out HN.out, bel_drewN HB.out nq⟩, by simp [intOf]⟩
        obtain ⟨kk, hkk⟩ : ∃ kk, t.size - 1 = kk := ⟨_, rfl⟩
        have ek : (t.size : Int) - 1 = (kk : Int) := by omega
        have hkp : ¬ (kk = 0) := by omega
        have hkt : (kk : Int) ≤ (t.size : Int) := by omega
        have hkt' : kk ≤ t.size := by omega
        have hsa2 := HSA.out
        rw [hkk, decide_eq_true hlt] at hsa2
        simp only [Bool.true_and] at hsa2
        have HS2 : Hid (spanAt t 1 = if ((t.extract kk t.size).toList == ([115] : List UInt8)) = true then (if (numB (t.extract 0 kk) && decide (0 ≤ numV (t.extract 0 kk)) && decide (numV (t.extract 0 kk) ≤ ((999999999999999999 / 1000 : Nat) : Int))) = true then some (numV (t.extract 0 kk) * ((1000 : Nat) : Int)) else none) else none) := hsa2
        clear hsa2 HSA hkk
        cases hq : ((t.extract kk t.size).toList == ([115] : List UInt8))
        case false =>
          have hn := HS2.out
          rw [hq, if_neg (by simp)] at hn
          have HN : Hid (spanAt t 1 = none) := hn
          clear hn
          go_upto_region 7 with fail
          go_quiet (fail)
          go_wp2_with fail
          exact ⟨⟨1 + 1, by go_num, by omega, HST.out HN.out, bel_drewN HB.out nq⟩, by simp [intOf]⟩
        have hs3 := HS2.out
        rw [hq, if_pos rfl] at hs3
        have cn := fun w => HCN.out (t.extract 0 kk) (by rw [ByteArray.size_extract]; omega) w
        obtain ⟨NV, hNV⟩ : ∃ NV, numV (t.extract 0 kk) = NV := ⟨_, rfl⟩
        obtain ⟨NB, hNB⟩ : ∃ NB, numB (t.extract 0 kk) = NB := ⟨_, rfl⟩
        rw [hNV, hNB] at hs3 cn
        have HS3 : Hid (spanAt t 1 = if (NB && decide (0 ≤ NV) && decide (NV ≤ ((999999999999999999 / 1000 : Nat) : Int))) = true then some (NV * ((1000 : Nat) : Int)) else none) := hs3
        clear hs3 hNV hNB HS2
        go_upto_region 7 with fail
        go_quiet (fail)
        cases NB
        case false =>
          have hn := HS3.out
          rw [Bool.false_and, Bool.false_and, if_neg (by simp)] at hn
          have HN : Hid (spanAt t 1 = none) := hn
          clear hn
          go_wp2_with (go_at_call 88; go_must (refine (cn _).mono ?_; rintro e w2 ⟨rfl, rfl⟩))
          exact ⟨⟨1 + 1, by go_num, by omega, HST.out HN.out, bel_drewN HB.out nq⟩, by simp [intOf]⟩
        by_cases hv0 : 0 ≤ NV
        case neg =>
          have hn := HS3.out
          rw [decide_eq_false hv0, Bool.and_false, Bool.false_and, if_neg (by simp)] at hn
          have HN : Hid (spanAt t 1 = none) := hn
          clear hn
          go_wp2_with (go_at_call 88; go_must (refine (cn _).mono ?_; rintro e w2 ⟨rfl, rfl⟩))
          exact ⟨⟨1 + 1, by go_num, by omega, HST.out HN.out, bel_drewN HB.out nq⟩, by simp [intOf]⟩
        have hq2 : ((999999999999999999 / 1000 : Nat) : Int) = 999999999999999 := rfl
        by_cases hv1 : NV ≤ 999999999999999
        case neg =>
          have hn := HS3.out
          rw [hq2, decide_eq_false hv1, Bool.and_false, if_neg (by simp)] at hn
          have HN : Hid (spanAt t 1 = none) := hn
          clear hn hq2
          go_wp2_with (go_at_call 88; go_must (refine (cn _).mono ?_; rintro e w2 ⟨rfl, rfl⟩))
          exact ⟨⟨1 + 1, by go_num, by omega, HST.out HN.out, bel_drewN HB.out nq⟩, by simp [intOf]⟩
        have hn := HS3.out
        rw [hq2, decide_eq_true hv1, decide_eq_true hv0] at hn
        simp only [Bool.and_self, ↓reduceIte] at hn
        have hh := HHI.out _ hn
        have HH : Hid (spanO t = some (NV * ((1000 : Nat) : Int))) := hh
        clear hn hq2 hh
        go_wp2_with (go_at_call 88; go_must (refine (cn _).mono ?_; rintro e w2 ⟨rfl, rfl⟩))
        go_ret2
        exact ⟨by unfold spanV spanB; rw [HH.out]; simp, good_below K3.out (bel_drewN HB.out nq)⟩
      · have c1 := q1.cell 2
        have c2 := q2.cell 2
        simp at c1 c2
        have hsz : (⟨#[109]⟩ : ByteArray).size = 1 := rfl
        simp only [show uT 2 = ⟨#[109]⟩ from rfl, show uL 2 = [109] from rfl, show mT 2 = 60000 from rfl, hsz] at hsa
        have HSA : Hid (spanAt t 2 = if decide (1 < t.size) && ((t.extract (t.size - 1) t.size).toList == ([109] : List UInt8)) then (if numB (t.extract 0 (t.size - 1)) && decide (0 ≤ numV (t.extract 0 (t.size - 1))) && decide (numV (t.extract 0 (t.size - 1)) ≤ ((999999999999999999 / 60000 : Nat) : Int)) then some (numV (t.extract 0 (t.size - 1)) * ((60000 : Nat) : Int)) else none) else none) := hsa
        clear hsa q1 q2
        by_cases hlt : 1 < t.size
        case neg =>
          have hle : (t.size : Int) - 1 ≤ 0 := by omega
          have hn := HSA.out
          rw [decide_eq_false hlt] at hn
          simp only [Bool.false_and, Bool.false_eq_true, ↓reduceIte] at hn
          have HN : Hid (spanAt t 2 = none) := hn
          clear hn
          go_upto_region 7 with fail
          go_quiet (fail)
          go_wp2_with fail
          exact ⟨⟨2 + 1, by go_num, by omega, HST.out HN.out, bel_drewN HB.out nq⟩, by simp [intOf]⟩
        obtain ⟨kk, hkk⟩ : ∃ kk, t.size - 1 = kk := ⟨_, rfl⟩
        have ek : (t.size : Int) - 1 = (kk : Int) := by omega
        have hkp : ¬ (kk = 0) := by omega
        have hkt : (kk : Int) ≤ (t.size : Int) := by omega
        have hkt' : kk ≤ t.size := by omega
        have hsa2 := HSA.out
        rw [hkk, decide_eq_true hlt] at hsa2
        simp only [Bool.true_and] at hsa2
        have HS2 : Hid (spanAt t 2 = if ((t.extract kk t.size).toList == ([109] : List UInt8)) = true then (if (numB (t.extract 0 kk) && decide (0 ≤ numV (t.extract 0 kk)) && decide (numV (t.extract 0 kk) ≤ ((999999999999999999 / 60000 : Nat) : Int))) = true then some (numV (t.extract 0 kk) * ((60000 : Nat) : Int)) else none) else none) := hsa2
        clear hsa2 HSA hkk
        cases hq : ((t.extract kk t.size).toList == ([109] : List UInt8))
        case false =>
          have hn := HS2.out
          rw [hq, if_neg (by simp)] at hn
          have HN : Hid (spanAt t 2 = none) := hn
          clear hn
          go_upto_region 7 with fail
          go_quiet (fail)
          go_wp2_with fail
          exact ⟨⟨2 + 1, by go_num, by omega, HST.out HN.out, bel_drewN HB.out nq⟩, by simp [intOf]⟩
        have hs3 := HS2.out
        rw [hq, if_pos rfl] at hs3
        have cn := fun w => HCN.out (t.extract 0 kk) (by rw [ByteArray.size_extract]; omega) w
        obtain ⟨NV, hNV⟩ : ∃ NV, numV (t.extract 0 kk) = NV := ⟨_, rfl⟩
        obtain ⟨NB, hNB⟩ : ∃ NB, numB (t.extract 0 kk) = NB := ⟨_, rfl⟩
        rw [hNV, hNB] at hs3 cn
        have HS3 : Hid (spanAt t 2 = if (NB && decide (0 ≤ NV) && decide (NV ≤ ((999999999999999999 / 60000 : Nat) : Int))) = true then some (NV * ((60000 : Nat) : Int)) else none) := hs3
        clear hs3 hNV hNB HS2
        go_upto_region 7 with fail
        go_quiet (fail)
        cases NB
        case false =>
          have hn := HS3.out
          rw [Bool.false_and, Bool.false_and, if_neg (by simp)] at hn
          have HN : Hid (spanAt t 2 = none) := hn
          clear hn
          go_wp2_with (go_at_call 88; go_must (refine (cn _).mono ?_; rintro e w2 ⟨rfl, rfl⟩))
          exact ⟨⟨2 + 1, by go_num, by omega, HST.out HN.out, bel_drewN HB.out nq⟩, by simp [intOf]⟩
        by_cases hv0 : 0 ≤ NV
        case neg =>
          have hn := HS3.out
          rw [decide_eq_false hv0, Bool.and_false, Bool.false_and, if_neg (by simp)] at hn
          have HN : Hid (spanAt t 2 = none) := hn
          clear hn
          go_wp2_with (go_at_call 88; go_must (refine (cn _).mono ?_; rintro e w2 ⟨rfl, rfl⟩))
          exact ⟨⟨2 + 1, by go_num, by omega, HST.out HN.out, bel_drewN HB.out nq⟩, by simp [intOf]⟩
        have hq2 : ((999999999999999999 / 60000 : Nat) : Int) = 16666666666666 := rfl
        by_cases hv1 : NV ≤ 16666666666666
        case neg =>
          have hn := HS3.out
          rw [hq2, decide_eq_false hv1, Bool.and_false, if_neg (by simp)] at hn
          have HN : Hid (spanAt t 2 = none) := hn
          clear hn hq2
          go_wp2_with (go_at_call 88; go_must (refine (cn _).mono ?_; rintro e w2 ⟨rfl, rfl⟩))
          exact ⟨⟨2 + 1, by go_num, by omega, HST.out HN.out, bel_drewN HB.out nq⟩, by simp [intOf]⟩
        have hn := HS3.out
        rw [hq2, decide_eq_true hv1, decide_eq_true hv0] at hn
        simp only [Bool.and_self, ↓reduceIte] at hn
        have hh := HHI.out _ hn
        have HH : Hid (spanO t = some (NV * ((60000 : Nat) : Int))) := hh
        clear hn hq2 hh
        go_wp2_with (go_at_call 88; go_must (refine (cn _).mono ?_; rintro e w2 ⟨rfl, rfl⟩))
        go_ret2
        exact ⟨by unfold spanV spanB; rw [HH.out]; simp, good_below K3.out (bel_drewN HB.out nq)⟩
      · have c1 := q1.cell 3
        have c2 := q2.cell 3
        simp at c1 c2
        have hsz : (⟨#[104]⟩ : ByteArray).size = 1 := rfl
        simp only [show uT 3 = ⟨#[104]⟩ from rfl, show uL 3 = [104] from rfl, show mT 3 = 3600000 from rfl, hsz] at hsa
        have HSA : Hid (spanAt t 3 = if decide (1 < t.size) && ((t.extract (t.size - 1) t.size).toList == ([104] : List UInt8)) then (if numB (t.extract 0 (t.size - 1)) && decide (0 ≤ numV (t.extract 0 (t.size - 1))) && decide (numV (t.extract 0 (t.size - 1)) ≤ ((999999999999999999 / 3600000 : Nat) : Int)) then some (numV (t.extract 0 (t.size - 1)) * ((3600000 : Nat) : Int)) else none) else none) := hsa
        clear hsa q1 q2
        by_cases hlt : 1 < t.size
        case neg =>
          have hle : (t.size : Int) - 1 ≤ 0 := by omega
          have hn := HSA.out
          rw [decide_eq_false hlt] at hn
          simp only [Bool.false_and, Bool.false_eq_true, ↓reduceIte] at hn
          have HN : Hid (spanAt t 3 = none) := hn
          clear hn
          go_upto_region 7 with fail
          go_quiet (fail)
          go_wp2_with fail
          exact ⟨⟨3 + 1, by go_num, by omega, HST.out HN.out, bel_drewN HB.out nq⟩, by simp [intOf]⟩
        obtain ⟨kk, hkk⟩ : ∃ kk, t.size - 1 = kk := ⟨_, rfl⟩
        have ek : (t.size : Int) - 1 = (kk : Int) := by omega
        have hkp : ¬ (kk = 0) := by omega
        have hkt : (kk : Int) ≤ (t.size : Int) := by omega
        have hkt' : kk ≤ t.size := by omega
        have hsa2 := HSA.out
        rw [hkk, decide_eq_true hlt] at hsa2
        simp only [Bool.true_and] at hsa2
        have HS2 : Hid (spanAt t 3 = if ((t.extract kk t.size).toList == ([104] : List UInt8)) = true then (if (numB (t.extract 0 kk) && decide (0 ≤ numV (t.extract 0 kk)) && decide (numV (t.extract 0 kk) ≤ ((999999999999999999 / 3600000 : Nat) : Int))) = true then some (numV (t.extract 0 kk) * ((3600000 : Nat) : Int)) else none) else none) := hsa2
        clear hsa2 HSA hkk
        cases hq : ((t.extract kk t.size).toList == ([104] : List UInt8))
        case false =>
          have hn := HS2.out
          rw [hq, if_neg (by simp)] at hn
          have HN : Hid (spanAt t 3 = none) := hn
          clear hn
          go_upto_region 7 with fail
          go_quiet (fail)
          go_wp2_with fail
          exact ⟨⟨3 + 1, by go_num, by omega, HST.out HN.out, bel_drewN HB.out nq⟩, by simp [intOf]⟩
        have hs3 := HS2.out
        rw [hq, if_pos rfl] at hs3
        have cn := fun w => HCN.out (t.extract 0 kk) (by rw [ByteArray.size_extract]; omega) w
        obtain ⟨NV, hNV⟩ : ∃ NV, numV (t.extract 0 kk) = NV := ⟨_, rfl⟩
        obtain ⟨NB, hNB⟩ : ∃ NB, numB (t.extract 0 kk) = NB := ⟨_, rfl⟩
        rw [hNV, hNB] at hs3 cn
        have HS3 : Hid (spanAt t 3 = if (NB && decide (0 ≤ NV) && decide (NV ≤ ((999999999999999999 / 3600000 : Nat) : Int))) = true then some (NV * ((3600000 : Nat) : Int)) else none) := hs3
        clear hs3 hNV hNB HS2
        go_upto_region 7 with fail
        go_quiet (fail)
        cases NB
        case false =>
          have hn := HS3.out
          rw [Bool.false_and, Bool.false_and, if_neg (by simp)] at hn
          have HN : Hid (spanAt t 3 = none) := hn
          clear hn
          go_wp2_with (go_at_call 88; go_must (refine (cn _).mono ?_; rintro e w2 ⟨rfl, rfl⟩))
          exact ⟨⟨3 + 1, by go_num, by omega, HST.out HN.out, bel_drewN HB.out nq⟩, by simp [intOf]⟩
        by_cases hv0 : 0 ≤ NV
        case neg =>
          have hn := HS3.out
          rw [decide_eq_false hv0, Bool.and_false, Bool.false_and, if_neg (by simp)] at hn
          have HN : Hid (spanAt t 3 = none) := hn
          clear hn
          go_wp2_with (go_at_call 88; go_must (refine (cn _).mono ?_; rintro e w2 ⟨rfl, rfl⟩))
          exact ⟨⟨3 + 1, by go_num, by omega, HST.out HN.out, bel_drewN HB.out nq⟩, by simp [intOf]⟩
        have hq2 : ((999999999999999999 / 3600000 : Nat) : Int) = 277777777777 := rfl
        by_cases hv1 : NV ≤ 277777777777
        case neg =>
          have hn := HS3.out
          rw [hq2, decide_eq_false hv1, Bool.and_false, if_neg (by simp)] at hn
          have HN : Hid (spanAt t 3 = none) := hn
          clear hn hq2
          go_wp2_with (go_at_call 88; go_must (refine (cn _).mono ?_; rintro e w2 ⟨rfl, rfl⟩))
          exact ⟨⟨3 + 1, by go_num, by omega, HST.out HN.out, bel_drewN HB.out nq⟩, by simp [intOf]⟩
        have hn := HS3.out
        rw [hq2, decide_eq_true hv1, decide_eq_true hv0] at hn
        simp only [Bool.and_self, ↓reduceIte] at hn
        have hh := HHI.out _ hn
        have HH : Hid (spanO t = some (NV * ((3600000 : Nat) : Int))) := hh
        clear hn hq2 hh
        go_wp2_with (go_at_call 88; go_must (refine (cn _).mono ?_; rintro e w2 ⟨rfl, rfl⟩))
        go_ret2
        exact ⟨by unfold spanV spanB; rw [HH.out]; simp, good_below K3.out (bel_drewN HB.out nq)⟩
    · obtain rfl : k = 4 := by omega
      have hm := span_miss HNO.out
      go_wp2_with fail
      go_ret2
      exact ⟨by unfold spanV spanB; rw [hm]; rfl, good_below K3.out HB.out⟩
end Go.Proofs.YtcbabajfdihcdaaGreatDoor
