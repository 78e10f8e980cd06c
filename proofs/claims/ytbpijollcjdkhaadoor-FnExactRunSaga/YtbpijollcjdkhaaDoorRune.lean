/-
  The contract of spec.l01Rune: at every place of a text of at most 65536 bytes it answers as the model's own decoder of UTF-8. No statement of the seat is proved here.
-/
import Derived.Test.YtbpijollcjdkhaaDoorDec
import Derived.Test.YtbpijollcjdkhaaDoorTail
namespace Go.Proofs.YtbpijollcjdkhaaDoor
open Go.ChangeShapes Go.WideShapes Go.ChangeAt Go.RowKit
set_option linter.unusedVariables false

theorem decode_byt (s : ByteArray) (i : Nat) : Utf8.decode s i = Lib.decodeN (s.size - i) (byt s i) (byt s (i + 1)) (byt s (i + 2)) (byt s (i + 3)) := Lib.decode_at s i
theorem get_byt (s : ByteArray) (i : Nat) (h : i < s.size) (x : UInt8) (hx : s.get! i = x) : s[i]'h = x := by
  rw [← hx]; exact (Utf8W.get!_of_lt s i h).symm

set_option maxRecDepth 100000 in
set_option maxHeartbeats 400000 in
/-- a first byte below 128 -/
theorem rune0 (s : ByteArray) (i : Nat) (hs : s.size ≤ 65536) (hi : i < s.size) (h : byt s i < 128) (w : World) :
    Calls Tryd.prog 74 #[.string s, .int .i64 i] w fun e w' => e = .returned (.tuple #[.int .i64 (Utf8.decode s i).1, .int .i64 (Utf8.decode s i).2]) ∧ Below w.heap.size w w' := by
  have hd : Utf8.decode s i = (byt s i, 1) := by rw [decode_byt]; unfold Lib.decodeN; rw [if_pos h]
  rw [hd]
  have hb := byt_eq s i hi
  have h' : ((byt s i : Nat) : Int) < 128 := by omega
  obtain ⟨b, hbb⟩ : ∃ b, byt s i = b := ⟨_, rfl⟩
  rw [hbb] at hb h' ⊢
  clear hbb hd h
  go_enter Tryd.func74, Tryd.ntmps74
  go_wp2
  go_ret2
  exact ⟨rfl, Below.refl _ _⟩

set_option maxRecDepth 100000 in
set_option maxHeartbeats 400000 in
/-- a first byte that begins no encoding -/
theorem runeNone (s : ByteArray) (i : Nat) (hs : s.size ≤ 65536) (hi : i < s.size) (h : (128 ≤ byt s i ∧ byt s i < 194) ∨ 245 ≤ byt s i) (w : World) :
    Calls Tryd.prog 74 #[.string s, .int .i64 i] w fun e w' => e = .returned (.tuple #[.int .i64 (Utf8.decode s i).1, .int .i64 (Utf8.decode s i).2]) ∧ Below w.heap.size w w' := by
  have hd : Utf8.decode s i = (65533, 1) := by rw [decode_byt]; exact dec_none h (byt_lt _ _) (byt_lt _ _) (byt_lt _ _) (byt_lt _ _)
  rw [hd]
  have hb := byt_eq s i hi
  obtain ⟨b, hbb⟩ : ∃ b, byt s i = b := ⟨_, rfl⟩
  have hlt : b < 256 := by rw [← hbb]; exact byt_lt s i
  rw [hbb] at hb h
  clear hbb hd
  rcases h with ⟨h1, h2⟩ | h1
  · have h1' : ¬ ((b : Int) < 128) := by omega
    have h2' : ¬ ((194 : Int) ≤ (b : Int)) := by omega
    go_enter Tryd.func74, Tryd.ntmps74
    go_wp2
    go_ret2
    exact ⟨rfl, Below.refl _ _⟩
  · have h1' : (245 : Int) ≤ (b : Int) := by omega
    have h2' : (b : Int) < 256 := by omega
    go_enter Tryd.func74, Tryd.ntmps74
    go_wp2
    go_ret2
    exact ⟨rfl, Below.refl _ _⟩

set_option maxRecDepth 100000 in
set_option maxHeartbeats 1000000 in
/-- an encoding of two bytes -/
theorem core1 (s : ByteArray) (i b c : Nat) (hs : s.size ≤ 65536) (hi : i < s.size) (hi1 : i + 1 < s.size) (hb : s[i].toNat = b) (hc1 : s[i + 1].toNat = c)
    (h1 : (194 : Int) ≤ (b : Int)) (h2 : (b : Int) ≤ 223) (h3 : (128 : Int) ≤ (c : Int)) (h4 : (c : Int) ≤ 191)
    (ct : ∀ w, Calls Tryd.prog 92 #[.string s, .int .i64 ((i + 1 : Nat) : Int), .int .i64 ((1 : Nat) : Int)] w fun e w' => e = .returned (.bool true) ∧ w = w') (w : World) :
    Calls Tryd.prog 74 #[.string s, .int .i64 i] w fun e w' => e = .returned (.tuple #[.int .i64 (((b : Int) - 192) * 64 + (c : Int) - 128), .int .i64 2]) ∧ Below w.heap.size w w' := by
  go_enter Tryd.func74, Tryd.ntmps74
  go_wp2_with (go_at_call 92; go_must (refine (ct _).mono ?_; rintro e w' ⟨rfl, rfl⟩))
  clear ct
  refine wp_loop_rounds 2 ?_
  rw [rounds_succ]
  go_wp2
  rw [rounds_succ]
  go_wp2
  go_ret2
  exact ⟨rfl, by exact (Below.refl _ w).alloc (Nat.le_refl _) _⟩

set_option maxRecDepth 100000 in
set_option maxHeartbeats 2000000 in
/-- an encoding of 3 bytes -/
theorem core2 (s : ByteArray) (i b c d : Nat) (hs : s.size ≤ 65536) (hi : i < s.size) (hi1 : i + 1 < s.size) (hi2 : i + 2 < s.size) (hb : s[i].toNat = b) (hx1 : s[i + 1].toNat = c) (hx2 : s[i + 2].toNat = d)
    (hb1 : (224 : Int) ≤ (b : Int)) (hb2 : (b : Int) ≤ 239) (hl1 : (128 : Int) ≤ (c : Int)) (hu1 : (c : Int) ≤ 191) (hl2 : (128 : Int) ≤ (d : Int)) (hu2 : (d : Int) ≤ 191)
    (ct : ∀ w, Calls Tryd.prog 92 #[.string s, .int .i64 ((i + 1 : Nat) : Int), .int .i64 ((2 : Nat) : Int)] w fun e w' => e = .returned (.bool true) ∧ w = w') (w : World) :
    Calls Tryd.prog 74 #[.string s, .int .i64 i] w fun e w' => (∃ R K : Int, e = .returned (.tuple #[.int .i64 R, .int .i64 K]) ∧ (((((((b : Int) - 224) * 64 + (c : Int) - 128) * 64 + (d : Int) - 128) < 2048 ∨ (55296 ≤ ((((b : Int) - 224) * 64 + (c : Int) - 128) * 64 + (d : Int) - 128) ∧ ((((b : Int) - 224) * 64 + (c : Int) - 128) * 64 + (d : Int) - 128) ≤ 57343)) ∧ R = 65533 ∧ K = 1) ∨ (¬ (((((b : Int) - 224) * 64 + (c : Int) - 128) * 64 + (d : Int) - 128) < 2048 ∨ (55296 ≤ ((((b : Int) - 224) * 64 + (c : Int) - 128) * 64 + (d : Int) - 128) ∧ ((((b : Int) - 224) * 64 + (c : Int) - 128) * 64 + (d : Int) - 128) ≤ 57343)) ∧ R = ((((b : Int) - 224) * 64 + (c : Int) - 128) * 64 + (d : Int) - 128) ∧ K = 3))) ∧ Below w.heap.size w w' := by
  go_enter Tryd.func74, Tryd.ntmps74
  go_wp2_with (go_at_call 92; go_must (refine (ct _).mono ?_; rintro e w' ⟨rfl, rfl⟩))
  clear ct
  refine wp_loop_rounds 3 ?_
  rw [rounds_succ]
  go_wp2
  rw [rounds_succ]
  go_wp2
  rw [rounds_succ]
  go_wp2
  all_goals
    go_ret2
    first
    | exact ⟨rfl, (Below.refl _ w).alloc (Nat.le_refl _) _⟩
    | (refine ⟨⟨_, _, rfl, ?_⟩, (Below.refl _ w).alloc (Nat.le_refl _) _⟩
       omega)

set_option maxRecDepth 100000 in
set_option maxHeartbeats 2000000 in
/-- an encoding of 4 bytes -/
theorem core3 (s : ByteArray) (i b c d f : Nat) (hs : s.size ≤ 65536) (hi : i < s.size) (hi1 : i + 1 < s.size) (hi2 : i + 2 < s.size) (hi3 : i + 3 < s.size) (hb : s[i].toNat = b) (hx1 : s[i + 1].toNat = c) (hx2 : s[i + 2].toNat = d) (hx3 : s[i + 3].toNat = f)
    (hb1 : (240 : Int) ≤ (b : Int)) (hb2 : (b : Int) ≤ 244) (hl1 : (128 : Int) ≤ (c : Int)) (hu1 : (c : Int) ≤ 191) (hl2 : (128 : Int) ≤ (d : Int)) (hu2 : (d : Int) ≤ 191) (hl3 : (128 : Int) ≤ (f : Int)) (hu3 : (f : Int) ≤ 191)
    (ct : ∀ w, Calls Tryd.prog 92 #[.string s, .int .i64 ((i + 1 : Nat) : Int), .int .i64 ((3 : Nat) : Int)] w fun e w' => e = .returned (.bool true) ∧ w = w') (w : World) :
    Calls Tryd.prog 74 #[.string s, .int .i64 i] w fun e w' => (∃ R K : Int, e = .returned (.tuple #[.int .i64 R, .int .i64 K]) ∧ ((((((((b : Int) - 240) * 64 + (c : Int) - 128) * 64 + (d : Int) - 128) * 64 + (f : Int) - 128) < 65536 ∨ 1114111 < (((((b : Int) - 240) * 64 + (c : Int) - 128) * 64 + (d : Int) - 128) * 64 + (f : Int) - 128)) ∧ R = 65533 ∧ K = 1) ∨ (¬ ((((((b : Int) - 240) * 64 + (c : Int) - 128) * 64 + (d : Int) - 128) * 64 + (f : Int) - 128) < 65536 ∨ 1114111 < (((((b : Int) - 240) * 64 + (c : Int) - 128) * 64 + (d : Int) - 128) * 64 + (f : Int) - 128)) ∧ R = (((((b : Int) - 240) * 64 + (c : Int) - 128) * 64 + (d : Int) - 128) * 64 + (f : Int) - 128) ∧ K = 4))) ∧ Below w.heap.size w w' := by
  go_enter Tryd.func74, Tryd.ntmps74
  go_wp2_with (go_at_call 92; go_must (refine (ct _).mono ?_; rintro e w' ⟨rfl, rfl⟩))
  clear ct
  refine wp_loop_rounds 4 ?_
  rw [rounds_succ]
  go_wp2
  rw [rounds_succ]
  go_wp2
  rw [rounds_succ]
  go_wp2
  rw [rounds_succ]
  go_wp2
  all_goals
    go_ret2
    first
    | exact ⟨rfl, (Below.refl _ w).alloc (Nat.le_refl _) _⟩
    | (refine ⟨⟨_, _, rfl, ?_⟩, (Below.refl _ w).alloc (Nat.le_refl _) _⟩
       omega)

set_option maxRecDepth 100000 in
set_option maxHeartbeats 400000 in
/-- a first byte of a longer encoding, and what must stand behind it does not -/
theorem coreNo (s : ByteArray) (i b n : Nat) (hs : s.size ≤ 65536) (hi : i < s.size) (hb : s[i].toNat = b)
    (h : ((194 : Int) ≤ (b : Int) ∧ (b : Int) ≤ 223 ∧ n = 1) ∨ ((224 : Int) ≤ (b : Int) ∧ (b : Int) ≤ 239 ∧ n = 2) ∨ ((240 : Int) ≤ (b : Int) ∧ (b : Int) ≤ 244 ∧ n = 3))
    (ct : ∀ w, Calls Tryd.prog 92 #[.string s, .int .i64 ((i + 1 : Nat) : Int), .int .i64 (n : Int)] w fun e w' => e = .returned (.bool false) ∧ w = w') (w : World) :
    Calls Tryd.prog 74 #[.string s, .int .i64 i] w fun e w' => e = .returned (.tuple #[.int .i64 65533, .int .i64 1]) ∧ Below w.heap.size w w' := by
  rcases h with ⟨h1, h2, rfl⟩ | ⟨h1, h2, rfl⟩ | ⟨h1, h2, rfl⟩
  all_goals
    go_enter Tryd.func74, Tryd.ntmps74
    go_wp2_with (go_at_call 92; go_must (refine (ct _).mono ?_; rintro e w' ⟨rfl, rfl⟩))
    go_ret2
    exact ⟨rfl, Below.refl _ _⟩

/-- spec.l01Rune, at every place of a text of at most 65536 bytes: the model's own decoder. -/
theorem specRune (s : ByteArray) (i : Nat) (hs : s.size ≤ 65536) (hi : i < s.size) (w : World) :
    Calls Tryd.prog 74 #[.string s, .int .i64 i] w fun e w' => e = .returned (.tuple #[.int .i64 (Utf8.decode s i).1, .int .i64 (Utf8.decode s i).2]) ∧ Below w.heap.size w w' := by
  have l0 := byt_lt s i
  have l1 := byt_lt s (i + 1)
  have l2 := byt_lt s (i + 2)
  have l3 := byt_lt s (i + 3)
  have hb := byt_eq s i hi
  by_cases c0 : byt s i < 128
  · exact rune0 s i hs hi c0 w
  by_cases cn : byt s i < 194 ∨ 245 ≤ byt s i
  · exact runeNone s i hs hi (by omega) w
  by_cases c1 : byt s i ≤ 223
  · have ct := specTail s (i + 1) 1 hs (by omega) (by omega)
    by_cases t : tailB s (i + 1) 1 = true
    · have hk : i + 1 < s.size ∧ 128 ≤ byt s (i + 1) ∧ byt s (i + 1) ≤ 191 := by simp [tailB, contAt] at t; omega
      have hd : Utf8.decode s i = ((byt s i - 192) * 64 + byt s (i + 1) - 128, 2) := by
        rw [decode_byt]; exact dec_1yes ⟨by omega, c1⟩ ⟨by omega, hk.2⟩
      rw [hd]
      rw [t] at ct
      refine (core1 s i (byt s i) (byt s (i + 1)) hs hi hk.1 hb (byt_eq s (i + 1) hk.1) (by omega) (by omega) (by omega) (by omega) ct w).mono ?_
      rintro e w' ⟨rfl, hB⟩
      refine ⟨?_, hB⟩
      rw [show (((byt s i - 192) * 64 + byt s (i + 1) - 128 : Nat) : Int) = ((byt s i : Int) - 192) * 64 + (byt s (i + 1) : Int) - 128 from by omega]
      rfl
    · rw [Bool.not_eq_true] at t
      have hd : Utf8.decode s i = (65533, 1) := by
        rw [decode_byt]
        refine dec_1no ⟨by omega, c1⟩ l1 fun a => ?_
        simp [tailB, contAt] at t
        omega
      rw [hd]
      rw [t] at ct
      exact coreNo s i _ 1 hs hi hb (by omega) ct w
  by_cases c2 : byt s i ≤ 239
  · have ct := specTail s (i + 1) 2 hs (by omega) (by omega)
    by_cases t : tailB s (i + 1) 2 = true
    · have hk : (i + 1 < s.size ∧ 128 ≤ byt s (i + 1) ∧ byt s (i + 1) ≤ 191) ∧ (i + 2 < s.size ∧ 128 ≤ byt s (i + 2) ∧ byt s (i + 2) ≤ 191) := by
        simp [tailB, contAt, Nat.add_assoc] at t; omega
      rw [t] at ct
      refine (core2 s i (byt s i) (byt s (i + 1)) (byt s (i + 2)) hs hi hk.1.1 hk.2.1 hb (byt_eq s (i + 1) hk.1.1) (byt_eq s (i + 2) hk.2.1) (by omega) (by omega) (by omega) (by omega) (by omega) (by omega) ct w).mono ?_
      rintro e w' ⟨⟨R, K, rfl, hRK⟩, hB⟩
      refine ⟨?_, hB⟩
      rcases hRK with ⟨hbad, rfl, rfl⟩ | ⟨hgood, rfl, rfl⟩
      · have hd : Utf8.decode s i = (65533, 1) := by
          rw [decode_byt]; exact dec_2bad ⟨by omega, c2⟩ hk.1.2 hk.2.2 (by omega)
        rw [hd]
        rfl
      · have hd : Utf8.decode s i = (((byt s i - 224) * 64 + byt s (i + 1) - 128) * 64 + byt s (i + 2) - 128, 3) := by
          rw [decode_byt]; exact dec_2yes ⟨by omega, c2⟩ (by omega) hk.1.2 hk.2.2 (by omega)
        rw [hd]
        rw [show (((((byt s i - 224) * 64 + byt s (i + 1) - 128) * 64 + byt s (i + 2) - 128 : Nat)) : Int) = (((byt s i : Int) - 224) * 64 + (byt s (i + 1) : Int) - 128) * 64 + (byt s (i + 2) : Int) - 128 from by omega]
        rfl
    · rw [Bool.not_eq_true] at t
      have hd : Utf8.decode s i = (65533, 1) := by
        rw [decode_byt]
        refine dec_2no ⟨by omega, c2⟩ l1 l2 fun a => ?_
        simp [tailB, contAt, Nat.add_assoc] at t
        omega
      rw [hd]
      rw [t] at ct
      exact coreNo s i _ 2 hs hi hb (by omega) ct w
  · have ct := specTail s (i + 1) 3 hs (by omega) (by omega)
    by_cases t : tailB s (i + 1) 3 = true
    · have hk : (i + 1 < s.size ∧ 128 ≤ byt s (i + 1) ∧ byt s (i + 1) ≤ 191) ∧ (i + 2 < s.size ∧ 128 ≤ byt s (i + 2) ∧ byt s (i + 2) ≤ 191) ∧ (i + 3 < s.size ∧ 128 ≤ byt s (i + 3) ∧ byt s (i + 3) ≤ 191) := by
        simp [tailB, contAt, Nat.add_assoc] at t; omega
      rw [t] at ct
      refine (core3 s i (byt s i) (byt s (i + 1)) (byt s (i + 2)) (byt s (i + 3)) hs hi hk.1.1 hk.2.1.1 hk.2.2.1 hb (byt_eq s (i + 1) hk.1.1) (byt_eq s (i + 2) hk.2.1.1) (byt_eq s (i + 3) hk.2.2.1) (by omega) (by omega) (by omega) (by omega) (by omega) (by omega) (by omega) (by omega) ct w).mono ?_
      rintro e w' ⟨⟨R, K, rfl, hRK⟩, hB⟩
      refine ⟨?_, hB⟩
      rcases hRK with ⟨hbad, rfl, rfl⟩ | ⟨hgood, rfl, rfl⟩
      · have hd : Utf8.decode s i = (65533, 1) := by
          rw [decode_byt]; exact dec_3bad ⟨by omega, by omega⟩ hk.1.2 hk.2.1.2 hk.2.2.2 (by omega)
        rw [hd]
        rfl
      · have hd : Utf8.decode s i = ((((byt s i - 240) * 64 + byt s (i + 1) - 128) * 64 + byt s (i + 2) - 128) * 64 + byt s (i + 3) - 128, 4) := by
          rw [decode_byt]; exact dec_3yes ⟨by omega, by omega⟩ (by omega) hk.1.2 hk.2.1.2 hk.2.2.2 (by omega)
        rw [hd]
        rw [show ((((((byt s i - 240) * 64 + byt s (i + 1) - 128) * 64 + byt s (i + 2) - 128) * 64 + byt s (i + 3) - 128 : Nat)) : Int) = ((((byt s i : Int) - 240) * 64 + (byt s (i + 1) : Int) - 128) * 64 + (byt s (i + 2) : Int) - 128) * 64 + (byt s (i + 3) : Int) - 128 from by omega]
        rfl
    · rw [Bool.not_eq_true] at t
      have hd : Utf8.decode s i = (65533, 1) := by
        rw [decode_byt]
        refine dec_3no ⟨by omega, by omega⟩ l1 l2 l3 fun a => ?_
        simp [tailB, contAt, Nat.add_assoc] at t
        omega
      rw [hd]
      rw [t] at ct
      exact coreNo s i _ 3 hs hi hb (by omega) ct w
end Go.Proofs.YtbpijollcjdkhaaDoor
