/-
  Escapes as plain data; the contracts of spec.l01Hex, impl.hexAt, spec.l01Escape and impl.escapeAt. No statement of the seat is proved here.
-/
import Derived.Test.YtbfoijeboaebdaaDoorTail
import Derived.OpenShut
import Derived.Deep.QuietTactic
import Derived.BigQuiet
import Derived.WalkSmall
namespace Go.Proofs.YtbfoijeboaebdaaDoor
open Go.ChangeShapes Go.WideShapes Go.ChangeAt Go.RowKit
set_option linter.unusedVariables false

/-- A hex digit's value; -1 of what is none. -/
def hexV (c : Nat) : Int := if 48 ≤ c ∧ c ≤ 57 then (c : Int) - 48 else if 97 ≤ c ∧ c ≤ 102 then (c : Int) - 87 else -1
theorem hexV_le (c : Nat) : -1 ≤ hexV c ∧ hexV c ≤ 15 := by unfold hexV; split <;> (try split) <;> omega

set_option maxHeartbeats 400000 in
theorem specHex (c : Nat) (hc : c < 256) (w : World) :
    Calls Tryd.prog 77 #[.int .u8 c] w fun e w' => e = .returned (.int .i64 (hexV c)) ∧ w = w' := by
  unfold hexV
  by_cases h1 : 48 ≤ c ∧ c ≤ 57
  · rw [if_pos h1]
    have a1 : (48 : Int) ≤ (c : Int) := by omega
    have a2 : (c : Int) ≤ 57 := by omega
    clear h1
    go_enter Tryd.func77, Tryd.ntmps77
    go_wp2
    go_ret
    exact ⟨rfl, rfl⟩
  rw [if_neg h1]
  by_cases h2 : 97 ≤ c ∧ c ≤ 102
  · rw [if_pos h2]
    have a1 : (97 : Int) ≤ (c : Int) := by omega
    have a2 : (c : Int) ≤ 102 := by omega
    clear h1 h2
    go_enter Tryd.func77, Tryd.ntmps77
    go_wp2
    go_ret
    exact ⟨rfl, rfl⟩
  rw [if_neg h2]
  have a : (c : Int) < 48 ∨ (58 ≤ (c : Int) ∧ (c : Int) < 97) ∨ 103 ≤ (c : Int) := by omega
  clear h1 h2
  rcases a with a | ⟨a, b⟩ | a
  all_goals
    go_enter Tryd.func77, Tryd.ntmps77
    go_wp2
    go_ret
    exact ⟨rfl, rfl⟩

theorem specHexQ (c : Nat) (hc : c < 256) (w : World) :
    Calls Tryd.prog 77 #[.int .u8 c] w fun e w' => e = .returned (.int .i64 (hexV c)) ∧ w' = w :=
  (specHex c hc w).mono fun e w' h => ⟨h.1, h.2.symm⟩
def hexText : ByteArray := ⟨#[48, 49, 50, 51, 52, 53, 54, 55, 56, 57, 97, 98, 99, 100, 101, 102]⟩
theorem index_hex : ∀ c : Fin 256, Lib.indexByte hexText.data.toList (UInt8.ofNat c.val) = hexV c.val := by decide +kernel

def hexAtV (s : ByteArray) (p : Nat) : Int := if p < s.size then hexV (byt s p) else -1

set_option maxRecDepth 100000 in
set_option maxHeartbeats 400000 in
theorem implHexAt (s : ByteArray) (p : Nat) (hs : s.size ≤ 65536) (hp : p ≤ 100000) (w : World) :
    Calls Tryd.prog 65 #[.string s, .int .i64 p] w fun e w' => e = .returned (.int .i64 (hexAtV s p)) ∧ w = w' := by
  unfold hexAtV
  by_cases h : p < s.size
  · rw [if_pos h]
    have hb := byt_eq s p h
    have hlt := byt_lt s p
    have ci := Tryd.strings_IndexByte hexText (byt s p : Int)
    have e : Lib.indexByte hexText.data.toList (byt s p : Int).toNat.toUInt8 = hexV (byt s p) := index_hex ⟨byt s p, hlt⟩
    rw [e] at ci
    obtain ⟨b, hbb⟩ : ∃ b, byt s p = b := ⟨_, rfl⟩
    rw [hbb] at hb ci hlt ⊢
    clear hbb e
    have h' : (p : Int) < (s.size : Int) := by omega
    obtain ⟨H, hH⟩ : ∃ H, hexV b = H := ⟨_, rfl⟩
    rw [hH] at ci ⊢
    clear hH
    unfold hexText at ci
    go_enter Tryd.func65, Tryd.ntmps65
    go_wp2_with (go_at_call 75; go_must (refine (ci _).mono ?_; rintro e w' ⟨rfl, hw'⟩; subst hw'))
    go_ret
    exact ⟨rfl, rfl⟩
  · rw [if_neg h]
    have h' : ¬ ((p : Int) < (s.size : Int)) := by omega
    go_enter Tryd.func65, Tryd.ntmps65
    go_wp2_with fail
    go_ret
    exact ⟨rfl, rfl⟩

def hexAtI (s : ByteArray) (q : Int) : Int := hexAtV s q.toNat
theorem implHexAtI (s : ByteArray) (q : Int) (hs : s.size ≤ 65536) (h0 : 0 ≤ q) (h1 : q ≤ 100000) (w : World) :
    Calls Tryd.prog 65 #[.string s, .int .i64 q] w fun e w' => e = .returned (.int .i64 (hexAtI s q)) ∧ w = w' := by
  obtain ⟨p, rfl⟩ : ∃ p : Nat, q = (p : Int) := ⟨q.toNat, by omega⟩
  exact implHexAt s p hs (by omega) w

/-- The byte of an escape at a place and its length; (0, 0) if it is none. -/
def esc (s : ByteArray) (i : Nat) : Nat × Nat :=
  if s.size ≤ i + 1 then (0, 0)
  else if byt s (i + 1) = 110 then (10, 2)
  else if byt s (i + 1) = 34 ∨ byt s (i + 1) = 92 then (byt s (i + 1), 2)
  else if byt s (i + 1) = 120 then (if i + 3 < s.size ∧ 0 ≤ hexV (byt s (i + 2)) ∧ 0 ≤ hexV (byt s (i + 3)) then ((16 * hexV (byt s (i + 2)) + hexV (byt s (i + 3))).toNat, 4) else (0, 0))
  else (0, 0)
theorem esc_bounds (s : ByteArray) (i : Nat) : (esc s i).1 < 256 ∧ ((esc s i).2 = 0 ∨ (2 ≤ (esc s i).2 ∧ i + (esc s i).2 ≤ s.size)) := by
  have h1 := byt_lt s (i + 1)
  have h2 := hexV_le (byt s (i + 2))
  have h3 := hexV_le (byt s (i + 3))
  unfold esc
  repeat' split
  all_goals dsimp only
  all_goals omega

set_option maxRecDepth 100000 in
set_option maxHeartbeats 1000000 in
theorem specEscape (s : ByteArray) (i : Nat) (hs : s.size ≤ 65536) (hi : i < s.size) (w : World) :
    Calls Tryd.prog 73 #[.string s, .int .i64 i] w fun e w' => e = .returned (.tuple #[.int .u8 (esc s i).1, .int .i64 (esc s i).2]) ∧ Below w.heap.size w w' := by
  unfold esc
  by_cases h0 : s.size ≤ i + 1
  · rw [if_pos h0]
    have h0' : (s.size : Int) ≤ (i : Int) + 1 := by omega
    go_enter Tryd.func73, Tryd.ntmps73
    go_wp2
    go_ret2
    exact ⟨rfl, Below.refl _ _⟩
  rw [if_neg h0]
  have h0' : (i : Int) + 1 < (s.size : Int) := by omega
  have hb := byt_eq s (i + 1) (by omega)
  have hlt := byt_lt s (i + 1)
  have hh2 : ∀ h : i + 2 < s.size, s[i + 2].toNat = byt s (i + 2) := byt_eq s (i + 2)
  have hh3 : ∀ h : i + 3 < s.size, s[i + 3].toNat = byt s (i + 3) := byt_eq s (i + 3)
  have l2 := byt_lt s (i + 2)
  have l3 := byt_lt s (i + 3)
  obtain ⟨b, hbb⟩ : ∃ b, byt s (i + 1) = b := ⟨_, rfl⟩
  obtain ⟨c, hcc⟩ : ∃ c, byt s (i + 2) = c := ⟨_, rfl⟩
  obtain ⟨d, hdd⟩ : ∃ d, byt s (i + 3) = d := ⟨_, rfl⟩
  rw [hbb] at hb hlt ⊢
  rw [hcc] at hh2 l2 ⊢
  rw [hdd] at hh3 l3 ⊢
  clear hbb hcc hdd
  have bc := hexV_le c
  have bd := hexV_le d
  obtain ⟨hc, hhc⟩ : ∃ x, hexV c = x := ⟨_, rfl⟩
  obtain ⟨hd, hhd⟩ : ∃ x, hexV d = x := ⟨_, rfl⟩
  rw [hhc] at bc ⊢
  rw [hhd] at bd ⊢
  by_cases h1 : b = 110
  · rw [if_pos h1]
    subst h1
    clear hh2 hh3
    go_enter Tryd.func73, Tryd.ntmps73
    go_wp2
    go_ret2
    exact ⟨rfl, Below.refl _ _⟩
  rw [if_neg h1]
  by_cases h2 : b = 34 ∨ b = 92
  · rw [if_pos h2]
    clear hh2 hh3 h1
    rcases h2 with rfl | rfl
    all_goals
      go_enter Tryd.func73, Tryd.ntmps73
      go_wp2
      go_ret2
      exact ⟨rfl, Below.refl _ _⟩
  rw [if_neg h2]
  by_cases h3 : b = 120
  · rw [if_pos h3]
    subst h3
    clear h1 h2
    by_cases h4 : i + 3 < s.size
    · have g2 := hh2 (by omega)
      have g3 := hh3 h4
      have h4' : (i : Int) + 3 < (s.size : Int) := by omega
      clear hh2 hh3
      by_cases h5 : 0 ≤ hc
      · by_cases h6 : 0 ≤ hd
        · rw [if_pos ⟨h4, h5, h6⟩]
          have e : (((16 * hc + hd).toNat : Nat) : Int) = 16 * hc + hd := by omega
          rw [e]
          clear e
          go_enter Tryd.func73, Tryd.ntmps73
          go_wp2_with (go_at_call 77; go_must (refine (specHex _ (by assumption) _).mono ?_; rintro e w' ⟨rfl, rfl⟩))
          have r2 : (0 : Int) ≤ (i : Int) + 2 := by omega
          have r2' : (i : Int) + 2 < (s.size : Int) := by omega
          have r3 : (0 : Int) ≤ (i : Int) + 3 := by omega
          have r5 : -9223372036854775808 ≤ 16 * hc := by omega
          have r6 : 16 * hc ≤ 240 := by omega
          go_quiet ((go_at_call 77; exact Calls.quiet_of_same (specHexQ _ (by assumption) _)))
          go_wp2
          go_ret2
          exact ⟨rfl, below_drewN (Below.refl _ _) _⟩
        · rw [if_neg (by omega)]
          go_enter Tryd.func73, Tryd.ntmps73
          go_wp2_with (go_at_call 77; go_must (refine (specHex _ (by assumption) _).mono ?_; rintro e w' ⟨rfl, rfl⟩))
          go_ret2
          exact ⟨rfl, Below.refl _ _⟩
      · rw [if_neg (by omega)]
        go_enter Tryd.func73, Tryd.ntmps73
        go_wp2_with (go_at_call 77; go_must (refine (specHex _ (by assumption) _).mono ?_; rintro e w' ⟨rfl, rfl⟩))
        go_ret2
        exact ⟨rfl, Below.refl _ _⟩
    · rw [if_neg (by omega)]
      have h4' : ¬ ((i : Int) + 3 < (s.size : Int)) := by omega
      clear hh2 hh3
      go_enter Tryd.func73, Tryd.ntmps73
      go_wp2_with fail
      go_ret2
      exact ⟨rfl, Below.refl _ _⟩
  · rw [if_neg h3]
    clear hh2 hh3
    have q1 : ((b : Int) == 110) = false := by rw [beq_eq_false_iff_ne]; omega
    have q2 : ((b : Int) == 34) = false := by rw [beq_eq_false_iff_ne]; omega
    have q3 : ((b : Int) == 92) = false := by rw [beq_eq_false_iff_ne]; omega
    have q4 : ((b : Int) == 120) = false := by rw [beq_eq_false_iff_ne]; omega
    clear h1 h2 h3
    go_enter Tryd.func73, Tryd.ntmps73
    go_wp2_with fail
    go_ret2
    exact ⟨rfl, Below.refl _ _⟩

set_option maxRecDepth 100000 in
set_option maxHeartbeats 1000000 in
theorem implEscape (s : ByteArray) (i : Nat) (hs : s.size ≤ 65536) (hi : i < s.size) (w : World) :
    Calls Tryd.prog 38 #[.string s, .int .i64 i] w fun e w' => e = .returned (.tuple #[.int .u8 (esc s i).1, .int .i64 (esc s i).2]) ∧ w = w' := by
  unfold esc
  by_cases h0 : s.size ≤ i + 1
  · rw [if_pos h0]
    have h0' : (s.size : Int) ≤ (i : Int) + 1 := by omega
    go_enter Tryd.func38, Tryd.ntmps38
    go_wp2
    go_ret2
    exact ⟨rfl, rfl⟩
  rw [if_neg h0]
  have h0' : (i : Int) + 1 < (s.size : Int) := by omega
  have hb := byt_eq s (i + 1) (by omega)
  have hlt := byt_lt s (i + 1)
  have bc := hexV_le (byt s (i + 2))
  have bd := hexV_le (byt s (i + 3))
  obtain ⟨b, hbb⟩ : ∃ b, byt s (i + 1) = b := ⟨_, rfl⟩
  rw [hbb] at hb hlt ⊢
  clear hbb
  by_cases h1 : b = 110
  · rw [if_pos h1]
    subst h1
    go_enter Tryd.func38, Tryd.ntmps38
    go_wp2_with fail
    go_ret2
    exact ⟨rfl, rfl⟩
  rw [if_neg h1]
  by_cases h2 : b = 34 ∨ b = 92
  · rw [if_pos h2]
    clear h1
    rcases h2 with rfl | rfl
    all_goals
      go_enter Tryd.func38, Tryd.ntmps38
      go_wp2_with fail
      go_ret2
      exact ⟨rfl, rfl⟩
  rw [if_neg h2]
  by_cases h3 : b = 120
  · rw [if_pos h3]
    subst h3
    clear h1 h2
    by_cases h4 : i + 3 < s.size ∧ 0 ≤ hexV (byt s (i + 2)) ∧ 0 ≤ hexV (byt s (i + 3))
    · rw [if_pos h4]
      have e2 : hexAtI s ((i : Int) + 2) = hexV (byt s (i + 2)) := by show hexAtV s (i + 2) = _; unfold hexAtV; rw [if_pos (by omega)]
      have e3 : hexAtI s ((i : Int) + 3) = hexV (byt s (i + 3)) := by show hexAtV s (i + 3) = _; unfold hexAtV; rw [if_pos (by omega)]
      obtain ⟨_, h5, h6⟩ := h4
      have e : (((16 * hexV (byt s (i + 2)) + hexV (byt s (i + 3))).toNat : Nat) : Int) = hexV (byt s (i + 2)) * 16 + hexV (byt s (i + 3)) := by omega
      rw [e]
      clear e
      obtain ⟨hc, hhc⟩ : ∃ x, hexV (byt s (i + 2)) = x := ⟨_, rfl⟩
      obtain ⟨hd, hhd⟩ : ∃ x, hexV (byt s (i + 3)) = x := ⟨_, rfl⟩
      rw [hhc] at e2 bc h5 ⊢
      rw [hhd] at e3 bd h6 ⊢
      clear hhc hhd
      go_enter Tryd.func38, Tryd.ntmps38
      go_wp2_with (go_at_call 65; go_must (refine (implHexAtI s _ hs (by omega) (by omega) _).mono ?_; rintro e w' ⟨rfl, rfl⟩))
      go_ret2
      exact ⟨rfl, rfl⟩
    · rw [if_neg h4]
      have hne : hexAtI s ((i : Int) + 2) < 0 ∨ hexAtI s ((i : Int) + 3) < 0 := by
        show hexAtV s (i + 2) < 0 ∨ hexAtV s (i + 3) < 0
        unfold hexAtV
        split <;> split <;> omega
      obtain ⟨hc, hhc⟩ : ∃ x, hexAtI s ((i : Int) + 2) = x := ⟨_, rfl⟩
      obtain ⟨hd, hhd⟩ : ∃ x, hexAtI s ((i : Int) + 3) = x := ⟨_, rfl⟩
      rw [hhc] at hne
      rw [hhd] at hne
      clear h4 bc bd
      by_cases h5 : hc < 0
      · clear hne
        go_enter Tryd.func38, Tryd.ntmps38
        go_wp2_with (go_at_call 65; go_must (refine (implHexAtI s _ hs (by omega) (by omega) _).mono ?_; rintro e w' ⟨rfl, rfl⟩))
        go_ret2
        exact ⟨rfl, rfl⟩
      · have h6 : hd < 0 := by omega
        clear hne
        go_enter Tryd.func38, Tryd.ntmps38
        go_wp2_with (go_at_call 65; go_must (refine (implHexAtI s _ hs (by omega) (by omega) _).mono ?_; rintro e w' ⟨rfl, rfl⟩))
        go_ret2
        exact ⟨rfl, rfl⟩
  · rw [if_neg h3]
    have q1 : ((b : Int) == 110) = false := by rw [beq_eq_false_iff_ne]; omega
    have q2 : ((b : Int) == 34) = false := by rw [beq_eq_false_iff_ne]; omega
    have q3 : ((b : Int) == 92) = false := by rw [beq_eq_false_iff_ne]; omega
    have q4 : ((b : Int) == 120) = false := by rw [beq_eq_false_iff_ne]; omega
    clear h1 h2 h3
    go_enter Tryd.func38, Tryd.ntmps38
    go_wp2_with fail
    go_ret2
    exact ⟨rfl, rfl⟩
end Go.Proofs.YtbfoijeboaebdaaDoor
