/-
  The contracts of spec.RuneAt and impl.RuneAt: both answer 'runeAt', the model's decoder at the place, (0, 0) outside. impl.RuneAt under the two tables of unicode/utf8 as they are laid. No statement of the seat is proved here.
-/
import Derived.Test.YtbpijollcjdkhaaDoorRune
import Derived.Lib.RuneCountTail
namespace Go.Proofs.YtbpijollcjdkhaaDoor
open Go.ChangeShapes Go.WideShapes Go.ChangeAt Go.RowKit
set_option linter.unusedVariables false

theorem decodeN_le (n b0 b1 b2 b3 : Nat) (h0 : b0 < 256) (h1 : b1 < 256) (h2 : b2 < 256) (h3 : b3 < 256) : (Lib.decodeN n b0 b1 b2 b3).1 ≤ 1114111 ∧ 1 ≤ (Lib.decodeN n b0 b1 b2 b3).2 ∧ (Lib.decodeN n b0 b1 b2 b3).2 ≤ 4 := by
  unfold Lib.decodeN
  repeat' split
  all_goals simp only
  all_goals omega
theorem decode_le (s : ByteArray) (i : Nat) : (Utf8.decode s i).1 ≤ 1114111 ∧ 1 ≤ (Utf8.decode s i).2 ∧ (Utf8.decode s i).2 ≤ 4 := by
  rw [decode_byt]; exact decodeN_le _ _ _ _ _ (byt_lt _ _) (byt_lt _ _) (byt_lt _ _) (byt_lt _ _)

/-- The rune at a place and its length; (0, 0) of a text that is too long, and outside of it. -/
def runeAt (s : ByteArray) (p : Int) : Int × Int :=
  if 65536 < s.size ∨ p < 0 ∨ (s.size : Int) ≤ p then (0, 0) else (((Utf8.decode s p.toNat).1 : Int), ((Utf8.decode s p.toNat).2 : Int))
theorem runeAt_out {s : ByteArray} {p : Int} (h : 65536 < s.size ∨ p < 0 ∨ (s.size : Int) ≤ p) : runeAt s p = (0, 0) := if_pos h
theorem runeAt_in {s : ByteArray} {i : Nat} (hs : s.size ≤ 65536) (h : i < s.size) : runeAt s (i : Int) = (((Utf8.decode s i).1 : Int), ((Utf8.decode s i).2 : Int)) := by
  unfold runeAt; rw [if_neg (by omega)]; rfl

set_option maxRecDepth 100000 in
set_option maxHeartbeats 400000 in
theorem implRuneAt (s : ByteArray) (p : Int) (w : World) (hT : Lib.Utf8Tabs 0 1 w) :
    Calls Tryd.prog 78 #[.string s, .int .i64 p] w fun e w' => e = .returned (.tuple #[.int .i64 (runeAt s p).1, .int .i64 (runeAt s p).2]) ∧ Below w.heap.size w w' := by
  by_cases h : 65536 < s.size ∨ p < 0 ∨ (s.size : Int) ≤ p
  · rw [runeAt_out h]
    clear hT
    by_cases h1 : (65536 : Int) < (s.size : Int)
    · clear h
      go_enter Tryd.func78, Tryd.ntmps78
      go_wp2_with fail
      go_ret2
      exact ⟨rfl, Below.refl _ _⟩
    by_cases h2 : p < 0
    · clear h
      go_enter Tryd.func78, Tryd.ntmps78
      go_wp2_with fail
      go_ret2
      exact ⟨rfl, Below.refl _ _⟩
    have h3 : (s.size : Int) ≤ p := by omega
    clear h
    go_enter Tryd.func78, Tryd.ntmps78
    go_wp2_with fail
    go_ret2
    exact ⟨rfl, Below.refl _ _⟩
  · have hs : s.size ≤ 65536 := by omega
    obtain ⟨i, rfl⟩ : ∃ i : Nat, p = (i : Int) := ⟨p.toNat, by omega⟩
    have hi : i < s.size := by omega
    rw [runeAt_in hs hi]
    have hd : Lib.decodeGo (s.extract i s.size) = Utf8.decode s i := by
      have : ¬ (s.extract i s.size).size = 0 := by simp; omega
      simp only [Lib.decodeGo, if_neg this]
      exact Lib.tail_decode s i 0
    have c := Tryd.utf8_DecodeRuneInString (s.extract i s.size) w hT
    have hle := (decode_le s i).1
    clear h hT
    have h1 : ¬ ((65536 : Int) < (s.size : Int)) := by omega
    have h3 : ¬ ((s.size : Int) ≤ (i : Int)) := by omega
    rw [hd] at c
    obtain ⟨R, hR⟩ : ∃ R, (Utf8.decode s i).1 = R := ⟨_, rfl⟩
    obtain ⟨K, hK⟩ : ∃ K, (Utf8.decode s i).2 = K := ⟨_, rfl⟩
    rw [hR, hK] at c
    rw [hR] at hle
    rw [hR, hK]
    clear hR hK hd
    have hle' : (R : Int) ≤ 1114111 := by omega
    go_enter Tryd.func78, Tryd.ntmps78
    go_wp2_with (go_at_call 93; go_must (refine c.mono ?_; rintro e w' ⟨rfl, hB⟩))
    go_ret2
    exact ⟨rfl, hB⟩
end Go.Proofs.YtbpijollcjdkhaaDoor
