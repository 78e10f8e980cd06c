/-
  The contract of spec.l00Number at a row of digits. No statement of the seat is proved here.
-/
import Derived.Test.YtbfoijeboaebdaaDoorPlain
namespace Go.Proofs.YtbfoijeboaebdaaDoor
open Go.ChangeShapes Go.WideShapes Go.ChangeAt Go.RowKit
set_option linter.unusedVariables false

theorem numOf_succ (d : ByteArray) (k : Nat) (h : k < d.size) : numOf (d.data.toList.take (k + 1)) = numOf (d.data.toList.take k) * 10 + (byt d k - 48) := by
  have hl : k < d.data.toList.length := by simpa using h
  unfold numOf
  rw [List.take_succ_eq_append_getElem hl, List.foldl_append]
  simp only [List.foldl_cons, List.foldl_nil]
  have : (d.data.toList[k]).toNat = byt d k := by
    rw [← byt_eq d k h]; rfl
  rw [this]
theorem numOf_lt (d : ByteArray) (hd : ∀ i, i < d.size → 48 ≤ byt d i ∧ byt d i ≤ 57) (k : Nat) (h : k ≤ d.size) : numOf (d.data.toList.take k) < 10 ^ k := by
  induction k with
  | zero => simp [numOf]
  | succ k ih =>
    rw [numOf_succ d k (by omega), Nat.pow_succ]
    have := ih (by omega)
    have := hd k (by omega)
    omega

set_option maxRecDepth 100000 in
set_option maxHeartbeats 1000000 in
theorem specNum (d : ByteArray) (h1 : 1 ≤ d.size) (h18 : d.size ≤ 18) (hd : ∀ i, i < d.size → 48 ≤ byt d i ∧ byt d i ≤ 57) (hz : 1 < d.size → byt d 0 ≠ 48) (w : World) :
    Calls Tryd.prog 72 #[.string d] w fun e w' => e = .returned (.tuple #[.int .i64 (numOf d.data.toList), .bool true]) ∧ w = w' := by
  have hall : numOf (d.data.toList.take d.size) = numOf d.data.toList := by rw [List.take_of_length_le (by simp)]
  have a1 : (0 : Int) < (d.size : Int) := by omega
  have a2 : ¬ ((18 : Int) < (d.size : Int)) := by omega
  have a3 : ((d.size : Int) == 0) = false := by rw [beq_eq_false_iff_ne]; omega
  have hb0 := byt_eq d 0 (by omega)
  have hd0 := hd 0 (by omega)
  have HD : Hid (∀ i, i < d.size → 48 ≤ byt d i ∧ byt d i ≤ 57) := hd
  have HA : Hid (numOf (d.data.toList.take d.size) = numOf d.data.toList) := hall
  obtain ⟨N, hN⟩ : ∃ N, numOf d.data.toList = N := ⟨_, rfl⟩
  have HN : Hid (numOf d.data.toList = N) := hN
  rw [hN]
  clear hall hN hd
  obtain ⟨b, hb⟩ : ∃ b, byt d 0 = b := ⟨_, rfl⟩
  rw [hb] at hb0 hd0 hz
  clear hb
  have q45 : ((b : Int) == 45) = false := by rw [beq_eq_false_iff_ne]; omega
  by_cases h48 : b = 48
  · subst h48
    have hs1 : d.size = 1 := by
      rcases Nat.lt_or_ge 1 d.size with h | h
      · exact absurd rfl (hz h)
      · omega
    have a4 : ¬ ((1 : Int) < (d.size : Int)) := by omega
    clear hz hs1
    go_enter Tryd.func72, Tryd.ntmps72
    go_wp2
    go_loop [5, 6] (fun n i => ∃ k : Nat, k ≤ d.size ∧ i = .int .i64 (k : Int) ∧ n = .int .i64 ((numOf (d.data.toList.take k) : Nat) : Int)) (fun _ i => d.size - (intOf i).toNat)
    case atStart => exact ⟨0, by omega, rfl, rfl⟩
    case round =>
      obtain ⟨k, hk, rfl, rfl⟩ := hrel
      by_cases hkn : k < d.size
      · have hkn' : (k : Int) < (d.size : Int) := by omega
        have hbk := byt_eq d k hkn
        have hdk := HD.out k hkn
        have hlt := numOf_lt d HD.out k hk
        have hsu := numOf_succ d k hkn
        have hpw : 10 ^ k ≤ 10 ^ 17 := Nat.pow_le_pow_right (by omega) (by omega)
        obtain ⟨c, hc⟩ : ∃ c, byt d k = c := ⟨_, rfl⟩
        obtain ⟨n, hn⟩ : ∃ n, numOf (d.data.toList.take k) = n := ⟨_, rfl⟩
        obtain ⟨m, hm⟩ : ∃ m, numOf (d.data.toList.take (k + 1)) = m := ⟨_, rfl⟩
        have HM : Hid (numOf (d.data.toList.take (k + 1)) = m) := hm
        rw [hc] at hbk hdk hsu
        rw [hn] at hlt hsu ⊢
        rw [hm] at hsu
        have hn17 : n < 100000000000000000 := by omega
        have c1 : ¬ ((c : Int) < 48) := by omega
        have c2 : ¬ ((57 : Int) < (c : Int)) := by omega
        clear hm hn hc hlt hpw hb0
        go_wp2
        go_round
        case rel => exact ⟨k + 1, by omega, by go_num, by rw [HM.out, hsu]; congr 1; omega⟩
        case measure => simp [intOf]; omega
      · have hkn' : ¬ ((k : Int) < (d.size : Int)) := by omega
        have hke : k = d.size := by omega
        have hNk : numOf (d.data.toList.take k) = N := by rw [hke, HA.out, HN.out]
        rw [hNk]
        have hlt := numOf_lt d HD.out k hk
        rw [hNk] at hlt
        have hpw : 10 ^ k ≤ 10 ^ 18 := Nat.pow_le_pow_right (by omega) (by omega)
        have hN18 : N < 1000000000000000000 := by omega
        clear hNk hlt hpw hke hb0
        go_wp2
        go_ret2
        exact ⟨by simp, rfl⟩
  · have q48 : ((b : Int) == 48) = false := by rw [beq_eq_false_iff_ne]; omega
    clear hz
    go_enter Tryd.func72, Tryd.ntmps72
    go_wp2
    go_loop [5, 6] (fun n i => ∃ k : Nat, k ≤ d.size ∧ i = .int .i64 (k : Int) ∧ n = .int .i64 ((numOf (d.data.toList.take k) : Nat) : Int)) (fun _ i => d.size - (intOf i).toNat)
    case atStart => exact ⟨0, by omega, rfl, rfl⟩
    case round =>
      obtain ⟨k, hk, rfl, rfl⟩ := hrel
      by_cases hkn : k < d.size
      · have hkn' : (k : Int) < (d.size : Int) := by omega
        have hbk := byt_eq d k hkn
        have hdk := HD.out k hkn
        have hlt := numOf_lt d HD.out k hk
        have hsu := numOf_succ d k hkn
        have hpw : 10 ^ k ≤ 10 ^ 17 := Nat.pow_le_pow_right (by omega) (by omega)
        obtain ⟨c, hc⟩ : ∃ c, byt d k = c := ⟨_, rfl⟩
        obtain ⟨n, hn⟩ : ∃ n, numOf (d.data.toList.take k) = n := ⟨_, rfl⟩
        obtain ⟨m, hm⟩ : ∃ m, numOf (d.data.toList.take (k + 1)) = m := ⟨_, rfl⟩
        have HM : Hid (numOf (d.data.toList.take (k + 1)) = m) := hm
        rw [hc] at hbk hdk hsu
        rw [hn] at hlt hsu ⊢
        rw [hm] at hsu
        have hn17 : n < 100000000000000000 := by omega
        have c1 : ¬ ((c : Int) < 48) := by omega
        have c2 : ¬ ((57 : Int) < (c : Int)) := by omega
        clear hm hn hc hlt hpw hb0
        go_wp2
        go_round
        case rel => exact ⟨k + 1, by omega, by go_num, by rw [HM.out, hsu]; congr 1; omega⟩
        case measure => simp [intOf]; omega
      · have hkn' : ¬ ((k : Int) < (d.size : Int)) := by omega
        have hke : k = d.size := by omega
        have hNk : numOf (d.data.toList.take k) = N := by rw [hke, HA.out, HN.out]
        rw [hNk]
        have hlt := numOf_lt d HD.out k hk
        rw [hNk] at hlt
        have hpw : 10 ^ k ≤ 10 ^ 18 := Nat.pow_le_pow_right (by omega) (by omega)
        have hN18 : N < 1000000000000000000 := by omega
        clear hNk hlt hpw hke hb0
        go_wp2
        go_ret2
        exact ⟨by simp, rfl⟩
end Go.Proofs.YtbfoijeboaebdaaDoor
