/-
  Numbers: the contracts of impl.valueOf and numberOf. Numbers: the contract of impl.numberOf. No statement of the seat is proved here.
-/
import Derived.Test.YthopmdfichfhdaaGreatDoorW0
namespace Go.Proofs.YthopmdfichfhdaaGreatDoor
open Go.ChangeShapes Go.WideShapes Go.ChangeAt Go.RowKit
set_option linter.unusedVariables false
set_option linter.unusedSimpArgs false

theorem iter_fresh (w : World) (t : ByteArray) (q : Nat) : (w.iter t q).heap[w.heap.size]? = some (.stringIter t q) := heap_alloc_last w _
theorem iterPos_of {w : World} {k : Nat} {s : ByteArray} {p : Nat} (hk : w.heap[k]? = some (.stringIter s p)) : w.iterPos k = p := by
  simp [World.iterPos, hk]
theorem decodeN_ascii (n b0 b1 b2 b3 : Nat) (h0 : b0 < 256) (h1 : b1 < 256) (h2 : b2 < 256) (h3 : b3 < 256) : (b0 < 128 ∧ Lib.decodeN n b0 b1 b2 b3 = (b0, 1)) ∨ (128 ≤ b0 ∧ 128 ≤ (Lib.decodeN n b0 b1 b2 b3).1) := by
  by_cases h : b0 < 128
  · exact .inl ⟨h, by unfold Lib.decodeN; rw [if_pos h]⟩
  · refine .inr ⟨by omega, ?_⟩
    unfold Lib.decodeN
    repeat' split
    all_goals dsimp only
    all_goals omega
theorem decode_ascii' (s : ByteArray) (i : Nat) : (byt s i < 128 ∧ Utf8.decode s i = (byt s i, 1)) ∨ (128 ≤ byt s i ∧ 128 ≤ (Utf8.decode s i).1) := by
  rw [decode_byt]; exact decodeN_ascii _ _ _ _ _ (byt_lt _ _) (byt_lt _ _) (byt_lt _ _) (byt_lt _ _)
theorem decode_low {s : ByteArray} {p : Nat} (h : byt s p < 128) : Utf8.decode s p = (byt s p, 1) := by
  rcases decode_ascii' s p with ⟨_, h2⟩ | ⟨h1, _⟩
  · exact h2
  · omega
set_option maxRecDepth 100000 in
set_option maxHeartbeats 1000000 in
theorem implValue (d : ByteArray) (h18 : d.size ≤ 18) (hd : ∀ i, i < d.size → 48 ≤ byt d i ∧ byt d i ≤ 57) (w : World) :
    Calls Tryz.prog 86 #[.string d] w fun e w' => e = .returned (.int .i64 (numOf d.data.toList : Int)) ∧ Below w.heap.size w w' := by
  have HA : Hid (numOf (d.data.toList.take d.size) = numOf d.data.toList) := by show _ = _; rw [List.take_of_length_le (by simp)]
  have HD : Hid (∀ i, i < d.size → 48 ≤ byt d i ∧ byt d i ≤ 57) := hd
  obtain ⟨N, hN⟩ : ∃ N, numOf d.data.toList = N := ⟨_, rfl⟩
  have HN : Hid (numOf d.data.toList = N) := hN
  rw [hN]
  clear hN hd
  go_enter Tryz.func86, Tryz.ntmps86
  go_wp2_with fail
  go_loopw [3] (fun x wr => ∃ k : Nat, k ≤ d.size ∧ x = .int .i64 ((numOf (d.data.toList.take k) : Nat) : Int) ∧ wr.heap[w.heap.size]? = some (.stringIter d k) ∧ Below w.heap.size w wr) (fun _ wr => d.size - wr.iterPos w.heap.size)
  case atStart => exact ⟨0, by omega, rfl, iter_fresh w d 0, (Below.refl _ w).alloc (Nat.le_refl _) _⟩
  case round =>
    obtain ⟨k, hk, rfl, hi, hB⟩ := hrel
    have hip := iterPos_of hi
    by_cases hkn : k < d.size
    · have hnx : ∀ ty, (Instr.next (.pointer (some ⟨w.heap.size, 0, none⟩)) true ty).run Tryz.prog wr = _ := fun ty => Lib.run_next_any_at wr w.heap.size d k ty hi hkn
      have hdk := HD.out k hkn
      rw [decode_low (by omega)] at hnx
      have hlt := numOf_lt d k (fun i hi => HD.out i (by omega)) hk
      have hsu := numOf_succ d k hkn
      have hpw : 10 ^ k ≤ 10 ^ 17 := Nat.pow_le_pow_right (by omega) (by omega)
      obtain ⟨c, hc⟩ : ∃ c, byt d k = c := ⟨_, rfl⟩
      obtain ⟨n, hn⟩ : ∃ n, numOf (d.data.toList.take k) = n := ⟨_, rfl⟩
      obtain ⟨m, hm⟩ : ∃ m, numOf (d.data.toList.take (k + 1)) = m := ⟨_, rfl⟩
      have HM : Hid (numOf (d.data.toList.take (k + 1)) = m) := hm
      rw [hc] at hnx hdk hsu
      rw [hn] at hlt hsu ⊢
      rw [hm] at hsu
      have hn17 : n < 100000000000000000 := by omega
      obtain ⟨wt, hwt⟩ : ∃ wt, wr.iterAt w.heap.size d (k + 1) = wt := ⟨_, rfl⟩
      have hiT : wt.heap[w.heap.size]? = some (.stringIter d (k + 1)) := by rw [← hwt]; exact Lib.iterAt_heap wr _ _ _ _ hi
      have hBT : Below w.heap.size w wt := by rw [← hwt]; exact Lib.below_iterAt hB (Nat.le_refl _) _ _
      simp only at hnx
      rw [hwt] at hnx
      clear hm hn hc hlt hpw hwt hi hB
      go_wp2
      go_roundw
      case rel => exact ⟨k + 1, by omega, by rw [HM.out, hsu]; congr 1; omega, hiT, hBT⟩
      case measure => rw [hip, iterPos_of hiT]; omega
    · have hnx : ∀ ty, (Instr.next (.pointer (some ⟨w.heap.size, 0, none⟩)) true ty).run Tryz.prog wr = _ := fun ty => Lib.run_next_end_at wr w.heap.size d k ty hi hkn
      have hNk : numOf (d.data.toList.take k) = N := by rw [show k = d.size by omega, HA.out, HN.out]
      rw [hNk]
      clear hi hNk
      go_wp2
      go_ret
      exact ⟨rfl, hB⟩
theorem digEnd_yes {d : ByteArray} (h : ∀ i, i < d.size → 48 ≤ byt d i ∧ byt d i ≤ 57) : ∀ n pos, pos + n = d.size → endOf isDig d pos = d.size
  | 0, pos, he => endOf_out (by omega)
  | n + 1, pos, he => by
    have hp : pos < d.size := by omega
    have hd := h pos hp
    have hl := decode_low (s := d) (p := pos) (by omega)
    rw [endOf_on hp (by rw [hl]; unfold isDig; simp; omega), hl]
    exact digEnd_yes h n (pos + 1) (by omega)
theorem digEnd_no {d : ByteArray} {k : Nat} (hk : k < d.size) (hn : ¬ (48 ≤ byt d k ∧ byt d k ≤ 57)) (h : ∀ i, i < k → 48 ≤ byt d i ∧ byt d i ≤ 57) : ∀ n pos, pos + n = k → endOf isDig d pos = k
  | 0, pos, he => by
    obtain rfl : pos = k := by omega
    refine endOf_stop hk ?_
    rcases decode_ascii' d pos with ⟨_, h2⟩ | ⟨h1, h2⟩
    · rw [h2]; unfold isDig; simp; omega
    · unfold isDig; simp; omega
  | n + 1, pos, he => by
    have hd := h pos (by omega)
    have hl := decode_low (s := d) (p := pos) (by omega)
    rw [endOf_on (by omega) (by rw [hl]; unfold isDig; simp; omega), hl]
    exact digEnd_no hk hn h n (pos + 1) (by omega)
/-- The first place that is no digit. -/
theorem first_no {d : ByteArray} : ∀ m, m ≤ d.size → (∀ i, i < m → 48 ≤ byt d i ∧ byt d i ≤ 57) ∨ ∃ k, k < m ∧ ¬ (48 ≤ byt d k ∧ byt d k ≤ 57) ∧ ∀ i, i < k → 48 ≤ byt d i ∧ byt d i ≤ 57
  | 0, _ => .inl (fun i hi => by omega)
  | m + 1, hm => by
    rcases first_no (d := d) m (by omega) with h | ⟨k, h1, h2, h3⟩
    · by_cases e : 48 ≤ byt d m ∧ byt d m ≤ 57
      · refine .inl (fun i hi => ?_)
        by_cases ei : i = m
        · subst ei; exact e
        · exact h i (by omega)
      · exact .inr ⟨m, by omega, e, h⟩
    · exact .inr ⟨k, by omega, h2, h3⟩
theorem digs_end (d : ByteArray) : (digsB d = true ∧ endOf isDig d 0 = d.size ∧ ∀ i, i < d.size → 48 ≤ byt d i ∧ byt d i ≤ 57) ∨ (digsB d = false ∧ endOf isDig d 0 < d.size) := by
  rcases first_no (d := d) d.size (Nat.le_refl _) with h | ⟨k, h1, h2, h3⟩
  · exact .inl ⟨digs_yes h, digEnd_yes h d.size 0 (by omega), h⟩
  · exact .inr ⟨digs_no h1 h2, by rw [digEnd_no h1 h2 h3 k 0 (by omega)]; exact h1⟩
end Go.Proofs.YthopmdfichfhdaaGreatDoor

namespace Go.Proofs.YthopmdfichfhdaaGreatDoor
open Go.ChangeShapes Go.WideShapes Go.ChangeAt Go.RowKit
set_option linter.unusedVariables false
set_option linter.unusedSimpArgs false

theorem list_byt (t : ByteArray) (c : UInt8) : (t.toList == [c]) = (decide (t.size = 1) && decide (byt t 0 = c.toNat)) := by
  rw [toList_data, Bool.eq_iff_iff]
  simp only [beq_iff_eq, Bool.and_eq_true, decide_eq_true_eq]
  constructor
  · intro h
    have h1 : t.data.toList.length = 1 := by rw [h]; rfl
    have hs : t.size = 1 := by simpa using h1
    refine ⟨hs, ?_⟩
    have hb := byt_eq t 0 (by omega)
    rw [← hb]
    have : t.data.toList[0]'(by rw [h1]; omega) = c := by simp [h]
    rw [← this]; rfl
  · rintro ⟨hs, hb⟩
    have h1 : t.data.toList.length = 1 := by simpa using hs
    have hb0 := byt_eq t 0 (by omega)
    rw [hb] at hb0
    have e : t.data.toList[0]'(by rw [h1]; omega) = c := UInt8.toNat_inj.1 (by rw [← hb0]; rfl)
    match hl : t.data.toList, h1 with
    | [x], _ =>
      have : x = c := by simpa [hl] using e
      rw [this]
theorem empty_byt (t : ByteArray) : (t.toList == []) = decide (t.size = 0) := by
  rw [toList_data, Bool.eq_iff_iff]
  simp only [beq_iff_eq, decide_eq_true_eq]
  constructor
  · intro h
    have : t.data.toList.length = 0 := by rw [h]; rfl
    simpa using this
  · intro h
    have : t.data.toList.length = 0 := by simpa using h
    exact List.length_eq_zero_iff.1 this
theorem pre_neg (t : ByteArray) : preB t ⟨#[45]⟩ = negB t := by
  unfold preB negB
  have hl : (⟨#[45]⟩ : ByteArray).toList = [45] := by rw [toList_data]
  rw [hl]
  change (decide (1 ≤ t.size) && ((t.extract 0 1).toList == [45])) = _
  rw [list_byt]
  by_cases h : 0 < t.size
  · have hsz : (t.extract 0 1).size = 1 := by rw [ByteArray.size_extract]; omega
    have hb : byt (t.extract 0 1) 0 = byt t 0 := by
      rw [← byt_eq _ 0 (by omega), ← byt_eq _ 0 h]
      congr 1
      exact ByteArray.getElem_extract ..
    rw [decide_eq_true (show 1 ≤ t.size by omega), decide_eq_true h, decide_eq_true hsz, hb]
    rfl
  · rw [decide_eq_false (show ¬ (1 ≤ t.size) by omega), decide_eq_false h]
    rfl
set_option maxRecDepth 100000 in
set_option maxHeartbeats 2000000 in
theorem implNumber (t : ByteArray) (ht : t.size ≤ 65536) (w : World) :
    Calls Tryz.prog 76 #[.string t] w fun e w' => e = .returned (.tuple #[.int .i64 (numV t), .bool (numB t)]) ∧ Below w.heap.size w w' := by
  have cc := fun w => Tryz.strings_CutPrefix t ⟨#[45]⟩ w
  rw [← Lib.hasPrefix_raw] at cc
  have hpn := pre_neg t
  have hpb : preB t ⟨#[45]⟩ = (decide ((⟨#[45]⟩ : ByteArray).size ≤ t.size) && ((t.extract 0 (⟨#[45]⟩ : ByteArray).size).toList == (⟨#[45]⟩ : ByteArray).toList)) := rfl
  have hval : numV t = if numB t then (if negB t then -1 else 1) * (numOf (absT t).data.toList : Int) else 0 := rfl
  have hnb : numB t = (!headB (absT t) (negB t) && digsB (absT t)) := rfl
  have h48 := list_byt t 48
  obtain ⟨NV, hNV⟩ : ∃ NV, numV t = NV := ⟨_, rfl⟩
  obtain ⟨NB, hNB⟩ : ∃ NB, numB t = NB := ⟨_, rfl⟩
  rw [hNV, hNB] at hval
  rw [hNB] at hnb
  rw [hNV, hNB]
  clear hNV hNB
  cases hng : negB t
  case true =>
    rw [hng] at hval hnb hpn
    have hn2 := hng
    unfold negB at hn2
    simp only [Bool.and_eq_true, decide_eq_true_eq] at hn2
    have hab : absT t = t.extract 1 t.size := by unfold absT; rw [hng, if_pos rfl]
    rw [hpn] at hpb
    have hpb2 := hpb.symm
    simp only [Bool.and_eq_true, decide_eq_true_eq] at hpb2
    rw [← hpb, Lib.trimPrefix_hit t ⟨#[45]⟩ hpb2.1 hpb2.2] at cc
    change ∀ w, Calls _ _ _ w (fun e w' => e = .returned (.tuple #[.string (t.extract 1 t.size), .bool true]) ∧ _) at cc
    rw [← hab] at cc
    obtain ⟨d, hd⟩ : ∃ d, absT t = d := ⟨_, rfl⟩
    rw [hd] at hval hnb cc
    have HV : Hid (NV = if NB = true then (if true = true then -1 else 1) * (numOf d.data.toList : Int) else 0) := hval
    have HNB : Hid (NB = (!headB d true && digsB d)) := hnb
    have hdz : d.size ≤ 65536 := by rw [← hd, hab, ByteArray.size_extract]; omega
    have n48 : (t.toList == [48]) = false := by
      rw [h48, hn2.2]
      simp
    clear hval hnb hpn hpb hpb2 hab hd hng h48 hn2
    have HE0 : Hid ((d.toList == []) = decide (d.size = 0)) := empty_byt d
    by_cases s0 : d.size = 0
    case pos =>
      have s0' : (d.toList == []) = true := by rw [HE0.out]; exact decide_eq_true s0
      have hn : NB = false := by rw [HNB.out]; unfold headB; rw [decide_eq_true s0]; simp
      subst hn
      have hv := HV.out
      rw [if_neg (by simp)] at hv
      subst hv
      go_enter Tryz.func76, Tryz.ntmps76
      go_wp2_with (go_at_call 83; go_must (refine (cc _).mono ?_; rintro e w1 ⟨rfl, rfl⟩))
      go_ret2
      exact ⟨rfl, Below.refl _ _⟩
    have s0' : (d.toList == []) = false := by rw [HE0.out]; exact decide_eq_false s0
    by_cases s18 : 18 < d.size
    case pos =>
      have s18' : (18 : Int) < (d.size : Int) := by omega
      have hn : NB = false := by rw [HNB.out]; unfold headB; rw [decide_eq_true s18]; simp
      subst hn
      have hv := HV.out
      rw [if_neg (by simp)] at hv
      subst hv
      go_enter Tryz.func76, Tryz.ntmps76
      go_wp2_with (go_at_call 83; go_must (refine (cc _).mono ?_; rintro e w1 ⟨rfl, rfl⟩))
      go_ret2
      exact ⟨rfl, Below.refl _ _⟩
    have s18' : ¬ ((18 : Int) < (d.size : Int)) := by omega
    have cr := fun w => runEndDig d 0 (by omega) (by omega) w
    rcases digs_end d with ⟨hdg, he, hall⟩ | ⟨hdg, he⟩
    case inr =>
      have he' : ((endOf isDig d 0 : Nat) : Int) < (d.size : Int) := by omega
      obtain ⟨E, hE⟩ : ∃ E, endOf isDig d 0 = E := ⟨_, rfl⟩
      rw [hE] at cr he'
      have hn : NB = false := by rw [HNB.out, hdg]; simp
      subst hn
      have hv := HV.out
      rw [if_neg (by simp)] at hv
      subst hv
      clear hE he hdg
      go_enter Tryz.func76, Tryz.ntmps76
      go_wp2_with (first | (go_at_call 83; go_must (refine (cc _).mono ?_; rintro e w1 ⟨rfl, rfl⟩)) | (go_at_call 84; go_must (refine (cr _).mono ?_; rintro e w2 ⟨rfl, hb2⟩)))
      go_ret2
      exact ⟨rfl, hb2⟩
    rw [he] at cr
    have hlt : ¬ ((d.size : Int) < (d.size : Int)) := by omega
    have hpos : (0 : Int) < (d.size : Int) := by omega
    have hd0 : 0 < d.size := by omega
    have hb0 := byt_eq d 0 hd0
    have cv := fun w => implValue d (by omega) hall w
    have hlv := numOf_lt d d.size hall (Nat.le_refl _)
    rw [List.take_of_length_le (by simp)] at hlv
    have hpw : 10 ^ d.size ≤ 10 ^ 18 := Nat.pow_le_pow_right (by omega) (by omega)
    obtain ⟨N, hN⟩ : ∃ N, numOf d.data.toList = N := ⟨_, rfl⟩
    rw [hN] at cv hlv HV
    have hN18 : N < 1000000000000000000 := by omega
    clear hN hlv hpw hall he
    by_cases b48 : byt d 0 = 48
    case pos =>
      rw [b48] at hb0
      have hn : NB = false := by rw [HNB.out]; unfold headB; rw [decide_eq_true b48]; simp
      subst hn
      have hv := HV.out
      rw [if_neg (by simp)] at hv
      subst hv
      clear b48
      go_enter Tryz.func76, Tryz.ntmps76
      go_wp2_with (first | (go_at_call 83; go_must (refine (cc _).mono ?_; rintro e w1 ⟨rfl, rfl⟩)) | (go_at_call 84; go_must (refine (cr _).mono ?_; rintro e w2 ⟨rfl, hb2⟩)))
      go_ret2
      exact ⟨rfl, hb2⟩
    have q48 : ((byt d 0 : Int) == 48) = false := by rw [beq_eq_false_iff_ne]; omega
    have hn : NB = true := by rw [HNB.out, hdg]; unfold headB; rw [decide_eq_false s0, decide_eq_false s18, decide_eq_false b48]; rfl
    subst hn
    have hv := HV.out
    rw [if_pos rfl, if_pos rfl] at hv
    have HV2 : Hid (NV = -1 * (N : Int)) := hv
    obtain ⟨c, hc⟩ : ∃ c, byt d 0 = c := ⟨_, rfl⟩
    rw [hc] at hb0 q48
    clear hv hc b48
    go_enter Tryz.func76, Tryz.ntmps76
    go_wp2_with (first | (go_at_call 83; go_must (refine (cc _).mono ?_; rintro e w1 ⟨rfl, rfl⟩)) | (go_at_call 84; go_must (refine (cr _).mono ?_; rintro e w2 ⟨rfl, hb2⟩)) | (go_at_call 86; go_must (refine (cv _).mono ?_; rintro e w3 ⟨rfl, hb3⟩)))
    go_ret2
    exact ⟨by rw [HV2.out]; simp, good_below hb2 hb3⟩
  case false =>
    rw [hng] at hval hnb hpn
    have hab : absT t = t := by unfold absT; rw [hng, if_neg (by simp)]
    rw [hpn] at hpb
    rw [← hpb, Lib.trimPrefix_miss t ⟨#[45]⟩ hpb.symm] at cc
    rw [hab] at hval hnb
    obtain ⟨d, hd⟩ : ∃ d, t = d := ⟨_, rfl⟩
    subst hd
    have HV : Hid (NV = if NB = true then (if false = true then -1 else 1) * (numOf t.data.toList : Int) else 0) := hval
    have HNB : Hid (NB = (!headB t false && digsB t)) := hnb
    have H48 : Hid ((t.toList == [48]) = (decide (t.size = 1) && decide (byt t 0 = (48 : UInt8).toNat))) := h48
    clear hval hnb hpn hpb hab hng h48
    have hdz : t.size ≤ 65536 := ht
    have HE0 : Hid ((t.toList == []) = decide (t.size = 0)) := empty_byt t
    by_cases s0 : t.size = 0
    case pos =>
      have s0' : (t.toList == []) = true := by rw [HE0.out]; exact decide_eq_true s0
      have hn : NB = false := by rw [HNB.out]; unfold headB; rw [decide_eq_true s0]; simp
      subst hn
      have hv := HV.out
      rw [if_neg (by simp)] at hv
      subst hv
      go_enter Tryz.func76, Tryz.ntmps76
      go_wp2_with (go_at_call 83; go_must (refine (cc _).mono ?_; rintro e w1 ⟨rfl, rfl⟩))
      go_ret2
      exact ⟨rfl, Below.refl _ _⟩
    have s0' : (t.toList == []) = false := by rw [HE0.out]; exact decide_eq_false s0
    by_cases s18 : 18 < t.size
    case pos =>
      have s18' : (18 : Int) < (t.size : Int) := by omega
      have hn : NB = false := by rw [HNB.out]; unfold headB; rw [decide_eq_true s18]; simp
      subst hn
      have hv := HV.out
      rw [if_neg (by simp)] at hv
      subst hv
      go_enter Tryz.func76, Tryz.ntmps76
      go_wp2_with (go_at_call 83; go_must (refine (cc _).mono ?_; rintro e w1 ⟨rfl, rfl⟩))
      go_ret2
      exact ⟨rfl, Below.refl _ _⟩
    have s18' : ¬ ((18 : Int) < (t.size : Int)) := by omega
    have cr := fun w => runEndDig t 0 (by omega) (by omega) w
    rcases digs_end t with ⟨hdg, he, hall⟩ | ⟨hdg, he⟩
    case inr =>
      have he' : ((endOf isDig t 0 : Nat) : Int) < (t.size : Int) := by omega
      obtain ⟨E, hE⟩ : ∃ E, endOf isDig t 0 = E := ⟨_, rfl⟩
      rw [hE] at cr he'
      have hn : NB = false := by rw [HNB.out, hdg]; simp
      subst hn
      have hv := HV.out
      rw [if_neg (by simp)] at hv
      subst hv
      clear hE he hdg
      go_enter Tryz.func76, Tryz.ntmps76
      go_wp2_with (first | (go_at_call 83; go_must (refine (cc _).mono ?_; rintro e w1 ⟨rfl, rfl⟩)) | (go_at_call 84; go_must (refine (cr _).mono ?_; rintro e w2 ⟨rfl, hb2⟩)))
      go_ret2
      exact ⟨rfl, hb2⟩
    rw [he] at cr
    have hlt : ¬ ((t.size : Int) < (t.size : Int)) := by omega
    have hpos : (0 : Int) < (t.size : Int) := by omega
    have hd0 : 0 < t.size := by omega
    have hb0 := byt_eq t 0 hd0
    have cv := fun w => implValue t (by omega) hall w
    have hlv := numOf_lt t t.size hall (Nat.le_refl _)
    rw [List.take_of_length_le (by simp)] at hlv
    have hpw : 10 ^ t.size ≤ 10 ^ 18 := Nat.pow_le_pow_right (by omega) (by omega)
    obtain ⟨N, hN⟩ : ∃ N, numOf t.data.toList = N := ⟨_, rfl⟩
    rw [hN] at cv hlv HV
    have hN18 : N < 1000000000000000000 := by omega
    clear hN hlv hpw hall he
    by_cases b48 : byt t 0 = 48
    case pos =>
      rw [b48] at hb0
      by_cases s1 : 1 < t.size
      case pos =>
        have n48 : (t.toList == [48]) = false := by rw [H48.out, decide_eq_false (show ¬ (t.size = 1) by omega)]; rfl
        have hn : NB = false := by rw [HNB.out]; unfold headB; rw [decide_eq_true b48, decide_eq_true s1]; simp
        subst hn
        have hv := HV.out
        rw [if_neg (by simp)] at hv
        subst hv
        clear b48
        go_enter Tryz.func76, Tryz.ntmps76
        go_wp2_with (first | (go_at_call 83; go_must (refine (cc _).mono ?_; rintro e w1 ⟨rfl, rfl⟩)) | (go_at_call 84; go_must (refine (cr _).mono ?_; rintro e w2 ⟨rfl, hb2⟩)))
        go_ret2
        exact ⟨rfl, hb2⟩
      have n48 : (t.toList == [48]) = true := by rw [H48.out, decide_eq_true (show t.size = 1 by omega), b48]; rfl
      have hn : NB = true := by rw [HNB.out, hdg]; unfold headB; rw [decide_eq_false s0, decide_eq_false s18, decide_eq_false s1]; simp
      subst hn
      have hv := HV.out
      rw [if_pos rfl, if_neg (by simp)] at hv
      have HV2 : Hid (NV = 1 * (N : Int)) := hv
      clear hv b48
      go_enter Tryz.func76, Tryz.ntmps76
      go_wp2_with (first | (go_at_call 83; go_must (refine (cc _).mono ?_; rintro e w1 ⟨rfl, rfl⟩)) | (go_at_call 84; go_must (refine (cr _).mono ?_; rintro e w2 ⟨rfl, hb2⟩)) | (go_at_call 86; go_must (refine (cv _).mono ?_; rintro e w3 ⟨rfl, hb3⟩)))
      go_ret2
      exact ⟨by rw [HV2.out]; simp, good_below hb2 hb3⟩
    have q48 : ((byt t 0 : Int) == 48) = false := by rw [beq_eq_false_iff_ne]; omega
    have hn : NB = true := by rw [HNB.out, hdg]; unfold headB; rw [decide_eq_false s0, decide_eq_false s18, decide_eq_false b48]; rfl
    subst hn
    have hv := HV.out
    rw [if_pos rfl, if_neg (by simp)] at hv
    have HV2 : Hid (NV = 1 * (N : Int)) := hv
    obtain ⟨c, hc⟩ : ∃ c, byt t 0 = c := ⟨_, rfl⟩
    rw [hc] at hb0 q48
    clear hv hc b48
    go_enter Tryz.func76, Tryz.ntmps76
    go_wp2_with (first | (go_at_call 83; go_must (refine (cc _).mono ?_; rintro e w1 ⟨rfl, rfl⟩)) | (go_at_call 84; go_must (refine (cr _).mono ?_; rintro e w2 ⟨rfl, hb2⟩)) | (go_at_call 86; go_must (refine (cv _).mono ?_; rintro e w3 ⟨rfl, hb3⟩)))
    go_ret2
    exact ⟨by rw [HV2.out]; simp, good_below hb2 hb3⟩
end Go.Proofs.YthopmdfichfhdaaGreatDoor
