/-
  Numbers as the document reads them; the contract of spec.l00Number. Spans as the document reads them; the contract of spec.l08Span. What a text is by a rule; the contract of spec.l08Fit. What spec's Watch answers: its walk. Right rules; the contracts of spec.l08Rules and l08Rule. Contracts of the library. No statement of the seat is proved here.
-/
import Derived.Test.YtphocibgfdihoaaGreatDoorJ7
import Derived.Deep.Cut
import Derived.Deep.CutRange
namespace Go.Proofs.YtphocibgfdihoaaGreatDoor
open Go.ChangeShapes Go.WideShapes Go.ChangeAt Go.RowKit
set_option linter.unusedVariables false
set_option linter.unusedSimpArgs false

def numOf (l : List UInt8) : Nat := l.foldl (fun n b => n * 10 + (b.toNat - 48)) 0
theorem numOf_succ (d : ByteArray) (k : Nat) (h : k < d.size) : numOf (d.data.toList.take (k + 1)) = numOf (d.data.toList.take k) * 10 + (byt d k - 48) := by
  have hl : k < d.data.toList.length := by simpa using h
  unfold numOf
  rw [List.take_succ_eq_append_getElem hl, List.foldl_append]
  simp only [List.foldl_cons, List.foldl_nil]
  have : (d.data.toList[k]).toNat = byt d k := by
    rw [← byt_eq d k h]; rfl
  rw [this]
theorem numOf_lt (d : ByteArray) (k : Nat) (hd : ∀ i, i < k → 48 ≤ byt d i ∧ byt d i ≤ 57) (h : k ≤ d.size) : numOf (d.data.toList.take k) < 10 ^ k := by
  induction k with
  | zero => simp [numOf]
  | succ k ih =>
    rw [numOf_succ d k (by omega), Nat.pow_succ]
    have := ih (fun i hi => hd i (by omega)) (by omega)
    have := hd k (by omega)
    omega
def digsB (d : ByteArray) : Bool := (List.range d.size).all fun i => decide (48 ≤ byt d i) && decide (byt d i ≤ 57)
def negB (t : ByteArray) : Bool := decide (0 < t.size) && decide (byt t 0 = 45)
def absT (t : ByteArray) : ByteArray := if negB t then t.extract 1 t.size else t
def headB (d : ByteArray) (neg : Bool) : Bool := decide (d.size = 0) || decide (18 < d.size) || (decide (byt d 0 = 48) && (decide (1 < d.size) || neg))
def numB (t : ByteArray) : Bool := !headB (absT t) (negB t) && digsB (absT t)
def numV (t : ByteArray) : Int := if numB t then (if negB t then -1 else 1) * (numOf (absT t).data.toList : Int) else 0
theorem digs_no {d : ByteArray} {k : Nat} (hk : k < d.size) (h : ¬ (48 ≤ byt d k ∧ byt d k ≤ 57)) : digsB d = false := by
  unfold digsB
  rw [List.all_eq_false]
  exact ⟨k, List.mem_range.2 hk, by simpa using h⟩
theorem digs_yes {d : ByteArray} (h : ∀ i, i < d.size → 48 ≤ byt d i ∧ byt d i ≤ 57) : digsB d = true := by
  unfold digsB
  rw [List.all_eq_true]
  intro i hi
  simpa using h i (List.mem_range.1 hi)
set_option maxRecDepth 100000 in
set_option maxHeartbeats 2000000 in
theorem specNumber (t : ByteArray) (ht : t.size ≤ 1048576) (w : World) :
    Calls Tryz.prog 46 #[.string t] w fun e w' => e = .returned (.tuple #[.int .i64 (numV t), .bool (numB t)]) ∧ w' = w := by
  have hbt := fun h => byt_eq t 0 h
  have hts : (t.size : Int) ≤ 1048576 := by omega
  have hda : (absT t).size ≤ 1048576 := by
    unfold absT; split
    · rw [ByteArray.size_extract]; omega
    · exact ht
  have hval : numV t = if numB t then (if negB t then -1 else 1) * (numOf (absT t).data.toList : Int) else 0 := rfl
  have hnb : numB t = (!headB (absT t) (negB t) && digsB (absT t)) := rfl
  have hneg : negB t = (decide (0 < t.size) && decide (byt t 0 = 45)) := rfl
  have habs : absT t = if negB t then t.extract 1 t.size else t := rfl
  obtain ⟨NV, hNV⟩ : ∃ NV, numV t = NV := ⟨_, rfl⟩
  obtain ⟨NB, hNB⟩ : ∃ NB, numB t = NB := ⟨_, rfl⟩
  obtain ⟨d, hd⟩ : ∃ d, absT t = d := ⟨_, rfl⟩
  obtain ⟨ng, hng⟩ : ∃ ng, negB t = ng := ⟨_, rfl⟩
  rw [hNV, hNB, hng, hd] at hval
  rw [hNB, hd, hng] at hnb
  rw [hng] at hneg habs
  rw [hd] at habs hda
  rw [hNV, hNB]
  have HV : Hid (NV = if NB = true then (if ng = true then -1 else 1) * (numOf d.data.toList : Int) else 0) := hval
  have HNB : Hid (NB = (!headB d ng && digsB d)) := hnb
  have HNG : Hid (ng = (decide (0 < t.size) && decide (byt t 0 = 45))) := hneg
  have HAB : Hid (d = if ng = true then t.extract 1 t.size else t) := habs
  clear hNV hNB hd hng hval hnb hneg habs
  cases ng
  case true =>
    have hn := HNG.out
    obtain ⟨h0, h45⟩ : 0 < t.size ∧ byt t 0 = 45 := by simpa using hn.symm
    have h0' : (0 : Int) < (t.size : Int) := by omega
    have hb45 := hbt h0
    rw [h45] at hb45
    have hab0 := HAB.out
    rw [if_pos rfl] at hab0
    have HAB2 : Hid (d = t.extract 1 t.size) := hab0
    clear hab0 HAB
    have hlo : (1 : Int) ≤ (t.size : Int) := by omega
    clear hbt hn
    go_enter Tryz.func46, Tryz.ntmps46
    go_upto_region 5 with fail
    rw [← HAB2.out]
    go_cut [38] from 17 to 39 (fun s38 wx => s38 = .bool (headB d true) ∧ wx = w)
    case first =>
      have HH : Hid (headB d true = (decide (d.size = 0) || decide (18 < d.size) || (decide (byt d 0 = 48) && (decide (1 < d.size) || true)))) := (show headB d true = (decide (d.size = 0) || decide (18 < d.size) || (decide (byt d 0 = 48) && (decide (1 < d.size) || true))) from rfl)
      by_cases s0 : d.size = 0
      · have s0' : ((d.size : Int) == 0) = true := by rw [beq_iff_eq]; omega
        have e := HH.out
        rw [decide_eq_true s0] at e
        simp only [Bool.true_or] at e
        have HE : Hid (headB d true = true) := e
        clear e
        go_wp2_with fail
        go_meet
        exact ⟨by rw [HE.out], rfl⟩
      have s0' : ((d.size : Int) == 0) = false := by rw [beq_eq_false_iff_ne]; omega
      by_cases s18 : 18 < d.size
      · have s18' : (18 : Int) < (d.size : Int) := by omega
        have e := HH.out
        rw [decide_eq_true s18] at e
        simp only [Bool.true_or, Bool.or_true] at e
        have HE : Hid (headB d true = true) := e
        clear e
        go_wp2_with fail
        go_meet
        exact ⟨by rw [HE.out], rfl⟩
      have s18' : ¬ ((18 : Int) < (d.size : Int)) := by omega
      have hpos : (0 : Int) < (d.size : Int) := by omega
      have hb0 := byt_eq d 0 (by omega)
      by_cases b48 : byt d 0 = 48
      · rw [b48] at hb0
        by_cases s1 : 1 < d.size
        · have s1' : (1 : Int) < (d.size : Int) := by omega
          have e := HH.out
          rw [decide_eq_true b48, decide_eq_true s1] at e
          simp only [Bool.true_or, Bool.or_true, Bool.true_and] at e
          have HE : Hid (headB d true = true) := e
          clear e
          go_wp2_with fail
          go_meet
          exact ⟨by rw [HE.out], rfl⟩
        · have s1' : ¬ ((1 : Int) < (d.size : Int)) := by omega
          have e := HH.out
          rw [decide_eq_true b48, decide_eq_false s1, decide_eq_false s0, decide_eq_false s18] at e
          simp only [Bool.or_false, Bool.false_or, Bool.true_and] at e
          have HE : Hid (headB d true = true) := e
          clear e
          go_wp2_with fail
          go_meet
          exact ⟨by rw [HE.out], rfl⟩
      · have q48 : ((byt d 0 : Int) == 48) = false := by rw [beq_eq_false_iff_ne]; omega
        have e := HH.out
        rw [decide_eq_false b48, decide_eq_false s0, decide_eq_false s18] at e
        simp only [Bool.or_false, Bool.false_or, Bool.false_and] at e
        have HE : Hid (headB d true = false) := e
        obtain ⟨c, hc⟩ : ∃ c, byt d 0 = c := ⟨_, rfl⟩
        rw [hc] at hb0 q48
        clear hc
        clear e b48
        go_wp2_with fail
        go_meet
        exact ⟨by rw [HE.out], rfl⟩
    case rest =>
      obtain ⟨rfl, rfl⟩ := hcut
      obtain ⟨W, hW⟩ : ∃ W, W = wc := ⟨_, rfl⟩
      subst hW
      cases hh : headB d true
      case true =>
        have hn := HNB.out
        rw [hh] at hn
        simp only [Bool.not_true, Bool.false_and] at hn
        subst hn
        have hv := HV.out
        rw [if_neg (by simp)] at hv
        subst hv
        go_wp2_with fail
        go_ret2
        exact ⟨rfl, rfl⟩
      case false =>
      have hn := HNB.out
      rw [hh] at hn
      simp only [Bool.not_false, Bool.true_and] at hn
      have HN2 : Hid (NB = digsB d) := hn
      have h18 : 1 ≤ d.size ∧ d.size ≤ 18 := by
        unfold headB at hh
        simp only [Bool.or_eq_false_iff, decide_eq_false_iff_not] at hh
        omega
      clear hn hh
      go_wp2_with fail
      go_loopw [5, 6] (fun i5 i6 wr => ∃ k : Nat, k ≤ d.size ∧ i6 = .int .i64 (k : Int) ∧ i5 = .int .i64 ((numOf (d.data.toList.take k) : Nat) : Int) ∧ (∀ i, i < k → 48 ≤ byt d i ∧ byt d i ≤ 57) ∧ wr = W) (fun _ i6 _ => d.size - (intOf i6).toNat)
      case atStart => exact ⟨0, by omega, rfl, rfl, fun i hi => by omega, rfl⟩
      case round =>
        obtain ⟨k, hk, rfl, rfl, hdg, rfl⟩ := hrel
        have HDG : Hid (∀ i, i < k → 48 ≤ byt d i ∧ byt d i ≤ 57) := hdg
        have hlt := numOf_lt d k hdg hk
        clear hdg
        by_cases hkn : k < d.size
        · have hkn' : (k : Int) < (d.size : Int) := by omega
          have hbk := byt_eq d k hkn
          have hsu := numOf_succ d k hkn
          have hpw : 10 ^ k ≤ 10 ^ 17 := Nat.pow_le_pow_right (by omega) (by omega)
          have hno := digs_no hkn
          have hst : 48 ≤ byt d k ∧ byt d k ≤ 57 → ∀ i, i < k + 1 → 48 ≤ byt d i ∧ byt d i ≤ 57 := fun h0 i hi => by
            by_cases e : i = k
            · subst e; exact h0
            · exact HDG.out i (by omega)
          obtain ⟨c, hc⟩ : ∃ c, byt d k = c := ⟨_, rfl⟩
          obtain ⟨n, hn⟩ : ∃ n, numOf (d.data.toList.take k) = n := ⟨_, rfl⟩
          obtain ⟨m, hm⟩ : ∃ m, numOf (d.data.toList.take (k + 1)) = m := ⟨_, rfl⟩
          have HM : Hid (numOf (d.data.toList.take (k + 1)) = m) := hm
          rw [hc] at hbk hsu hno hst
          rw [hn] at hlt hsu ⊢
          rw [hm] at hsu
          have HST : Hid (48 ≤ c ∧ c ≤ 57 → ∀ i, i < k + 1 → 48 ≤ byt d i ∧ byt d i ≤ 57) := hst
          have HNO : Hid (¬ (48 ≤ c ∧ c ≤ 57) → digsB d = false) := hno
          have HSU : Hid (m = n * 10 + (c - 48)) := hsu
          have hn17 : n < 100000000000000000 := by omega
          clear hm hn hc hlt hpw hno hst hsu
          by_cases c1 : c < 48
          · have c1' : (c : Int) < 48 := by omega
            have hf := HNO.out (by omega)
            have h1 := HN2.out
            rw [hf] at h1
            subst h1
            have hv := HV.out
            rw [if_neg (by simp)] at hv
            subst hv
            go_wp2_with fail
            go_ret2
            exact ⟨rfl, rfl⟩
          by_cases c2 : 57 < c
          · have c1' : ¬ ((c : Int) < 48) := by omega
            have c2' : (57 : Int) < (c : Int) := by omega
            have hf := HNO.out (by omega)
            have h1 := HN2.out
            rw [hf] at h1
            subst h1
            have hv := HV.out
            rw [if_neg (by simp)] at hv
            subst hv
            go_wp2_with fail
            go_ret2
            exact ⟨rfl, rfl⟩
          have c1' : ¬ ((c : Int) < 48) := by omega
          have c2' : ¬ ((57 : Int) < (c : Int)) := by omega
          go_wp2_with fail
          exact ⟨⟨k + 1, by omega, by go_num, by rw [HM.out, HSU.out]; congr 1; omega, HST.out ⟨by omega, by omega⟩, by trivial⟩, by simp [intOf]; omega⟩
        · obtain rfl : k = d.size := by omega
          have hkn' : ¬ ((d.size : Int) < (d.size : Int)) := by omega
          have hy := digs_yes HDG.out
          have h1 := HN2.out
          rw [hy] at h1
          subst h1
          have hv := HV.out
          simp only [↓reduceIte, Bool.false_eq_true] at hv
          have htk : numOf (d.data.toList.take d.size) = numOf d.data.toList := by rw [List.take_of_length_le (by simp)]
          rw [htk] at hlt ⊢
          have hpw : 10 ^ d.size ≤ 10 ^ 18 := Nat.pow_le_pow_right (by omega) (by omega)
          obtain ⟨N, hN⟩ : ∃ N, numOf d.data.toList = N := ⟨_, rfl⟩
          rw [hN] at hv hlt ⊢
          have hN18 : N < 1000000000000000000 := by omega
          clear hN hlt hpw htk
          have HV2 : Hid (NV = (-1) * (N : Int)) := hv
          clear hv
          go_wp2_with fail
          go_ret2
          exact ⟨by rw [HV2.out]; simp, rfl⟩
  case false =>
    have hab := HAB.out
    rw [if_neg (by simp)] at hab
    subst hab
    have hn := HNG.out
    by_cases h0 : 0 < d.size
    case neg =>
      have h0' : ¬ ((0 : Int) < (d.size : Int)) := by omega
      clear hbt hn
      have hz : ((d.size : Int) == 0) = true := by rw [beq_iff_eq]; omega
      have hd0 : d.size = 0 := by omega
      have h1 := HNB.out
      unfold headB at h1
      rw [decide_eq_true hd0] at h1
      simp only [Bool.true_or, Bool.not_true, Bool.false_and] at h1
      subst h1
      have hv := HV.out
      rw [if_neg (by simp)] at hv
      subst hv
      clear hd0
      go_enter Tryz.func46, Tryz.ntmps46
      go_wp2_with fail
      go_ret2
      exact ⟨rfl, rfl⟩
    have h0' : (0 : Int) < (d.size : Int) := by omega
    have hb45 := hbt h0
    have hne : byt d 0 ≠ 45 := fun e => by rw [decide_eq_true h0, decide_eq_true e] at hn; cases hn
    have q45 : ((byt d 0 : Int) == 45) = false := by rw [beq_eq_false_iff_ne]; omega
    obtain ⟨c45, hc45⟩ : ∃ c, byt d 0 = c := ⟨_, rfl⟩
    rw [hc45] at hb45 q45
    have HC45 : Hid (byt d 0 = c45) := hc45
    clear hbt hn hne hc45
    go_enter Tryz.func46, Tryz.ntmps46
    go_upto_region 5 with fail
    go_cut [38] from 17 to 39 (fun s38 wx => s38 = .bool (headB d false) ∧ wx = w)
    case first =>
      have HH : Hid (headB d false = (decide (d.size = 0) || decide (18 < d.size) || (decide (byt d 0 = 48) && (decide (1 < d.size) || false)))) := (show headB d false = (decide (d.size = 0) || decide (18 < d.size) || (decide (byt d 0 = 48) && (decide (1 < d.size) || false))) from rfl)
      by_cases s0 : d.size = 0
      · have s0' : ((d.size : Int) == 0) = true := by rw [beq_iff_eq]; omega
        have e := HH.out
        rw [decide_eq_true s0] at e
        simp only [Bool.true_or] at e
        have HE : Hid (headB d false = true) := e
        clear e
        go_wp2_with fail
        go_meet
        exact ⟨by rw [HE.out], rfl⟩
      have s0' : ((d.size : Int) == 0) = false := by rw [beq_eq_false_iff_ne]; omega
      by_cases s18 : 18 < d.size
      · have s18' : (18 : Int) < (d.size : Int) := by omega
        have e := HH.out
        rw [decide_eq_true s18] at e
        simp only [Bool.true_or, Bool.or_true] at e
        have HE : Hid (headB d false = true) := e
        clear e
        go_wp2_with fail
        go_meet
        exact ⟨by rw [HE.out], rfl⟩
      have s18' : ¬ ((18 : Int) < (d.size : Int)) := by omega
      have hpos : (0 : Int) < (d.size : Int) := by omega
      by_cases b48 : byt d 0 = 48
      · have e48 : c45 = 48 := HC45.out.symm.trans b48
        subst e48
        by_cases s1 : 1 < d.size
        · have s1' : (1 : Int) < (d.size : Int) := by omega
          have e := HH.out
          rw [decide_eq_true b48, decide_eq_true s1] at e
          simp only [Bool.true_or, Bool.or_true, Bool.true_and] at e
          have HE : Hid (headB d false = true) := e
          clear e
          go_wp2_with fail
          go_meet
          exact ⟨by rw [HE.out], rfl⟩
        · have s1' : ¬ ((1 : Int) < (d.size : Int)) := by omega
          have e := HH.out
          rw [decide_eq_true b48, decide_eq_false s1, decide_eq_false s0, decide_eq_false s18] at e
          simp only [Bool.or_false, Bool.false_or, Bool.true_and] at e
          have HE : Hid (headB d false = false) := e
          clear e
          go_wp2_with fail
          go_meet
          exact ⟨by rw [HE.out], rfl⟩
      · have q48 : ((c45 : Int) == 48) = false := by have := HC45.out; rw [beq_eq_false_iff_ne]; omega
        have e := HH.out
        rw [decide_eq_false b48, decide_eq_false s0, decide_eq_false s18] at e
        simp only [Bool.or_false, Bool.false_or, Bool.false_and] at e
        have HE : Hid (headB d false = false) := e
        clear e b48
        go_wp2_with fail
        go_meet
        exact ⟨by rw [HE.out], rfl⟩
    case rest =>
      obtain ⟨rfl, rfl⟩ := hcut
      obtain ⟨W, hW⟩ : ∃ W, W = wc := ⟨_, rfl⟩
      subst hW
      cases hh : headB d false
      case true =>
        have hn := HNB.out
        rw [hh] at hn
        simp only [Bool.not_true, Bool.false_and] at hn
        subst hn
        have hv := HV.out
        rw [if_neg (by simp)] at hv
        subst hv
        go_wp2_with fail
        go_ret2
        exact ⟨rfl, rfl⟩
      case false =>
      have hn := HNB.out
      rw [hh] at hn
      simp only [Bool.not_false, Bool.true_and] at hn
      have HN2 : Hid (NB = digsB d) := hn
      have h18 : 1 ≤ d.size ∧ d.size ≤ 18 := by
        unfold headB at hh
        simp only [Bool.or_eq_false_iff, decide_eq_false_iff_not] at hh
        omega
      clear hn hh
      go_wp2_with fail
      go_loopw [5, 6] (fun i5 i6 wr => ∃ k : Nat, k ≤ d.size ∧ i6 = .int .i64 (k : Int) ∧ i5 = .int .i64 ((numOf (d.data.toList.take k) : Nat) : Int) ∧ (∀ i, i < k → 48 ≤ byt d i ∧ byt d i ≤ 57) ∧ wr = W) (fun _ i6 _ => d.size - (intOf i6).toNat)
      case atStart => exact ⟨0, by omega, rfl, rfl, fun i hi => by omega, rfl⟩
      case round =>
        obtain ⟨k, hk, rfl, rfl, hdg, rfl⟩ := hrel
        have HDG : Hid (∀ i, i < k → 48 ≤ byt d i ∧ byt d i ≤ 57) := hdg
        have hlt := numOf_lt d k hdg hk
        clear hdg
        by_cases hkn : k < d.size
        · have hkn' : (k : Int) < (d.size : Int) := by omega
          have hbk := byt_eq d k hkn
          have hsu := numOf_succ d k hkn
          have hpw : 10 ^ k ≤ 10 ^ 17 := Nat.pow_le_pow_right (by omega) (by omega)
          have hno := digs_no hkn
          have hst : 48 ≤ byt d k ∧ byt d k ≤ 57 → ∀ i, i < k + 1 → 48 ≤ byt d i ∧ byt d i ≤ 57 := fun h0 i hi => by
            by_cases e : i = k
            · subst e; exact h0
            · exact HDG.out i (by omega)
          obtain ⟨c, hc⟩ : ∃ c, byt d k = c := ⟨_, rfl⟩
          obtain ⟨n, hn⟩ : ∃ n, numOf (d.data.toList.take k) = n := ⟨_, rfl⟩
          obtain ⟨m, hm⟩ : ∃ m, numOf (d.data.toList.take (k + 1)) = m := ⟨_, rfl⟩
          have HM : Hid (numOf (d.data.toList.take (k + 1)) = m) := hm
          rw [hc] at hbk hsu hno hst
          rw [hn] at hlt hsu ⊢
          rw [hm] at hsu
          have HST : Hid (48 ≤ c ∧ c ≤ 57 → ∀ i, i < k + 1 → 48 ≤ byt d i ∧ byt d i ≤ 57) := hst
          have HNO : Hid (¬ (48 ≤ c ∧ c ≤ 57) → digsB d = false) := hno
          have HSU : Hid (m = n * 10 + (c - 48)) := hsu
          have hn17 : n < 100000000000000000 := by omega
          clear hm hn hc hlt hpw hno hst hsu
          by_cases c1 : c < 48
          · have c1' : (c : Int) < 48 := by omega
            have hf := HNO.out (by omega)
            have h1 := HN2.out
            rw [hf] at h1
            subst h1
            have hv := HV.out
            rw [if_neg (by simp)] at hv
            subst hv
            go_wp2_with fail
            go_ret2
            exact ⟨rfl, rfl⟩
          by_cases c2 : 57 < c
          · have c1' : ¬ ((c : Int) < 48) := by omega
            have c2' : (57 : Int) < (c : Int) := by omega
            have hf := HNO.out (by omega)
            have h1 := HN2.out
            rw [hf] at h1
            subst h1
            have hv := HV.out
            rw [if_neg (by simp)] at hv
            subst hv
            go_wp2_with fail
            go_ret2
            exact ⟨rfl, rfl⟩
          have c1' : ¬ ((c : Int) < 48) := by omega
          have c2' : ¬ ((57 : Int) < (c : Int)) := by omega
          go_wp2_with fail
          exact ⟨⟨k + 1, by omega, by go_num, by rw [HM.out, HSU.out]; congr 1; omega, HST.out ⟨by omega, by omega⟩, by trivial⟩, by simp [intOf]; omega⟩
        · obtain rfl : k = d.size := by omega
          have hkn' : ¬ ((d.size : Int) < (d.size : Int)) := by omega
          have hy := digs_yes HDG.out
          have h1 := HN2.out
          rw [hy] at h1
          subst h1
          have hv := HV.out
          simp only [↓reduceIte, Bool.false_eq_true] at hv
          have htk : numOf (d.data.toList.take d.size) = numOf d.data.toList := by rw [List.take_of_length_le (by simp)]
          rw [htk] at hlt ⊢
          have hpw : 10 ^ d.size ≤ 10 ^ 18 := Nat.pow_le_pow_right (by omega) (by omega)
          obtain ⟨N, hN⟩ : ∃ N, numOf d.data.toList = N := ⟨_, rfl⟩
          rw [hN] at hv hlt ⊢
          have hN18 : N < 1000000000000000000 := by omega
          clear hN hlt hpw htk
          have HV2 : Hid (NV = 1 * (N : Int)) := hv
          clear hv
          go_wp2_with fail
          go_ret2
          exact ⟨by rw [HV2.out]; simp, rfl⟩
end Go.Proofs.YtphocibgfdihoaaGreatDoor

namespace Go.Proofs.YtphocibgfdihoaaGreatDoor
open Go.ChangeShapes Go.WideShapes Go.ChangeAt Go.RowKit
set_option linter.unusedVariables false
set_option linter.unusedSimpArgs false

def uT : Nat → ByteArray
  | 0 => ⟨#[109, 115]⟩
  | 1 => ⟨#[115]⟩
  | 2 => ⟨#[109]⟩
  | _ => ⟨#[104]⟩
def mT : Nat → Nat
  | 0 => 1
  | 1 => 1000
  | 2 => 60000
  | _ => 3600000
def uL : Nat → List UInt8
  | 0 => [109, 115]
  | 1 => [115]
  | 2 => [109]
  | _ => [104]
/-- What a text is as a span of the i-th unit. -/
def spanAt (t : ByteArray) (i : Nat) : Option Int :=
  if decide ((uT i).size < t.size) && ((t.extract (t.size - (uT i).size) t.size).toList == uL i) then
    (if numB (t.extract 0 (t.size - (uT i).size)) && decide (0 ≤ numV (t.extract 0 (t.size - (uT i).size))) && decide (numV (t.extract 0 (t.size - (uT i).size)) ≤ ((999999999999999999 / mT i : Nat) : Int))
      then some (numV (t.extract 0 (t.size - (uT i).size)) * (mT i : Int)) else none)
  else none
def spanO (t : ByteArray) : Option Int := (List.range 4).findSome? (spanAt t)
def spanV (t : ByteArray) : Int := (spanO t).getD 0
def spanB (t : ByteArray) : Bool := (spanO t).isSome
theorem span_hit {t : ByteArray} {k : Nat} {v : Int} (hk : k < 4) (h : ∀ i, i < k → spanAt t i = none) (hv : spanAt t k = some v) : spanO t = some v := by
  unfold spanO
  rw [List.findSome?_eq_some_iff]
  refine ⟨List.range k, k, (List.range' (k + 1) (3 - k)), ?_, hv, fun x hx => h x (List.mem_range.1 hx)⟩
  have : k = 0 ∨ k = 1 ∨ k = 2 ∨ k = 3 := by omega
  rcases this with rfl | rfl | rfl | rfl <;> rfl
theorem span_miss {t : ByteArray} (h : ∀ i, i < 4 → spanAt t i = none) : spanO t = none := by
  unfold spanO
  rw [List.findSome?_eq_none_iff]
  exact fun x hx => h x (List.mem_range.1 hx)
theorem uT_size (i : Nat) : 1 ≤ (uT i).size ∧ (uT i).size ≤ 2 := by
  unfold uT; split <;> decide
theorem mT_size (i : Nat) : 1 ≤ mT i ∧ mT i ≤ 3600000 := by
  unfold mT; split <;> decide
set_option maxRecDepth 100000 in
set_option maxHeartbeats 2000000 in
theorem specSpan (t : ByteArray) (ht : t.size ≤ 1048576) (w : World) :
    Calls Tryz.prog 47 #[.string t] w fun e w' => e = .returned (.tuple #[.int .i64 (spanV t), .bool (spanB t)]) ∧ Below w.heap.size w w' := by
  have hts : (t.size : Int) ≤ 1048576 := by omega
  have hU : ∀ W0, W0 = ((w.alloc (.cells #[.string ⟨#[109, 115]⟩, .string ⟨#[115]⟩, .string ⟨#[109]⟩, .string ⟨#[104]⟩] 9)).alloc (.cells #[.int .i64 1, .int .i64 1000, .int .i64 60000, .int .i64 3600000] 3)) →
      Blk W0 w.heap.size 9 #[.string ⟨#[109, 115]⟩, .string ⟨#[115]⟩, .string ⟨#[109]⟩, .string ⟨#[104]⟩] ∧ Blk W0 (w.heap.size + 1) 3 #[.int .i64 1, .int .i64 1000, .int .i64 60000, .int .i64 3600000] ∧ Below w.heap.size w W0 := by
    rintro W0 rfl
    have h1 : Blk (w.alloc (.cells #[.string ⟨#[109, 115]⟩, .string ⟨#[115]⟩, .string ⟨#[109]⟩, .string ⟨#[104]⟩] 9)) w.heap.size 9 #[.string ⟨#[109, 115]⟩, .string ⟨#[115]⟩, .string ⟨#[109]⟩, .string ⟨#[104]⟩] := heap_alloc_last w _
    refine ⟨Blk.below h1 ((Below.refl _ _).alloc (Nat.le_refl _) _), ?_, ((Below.refl _ w).alloc (Nat.le_refl _) _).alloc (by simp) _⟩
    have h2 := heap_alloc_last (w.alloc (.cells #[.string ⟨#[109, 115]⟩, .string ⟨#[115]⟩, .string ⟨#[109]⟩, .string ⟨#[104]⟩] 9)) (.cells #[.int .i64 1, .int .i64 1000, .int .i64 60000, .int .i64 3600000] 3)
    rwa [World.size_alloc] at h2
  have cN := fun (p : ByteArray) (hp : p.size ≤ 1048576) (w : World) => specNumber p hp w
  have HCN : Hid (∀ (p : ByteArray) (hp : p.size ≤ 1048576) (w : World), Calls Tryz.prog 46 #[.string p] w fun e w' => e = .returned (.tuple #[.int .i64 (numV p), .bool (numB p)]) ∧ w' = w) := cN
  clear cN
  go_enter Tryz.func47, Tryz.ntmps47
  go_wp2_with fail
  obtain ⟨W0, hW0⟩ : ∃ W0, W0 = ((w.alloc (.cells #[.string ⟨#[109, 115]⟩, .string ⟨#[115]⟩, .string ⟨#[109]⟩, .string ⟨#[104]⟩] 9)).alloc (.cells #[.int .i64 1, .int .i64 1000, .int .i64 60000, .int .i64 3600000] 3)) := ⟨_, rfl⟩
  obtain ⟨k1, k2, k3⟩ := hU W0 hW0
  rw [← hW0]
  clear hU hW0
  obtain ⟨gU, hgU⟩ : ∃ gU, w.heap.size = gU := ⟨_, rfl⟩
  rw [hgU] at k1 k2 ⊢
  have K1 : Hid (Blk W0 gU 9 #[.string ⟨#[109, 115]⟩, .string ⟨#[115]⟩, .string ⟨#[109]⟩, .string ⟨#[104]⟩]) := k1
  have K2 : Hid (Blk W0 (gU + 1) 3 #[.int .i64 1, .int .i64 1000, .int .i64 60000, .int .i64 3600000]) := k2
  have K3 : Hid (Below w.heap.size w W0) := k3
  have HG : Hid (w.heap.size = gU) := hgU
  clear k1 k2 k3 hgU
  go_loopw [6] (fun i6 wr => ∃ k : Nat, i6 = .int .i64 (k : Int) ∧ k ≤ 4 ∧ (∀ i, i < k → spanAt t i = none) ∧ Below W0.heap.size W0 wr) (fun i6 _ => 4 - (intOf i6).toNat)
  case atStart => exact ⟨0, rfl, by omega, fun i hi => by omega, Below.refl _ _⟩
  case round =>
    obtain ⟨k, rfl, hk, hno, hb⟩ := hrel
    have HNO : Hid (∀ i, i < k → spanAt t i = none) := hno
    have HB : Hid (Below W0.heap.size W0 wr) := hb
    clear hno
    by_cases hkn : k < 4
    · have hst : spanAt t k = none → ∀ i, i < k + 1 → spanAt t i = none := fun h0 i hi => by
        by_cases e : i = k
        · subst e; exact h0
        · exact HNO.out i (by omega)
      have hhi := fun v hv => span_hit (v := v) hkn HNO.out hv
      have HST : Hid (spanAt t k = none → ∀ i, i < k + 1 → spanAt t i = none) := hst
      have HHI : Hid (∀ v, spanAt t k = some v → spanO t = some v) := hhi
      clear hst hhi hb
      have q1 := Blk.below K1.out HB.out
      have q2 := Blk.below K2.out HB.out
      have hsa : spanAt t k = if decide ((uT k).size < t.size) && ((t.extract (t.size - (uT k).size) t.size).toList == uL k) then (if numB (t.extract 0 (t.size - (uT k).size)) && decide (0 ≤ numV (t.extract 0 (t.size - (uT k).size))) && decide (numV (t.extract 0 (t.size - (uT k).size)) ≤ ((999999999999999999 / mT k : Nat) : Int)) then some (numV (t.extract 0 (t.size - (uT k).size)) * (mT k : Int)) else none) else none := rfl
      have e4 : k = 0 ∨ k = 1 ∨ k = 2 ∨ k = 3 := by omega
      rcases e4 with rfl | rfl | rfl | rfl
      · have c1 := q1.cell 0
        have c2 := q2.cell 0
        simp at c1 c2
        have hsz : (⟨#[109, 115]⟩ : ByteArray).size = 2 := rfl
        simp only [show uT 0 = ⟨#[109, 115]⟩ from rfl, show uL 0 = [109, 115] from rfl, show mT 0 = 1 from rfl, hsz] at hsa
        have HSA : Hid (spanAt t 0 = if decide (2 < t.size) && ((t.extract (t.size - 2) t.size).toList == ([109, 115] : List UInt8)) then (if numB (t.extract 0 (t.size - 2)) && decide (0 ≤ numV (t.extract 0 (t.size - 2))) && decide (numV (t.extract 0 (t.size - 2)) ≤ ((999999999999999999 / 1 : Nat) : Int)) then some (numV (t.extract 0 (t.size - 2)) * ((1 : Nat) : Int)) else none) else none) := hsa
        clear hsa q1 q2
        by_cases hlt : 2 < t.size
        case neg =>
          have hle : (t.size : Int) - 2 ≤ 0 := by omega
          have hn := HSA.out
          rw [decide_eq_false hlt] at hn
          simp only [Bool.false_and, Bool.false_eq_true, ↓reduceIte] at hn
          have HN : Hid (spanAt t 0 = none) := hn
          clear hn
          go_upto_region 7 with fail
          go_quiet (fail)
          go_wp2_with fail
          exact ⟨⟨0 + 1, by go_num, by omega, HST.out HN.out, bel_drewN HB.out nq⟩, by simp [intOf]⟩
        obtain ⟨kk, hkk⟩ : ∃ kk, t.size - 2 = kk := ⟨_, rfl⟩
        have ek : (t.size : Int) - 2 = (kk : Int) := by omega
        have hkp : ¬ (kk = 0) := by omega
        have hkt : (kk : Int) ≤ (t.size : Int) := by omega
        have hkt' : kk ≤ t.size := by omega
        have hsa2 := HSA.out
        rw [hkk, decide_eq_true hlt] at hsa2
        simp only [Bool.true_and] at hsa2
        have HS2 : Hid (spanAt t 0 = if ((t.extract kk t.size).toList == ([109, 115] : List UInt8)) = true then (if (numB (t.extract 0 kk) && decide (0 ≤ numV (t.extract 0 kk)) && decide (numV (t.extract 0 kk) ≤ ((999999999999999999 / 1 : Nat) : Int))) = true then some (numV (t.extract 0 kk) * ((1 : Nat) : Int)) else none) else none) := hsa2
        clear hsa2 HSA hkk
        cases hq : ((t.extract kk t.size).toList == ([109, 115] : List UInt8))
        case false =>
          have hn := HS2.out
          rw [hq, if_neg (by simp)] at hn
          have HN : Hid (spanAt t 0 = none) := hn
          clear hn
          go_upto_region 7 with fail
          go_quiet (fail)
          go_wp2_with fail
          exact ⟨⟨0 + 1, by go_num, by omega, HST.out HN.out, bel_drewN HB.out nq⟩, by simp [intOf]⟩
        have hs3 := HS2.out
        rw [hq, if_pos rfl] at hs3
        have cn := fun w => HCN.out (t.extract 0 kk) (by rw [ByteArray.size_extract]; omega) w
        obtain ⟨NV, hNV⟩ : ∃ NV, numV (t.extract 0 kk) = NV := ⟨_, rfl⟩
        obtain ⟨NB, hNB⟩ : ∃ NB, numB (t.extract 0 kk) = NB := ⟨_, rfl⟩
        rw [hNV, hNB] at hs3 cn
        have HS3 : Hid (spanAt t 0 = if (NB && decide (0 ≤ NV) && decide (NV ≤ ((999999999999999999 / 1 : Nat) : Int))) = true then some (NV * ((1 : Nat) : Int)) else none) := hs3
        clear hs3 hNV hNB HS2
        go_upto_region 7 with fail
        go_quiet (fail)
        cases NB
        case false =>
          have hn := HS3.out
          rw [Bool.false_and, Bool.false_and, if_neg (by simp)] at hn
          have HN : Hid (spanAt t 0 = none) := hn
          clear hn
          go_wp2_with (go_at_call 46; go_must (refine (cn _).mono ?_; rintro e w2 ⟨rfl, rfl⟩))
          exact ⟨⟨0 + 1, by go_num, by omega, HST.out HN.out, bel_drewN HB.out nq⟩, by simp [intOf]⟩
        by_cases hv0 : 0 ≤ NV
        case neg =>
          have hn := HS3.out
          rw [decide_eq_false hv0, Bool.and_false, Bool.false_and, if_neg (by simp)] at hn
          have HN : Hid (spanAt t 0 = none) := hn
          clear hn
          go_wp2_with (go_at_call 46; go_must (refine (cn _).mono ?_; rintro e w2 ⟨rfl, rfl⟩))
          exact ⟨⟨0 + 1, by go_num, by omega, HST.out HN.out, bel_drewN HB.out nq⟩, by simp [intOf]⟩
        have hq2 : ((999999999999999999 / 1 : Nat) : Int) = 999999999999999999 := rfl
        by_cases hv1 : NV ≤ 999999999999999999
        case neg =>
          have hn := HS3.out
          rw [hq2, decide_eq_false hv1, Bool.and_false, if_neg (by simp)] at hn
          have HN : Hid (spanAt t 0 = none) := hn
          clear hn hq2
          go_wp2_with (go_at_call 46; go_must (refine (cn _).mono ?_; rintro e w2 ⟨rfl, rfl⟩))
          exact ⟨⟨0 + 1, by go_num, by omega, HST.out HN.out, bel_drewN HB.out nq⟩, by simp [intOf]⟩
        have hn := HS3.out
        rw [hq2, decide_eq_true hv1, decide_eq_true hv0] at hn
        simp only [Bool.and_self, ↓reduceIte] at hn
        have hh := HHI.out _ hn
        have HH : Hid (spanO t = some (NV * ((1 : Nat) : Int))) := hh
        clear hn hq2 hh
        go_wp2_with (go_at_call 46; go_must (refine (cn _).mono ?_; rintro e w2 ⟨rfl, rfl⟩))
        go_ret2
        exact ⟨by unfold spanV spanB; rw [HH.out]; simp, good_below K3.out (bel_drewN HB.out nq)⟩
      · have c1 := q1.cell 1
        have c2 := q2.cell 1
        simp at c1 c2
        have hsz : (⟨#[115]⟩ : ByteArray).size = 1 := rfl
        simp only [show uT 1 = ⟨#[115]⟩ from rfl, show uL 1 = [115] from rfl, show mT 1 = 1000 from rfl, hsz] at hsa
        have HSA : Hid (spanAt t 1 = if decide (1 < t.size) && ((t.extract (t.size - 1) t.size).toList == ([115] : List UInt8)) then (if numB (t.extract 0 (t.size - 1)) && decide (0 ≤ numV (t.extract 0 (t.size - 1))) && decide (numV (t.extract 0 (t.size - 1)) ≤ ((999999999999999999 / 1000 : Nat) : Int)) then some (numV (t.extract 0 (t.size - 1)) * ((1000 : Nat) : Int)) else none) else none) := hsa
        clear hsa q1 q2
        by_cases hlt : 1 < t.size
        case neg =>
          have hle : (t.size : Int) - 1 ≤ 0 := by omega
          have hn := HSA.out
          rw [decide_eq_false hlt] at hn
          simp only [Bool.false_and, Bool.false_eq_true, ↓reduceIte] at hn
          have HN : Hid (spanAt t 1 = none) := hn
          clear hn
          go_upto_region 7 with fail
          go_quiet (fail)
          go_wp2_with fail
          exact ⟨⟨1 + 1, by go_num, by omega, HST.out HN.out, bel_drewN HB.out nq⟩, by simp [intOf]⟩
        obtain ⟨kk, hkk⟩ : ∃ kk, t.size - 1 = kk := ⟨_, rfl⟩
        have ek : (t.size : Int) - 1 = (kk : Int) := by omega
        have hkp : ¬ (kk = 0) := by omega
        have hkt : (kk : Int) ≤ (t.size : Int) := by omega
        have hkt' : kk ≤ t.size := by omega
        have hsa2 := HSA.out
        rw [hkk, decide_eq_true hlt] at hsa2
        simp only [Bool.true_and] at hsa2
        have HS2 : Hid (spanAt t 1 = if ((t.extract kk t.size).toList == ([115] : List UInt8)) = true then (if (numB (t.extract 0 kk) && decide (0 ≤ numV (t.extract 0 kk)) && decide (numV (t.extract 0 kk) ≤ ((999999999999999999 / 1000 : Nat) : Int))) = true then some (numV (t.extract 0 kk) * ((1000 : Nat) : Int)) else none) else none) := hsa2
        clear hsa2 HSA hkk
        cases hq : ((t.extract kk t.size).toList == ([115] : List UInt8))
        case false =>
          have hn := HS2.out
          rw [hq, if_neg (by simp)] at hn
          have HN : Hid (spanAt t 1 = none) := hn
          clear hn
          go_upto_region 7 with fail
          go_quiet (fail)
          go_wp2_with fail
          exact ⟨⟨1 + 1, by go_num, by omega, HST.out HN.out, bel_drewN HB.out nq⟩, by simp [intOf]⟩
        have hs3 := HS2.out
        rw [hq, if_pos rfl] at hs3
        have cn := fun w => HCN.out (t.extract 0 kk) (by rw [ByteArray.size_extract]; omega) w
        obtain ⟨NV, hNV⟩ : ∃ NV, numV (t.extract 0 kk) = NV := ⟨_, rfl⟩
        obtain ⟨NB, hNB⟩ : ∃ NB, numB (t.extract 0 kk) = NB := ⟨_, rfl⟩
        rw [hNV, hNB] at hs3 cn
        have HS3 : Hid (spanAt t 1 = if (NB && decide (0 ≤ NV) && decide (NV ≤ ((999999999999999999 / 1000 : Nat) : Int))) = true then some (NV * ((1000 : Nat) : Int)) else none) := hs3
        clear hs3 hNV hNB HS2
        go_upto_region 7 with fail
        go_quiet (fail)
        cases NB
        case false =>
          have hn := HS3.out
          rw [Bool.false_and, Bool.false_and, if_neg (by simp)] at hn
          have HN : Hid (spanAt t 1 = none) := hn
          clear hn
          go_wp2_with (go_at_call 46; go_must (refine (cn _).mono ?_; rintro e w2 ⟨rfl, rfl⟩))
          exact ⟨⟨1 + 1, by go_num, by omega, HST.out HN.out, bel_drewN HB.out nq⟩, by simp [intOf]⟩
        by_cases hv0 : 0 ≤ NV
        case neg =>
          have hn := HS3.out
          rw [decide_eq_false hv0, Bool.and_false, Bool.false_and, if_neg (by simp)] at hn
          have HN : Hid (spanAt t 1 = none) := hn
          clear hn
          go_wp2_with (go_at_call 46; go_must (refine (cn _).mono ?_; rintro e w2 ⟨rfl, rfl⟩))
          exact ⟨⟨1 + 1, by go_num, by omega, HST.out HN.out, bel_drewN HB.out nq⟩, by simp [intOf]⟩
        have hq2 : ((999999999999999999 / 1000 : Nat) : Int) = 999999999999999 := rfl
        by_cases hv1 : NV ≤ 999999999999999
        case neg =>
          have hn := HS3.out
          rw [hq2, decide_eq_false hv1, Bool.and_false, if_neg (by simp)] at hn
          have HN : Hid (spanAt t 1 = none) := hn
          clear hn hq2
          go_wp2_with (go_at_call 46; go_must (refine (cn _).mono ?_; rintro e w2 ⟨rfl, rfl⟩))
          exact ⟨⟨1 + 1, by go_num, by omega, HST.out HN.out, bel_drewN HB.out nq⟩, by simp [intOf]⟩
        have hn := HS3.out
        rw [hq2, decide_eq_true hv1, decide_eq_true hv0] at hn
        simp only [Bool.and_self, ↓reduceIte] at hn
        have hh := HHI.out _ hn
        have HH : Hid (spanO t = some (NV * ((1000 : Nat) : Int))) := hh
        clear hn hq2 hh
        go_wp2_with (go_at_call 46; go_must (refine (cn _).mono ?_; rintro e w2 ⟨rfl, rfl⟩))
        go_ret2
        exact ⟨by unfold spanV spanB; rw [HH.out]; simp, good_below K3.out (bel_drewN HB.out nq)⟩
      · have c1 := q1.cell 2
        have c2 := q2.cell 2
        simp at c1 c2
        have hsz : (⟨#[109]⟩ : ByteArray).size = 1 := rfl
        simp only [show uT 2 = ⟨#[109]⟩ from rfl, show uL 2 = [109] from rfl, show mT 2 = 60000 from rfl, hsz] at hsa
        have HSA : Hid (spanAt t 2 = if decide (1 < t.size) && ((t.extract (t.size - 1) t.size).toList == ([109] : List UInt8)) then (if numB (t.extract 0 (t.size - 1)) && decide (0 ≤ numV (t.extract 0 (t.size - 1))) && decide (numV (t.extract 0 (t.size - 1)) ≤ ((999999999999999999 / 60000 : Nat) : Int)) then some (numV (t.extract 0 (t.size - 1)) * ((60000 : Nat) : Int)) else none) else none) := hsa
        clear hsa q1 q2
        by_cases hlt : 1 < t.size
        case neg =>
          have hle : (t.size : Int) - 1 ≤ 0 := by omega
          have hn := HSA.out
          rw [decide_eq_false hlt] at hn
          simp only [Bool.false_and, Bool.false_eq_true, ↓reduceIte] at hn
          have HN : Hid (spanAt t 2 = none) := hn
          clear hn
          go_upto_region 7 with fail
          go_quiet (fail)
          go_wp2_with fail
          exact ⟨⟨2 + 1, by go_num, by omega, HST.out HN.out, bel_drewN HB.out nq⟩, by simp [intOf]⟩
        obtain ⟨kk, hkk⟩ : ∃ kk, t.size - 1 = kk := ⟨_, rfl⟩
        have ek : (t.size : Int) - 1 = (kk : Int) := by omega
        have hkp : ¬ (kk = 0) := by omega
        have hkt : (kk : Int) ≤ (t.size : Int) := by omega
        have hkt' : kk ≤ t.size := by omega
        have hsa2 := HSA.out
        rw [hkk, decide_eq_true hlt] at hsa2
        simp only [Bool.true_and] at hsa2
        have HS2 : Hid (spanAt t 2 = if ((t.extract kk t.size).toList == ([109] : List UInt8)) = true then (if (numB (t.extract 0 kk) && decide (0 ≤ numV (t.extract 0 kk)) && decide (numV (t.extract 0 kk) ≤ ((999999999999999999 / 60000 : Nat) : Int))) = true then some (numV (t.extract 0 kk) * ((60000 : Nat) : Int)) else none) else none) := hsa2
        clear hsa2 HSA hkk
        cases hq : ((t.extract kk t.size).toList == ([109] : List UInt8))
        case false =>
          have hn := HS2.out
          rw [hq, if_neg (by simp)] at hn
          have HN : Hid (spanAt t 2 = none) := hn
          clear hn
          go_upto_region 7 with fail
          go_quiet (fail)
          go_wp2_with fail
          exact ⟨⟨2 + 1, by go_num, by omega, HST.out HN.out, bel_drewN HB.out nq⟩, by simp [intOf]⟩
        have hs3 := HS2.out
        rw [hq, if_pos rfl] at hs3
        have cn := fun w => HCN.out (t.extract 0 kk) (by rw [ByteArray.size_extract]; omega) w
        obtain ⟨NV, hNV⟩ : ∃ NV, numV (t.extract 0 kk) = NV := ⟨_, rfl⟩
        obtain ⟨NB, hNB⟩ : ∃ NB, numB (t.extract 0 kk) = NB := ⟨_, rfl⟩
        rw [hNV, hNB] at hs3 cn
        have HS3 : Hid (spanAt t 2 = if (NB && decide (0 ≤ NV) && decide (NV ≤ ((999999999999999999 / 60000 : Nat) : Int))) = true then some (NV * ((60000 : Nat) : Int)) else none) := hs3
        clear hs3 hNV hNB HS2
        go_upto_region 7 with fail
        go_quiet (fail)
        cases NB
        case false =>
          have hn := HS3.out
          rw [Bool.false_and, Bool.false_and, if_neg (by simp)] at hn
          have HN : Hid (spanAt t 2 = none) := hn
          clear hn
          go_wp2_with (go_at_call 46; go_must (refine (cn _).mono ?_; rintro e w2 ⟨rfl, rfl⟩))
          exact ⟨⟨2 + 1, by go_num, by omega, HST.out HN.out, bel_drewN HB.out nq⟩, by simp [intOf]⟩
        by_cases hv0 : 0 ≤ NV
        case neg =>
          have hn := HS3.out
          rw [decide_eq_false hv0, Bool.and_false, Bool.false_and, if_neg (by simp)] at hn
          have HN : Hid (spanAt t 2 = none) := hn
          clear hn
          go_wp2_with (go_at_call 46; go_must (refine (cn _).mono ?_; rintro e w2 ⟨rfl, rfl⟩))
          exact ⟨⟨2 + 1, by go_num, by omega, HST.out HN.out, bel_drewN HB.out nq⟩, by simp [intOf]⟩
        have hq2 : ((999999999999999999 / 60000 : Nat) : Int) = 16666666666666 := rfl
        by_cases hv1 : NV ≤ 16666666666666
        case neg =>
          have hn := HS3.out
          rw [hq2, decide_eq_false hv1, Bool.and_false, if_neg (by simp)] at hn
          have HN : Hid (spanAt t 2 = none) := hn
          clear hn hq2
          go_wp2_with (go_at_call 46; go_must (refine (cn _).mono ?_; rintro e w2 ⟨rfl, rfl⟩))
          exact ⟨⟨2 + 1, by go_num, by omega, HST.out HN.out, bel_drewN HB.out nq⟩, by simp [intOf]⟩
        have hn := HS3.out
        rw [hq2, decide_eq_true hv1, decide_eq_true hv0] at hn
        simp only [Bool.and_self, ↓reduceIte] at hn
        have hh := HHI.out _ hn
        have HH : Hid (spanO t = some (NV * ((60000 : Nat) : Int))) := hh
        clear hn hq2 hh
        go_wp2_with (go_at_call 46; go_must (refine (cn _).mono ?_; rintro e w2 ⟨rfl, rfl⟩))
        go_ret2
        exact ⟨by unfold spanV spanB; rw [HH.out]; simp, good_below K3.out (bel_drewN HB.out nq)⟩
      · have c1 := q1.cell 3
        have c2 := q2.cell 3
        simp at c1 c2
        have hsz : (⟨#[104]⟩ : ByteArray).size = 1 := rfl
        simp only [show uT 3 = ⟨#[104]⟩ from rfl, show uL 3 = [104] from rfl, show mT 3 = 3600000 from rfl, hsz] at hsa
        have HSA : Hid (spanAt t 3 = if decide (1 < t.size) && ((t.extract (t.size - 1) t.size).toList == ([104] : List UInt8)) then (if numB (t.extract 0 (t.size - 1)) && decide (0 ≤ numV (t.extract 0 (t.size - 1))) && decide (numV (t.extract 0 (t.size - 1)) ≤ ((999999999999999999 / 3600000 : Nat) : Int)) then some (numV (t.extract 0 (t.size - 1)) * ((3600000 : Nat) : Int)) else none) else none) := hsa
        clear hsa q1 q2
        by_cases hlt : 1 < t.size
        case neg =>
          have hle : (t.size : Int) - 1 ≤ 0 := by omega
          have hn := HSA.out
          rw [decide_eq_false hlt] at hn
          simp only [Bool.false_and, Bool.false_eq_true, ↓reduceIte] at hn
          have HN : Hid (spanAt t 3 = none) := hn
          clear hn
          go_upto_region 7 with fail
          go_quiet (fail)
          go_wp2_with fail
          exact ⟨⟨3 + 1, by go_num, by omega, HST.out HN.out, bel_drewN HB.out nq⟩, by simp [intOf]⟩
        obtain ⟨kk, hkk⟩ : ∃ kk, t.size - 1 = kk := ⟨_, rfl⟩
        have ek : (t.size : Int) - 1 = (kk : Int) := by omega
        have hkp : ¬ (kk = 0) := by omega
        have hkt : (kk : Int) ≤ (t.size : Int) := by omega
        have hkt' : kk ≤ t.size := by omega
        have hsa2 := HSA.out
        rw [hkk, decide_eq_true hlt] at hsa2
        simp only [Bool.true_and] at hsa2
        have HS2 : Hid (spanAt t 3 = if ((t.extract kk t.size).toList == ([104] : List UInt8)) = true then (if (numB (t.extract 0 kk) && decide (0 ≤ numV (t.extract 0 kk)) && decide (numV (t.extract 0 kk) ≤ ((999999999999999999 / 3600000 : Nat) : Int))) = true then some (numV (t.extract 0 kk) * ((3600000 : Nat) : Int)) else none) else none) := hsa2
        clear hsa2 HSA hkk
        cases hq : ((t.extract kk t.size).toList == ([104] : List UInt8))
        case false =>
          have hn := HS2.out
          rw [hq, if_neg (by simp)] at hn
          have HN : Hid (spanAt t 3 = none) := hn
          clear hn
          go_upto_region 7 with fail
          go_quiet (fail)
          go_wp2_with fail
          exact ⟨⟨3 + 1, by go_num, by omega, HST.out HN.out, bel_drewN HB.out nq⟩, by simp [intOf]⟩
        have hs3 := HS2.out
        rw [hq, if_pos rfl] at hs3
        have cn := fun w => HCN.out (t.extract 0 kk) (by rw [ByteArray.size_extract]; omega) w
        obtain ⟨NV, hNV⟩ : ∃ NV, numV (t.extract 0 kk) = NV := ⟨_, rfl⟩
        obtain ⟨NB, hNB⟩ : ∃ NB, numB (t.extract 0 kk) = NB := ⟨_, rfl⟩
        rw [hNV, hNB] at hs3 cn
        have HS3 : Hid (spanAt t 3 = if (NB && decide (0 ≤ NV) && decide (NV ≤ ((999999999999999999 / 3600000 : Nat) : Int))) = true then some (NV * ((3600000 : Nat) : Int)) else none) := hs3
        clear hs3 hNV hNB HS2
        go_upto_region 7 with fail
        go_quiet (fail)
        cases NB
        case false =>
          have hn := HS3.out
          rw [Bool.false_and, Bool.false_and, if_neg (by simp)] at hn
          have HN : Hid (spanAt t 3 = none) := hn
          clear hn
          go_wp2_with (go_at_call 46; go_must (refine (cn _).mono ?_; rintro e w2 ⟨rfl, rfl⟩))
          exact ⟨⟨3 + 1, by go_num, by omega, HST.out HN.out, bel_drewN HB.out nq⟩, by simp [intOf]⟩
        by_cases hv0 : 0 ≤ NV
        case neg =>
          have hn := HS3.out
          rw [decide_eq_false hv0, Bool.and_false, Bool.false_and, if_neg (by simp)] at hn
          have HN : Hid (spanAt t 3 = none) := hn
          clear hn
          go_wp2_with (go_at_call 46; go_must (refine (cn _).mono ?_; rintro e w2 ⟨rfl, rfl⟩))
          exact ⟨⟨3 + 1, by go_num, by omega, HST.out HN.out, bel_drewN HB.out nq⟩, by simp [intOf]⟩
        have hq2 : ((999999999999999999 / 3600000 : Nat) : Int) = 277777777777 := rfl
        by_cases hv1 : NV ≤ 277777777777
        case neg =>
          have hn := HS3.out
          rw [hq2, decide_eq_false hv1, Bool.and_false, if_neg (by simp)] at hn
          have HN : Hid (spanAt t 3 = none) := hn
          clear hn hq2
          go_wp2_with (go_at_call 46; go_must (refine (cn _).mono ?_; rintro e w2 ⟨rfl, rfl⟩))
          exact ⟨⟨3 + 1, by go_num, by omega, HST.out HN.out, bel_drewN HB.out nq⟩, by simp [intOf]⟩
        have hn := HS3.out
        rw [hq2, decide_eq_true hv1, decide_eq_true hv0] at hn
        simp only [Bool.and_self, ↓reduceIte] at hn
        have hh := HHI.out _ hn
        have HH : Hid (spanO t = some (NV * ((3600000 : Nat) : Int))) := hh
        clear hn hq2 hh
        go_wp2_with (go_at_call 46; go_must (refine (cn _).mono ?_; rintro e w2 ⟨rfl, rfl⟩))
        go_ret2
        exact ⟨by unfold spanV spanB; rw [HH.out]; simp, good_below K3.out (bel_drewN HB.out nq)⟩
    · obtain rfl : k = 4 := by omega
      have hm := span_miss HNO.out
      go_wp2_with fail
      go_ret2
      exact ⟨by unfold spanV spanB; rw [hm]; rfl, good_below K3.out HB.out⟩
end Go.Proofs.YtphocibgfdihoaaGreatDoor

namespace Go.Proofs.YtphocibgfdihoaaGreatDoor
open Go.ChangeShapes Go.WideShapes Go.ChangeAt Go.RowKit
set_option linter.unusedVariables false
set_option linter.unusedSimpArgs false

def yesB (t : ByteArray) : Bool := t.toList == [121, 101, 115]
def noB (t : ByteArray) : Bool := t.toList == [110, 111]
def chO (cs : List ByteArray) (t : ByteArray) : Option Nat := cs.findIdx? fun c => c.toList == t.toList
/-- A text's number by a rule, if it is of the rule's form. -/
def formO (r : Rule) (t : ByteArray) : Option Int :=
  if r.kind = 1 then (if numB t then some (numV t) else none)
  else if r.kind = 2 then (if yesB t then some 1 else if noB t then some 0 else none)
  else if r.kind = 3 then some (t.size : Int)
  else if r.kind = 4 then Option.map (fun (i : Nat) => (i : Int)) (chO r.choices t)
  else (if spanB t then some (spanV t) else none)
def boundB (r : Rule) : Bool := !(r.kind == 2) && !(r.kind == 4)
def fitO (BB : Bool) (mi ma : Int) : Option Int → Int × Int
  | none => (0, 3)
  | some n => if BB && (decide (n < mi) || decide (ma < n)) then (0, 9) else (n, 0)
def fitP (r : Rule) (t : ByteArray) : Int × Int := fitO (boundB r) r.min' r.max' (formO r t)
theorem fitO_none (BB : Bool) (mi ma : Int) : fitO BB mi ma none = (0, 3) := rfl
theorem fitO_some (BB : Bool) (mi ma n : Int) : fitO BB mi ma (some n) = if BB && (decide (n < mi) || decide (ma < n)) then (0, 9) else (n, 0) := rfl
theorem fitO_free (mi ma n : Int) : fitO false mi ma (some n) = (n, 0) := rfl
def rVal (r : Rule) (cv : Value) : Value := .agg #[.string r.path, .int .i64 r.kind, .int .i64 r.min', .int .i64 r.max', cv, .bool r.must, .string r.default']
theorem ch_hit {l : List ByteArray} {t : ByteArray} {k : Nat} (hk : k < l.length) (h : ∀ i (hi : i < l.length), i < k → (l[i].toList == t.toList) = false) (h1 : (l[k].toList == t.toList) = true) : chO l t = some k := by
  unfold chO
  rw [List.findIdx?_eq_some_iff_getElem]
  exact ⟨hk, h1, fun j hj => by rw [h j (by omega) hj]; simp⟩
theorem ch_miss {l : List ByteArray} {t : ByteArray} (h : ∀ i (hi : i < l.length), (l[i].toList == t.toList) = false) : chO l t = none := by
  unfold chO
  rw [List.findIdx?_eq_none_iff]
  intro x hx
  obtain ⟨i, hi, rfl⟩ := List.getElem_of_mem hx
  exact h i hi
set_option maxRecDepth 100000 in
set_option maxHeartbeats 4000000 in
theorem specFit {S : Nat → Prop} (r : Rule) (cv : Value) (w : World) (hS : ∀ b, S b → b < w.heap.size) (hch : TxtsAt S w cv r.choices) (t : ByteArray) (ht : t.size ≤ 1048576) :
    Calls Tryz.prog 19 #[rVal r cv, .string t] w fun e w' => e = .returned (.tuple #[.int .i64 (fitP r t).1, .int .i64 (fitP r t).2]) ∧ Below w.heap.size w w' := by
  have hfp : fitP r t = fitO (boundB r) r.min' r.max' (formO r t) := rfl
  have hfo : formO r t = if r.kind = 1 then (if numB t then some (numV t) else none) else if r.kind = 2 then (if yesB t then some 1 else if noB t then some 0 else none) else if r.kind = 3 then some (t.size : Int) else if r.kind = 4 then Option.map (fun (i : Nat) => (i : Int)) (chO r.choices t) else (if spanB t then some (spanV t) else none) := rfl
  have hbb : boundB r = (!(r.kind == 2) && !(r.kind == 4)) := rfl
  have hts : (t.size : Int) ≤ 1048576 := by omega
  have cN := fun w => specNumber t ht w
  have cS := fun w => specSpan t ht w
  unfold rVal
  obtain ⟨PV, hPV⟩ : ∃ PV, fitP r t = PV := ⟨_, rfl⟩
  obtain ⟨FO, hFO⟩ : ∃ FO, formO r t = FO := ⟨_, rfl⟩
  obtain ⟨BB, hBB⟩ : ∃ BB, boundB r = BB := ⟨_, rfl⟩
  rw [hPV, hFO, hBB] at hfp
  rw [hFO] at hfo
  rw [hBB] at hbb
  rw [hPV]
  clear hPV hFO hBB
  obtain ⟨rp, rk, rmi, rma, rc, rm, rd⟩ := r
  dsimp only at hfp hfo hbb hch ⊢
  have HFP : Hid (PV = fitO BB rmi rma FO) := hfp
  have HFO : Hid (FO = if rk = 1 then (if numB t = true then some (numV t) else none) else if rk = 2 then (if yesB t = true then some 1 else if noB t = true then some 0 else none) else if rk = 3 then some (t.size : Int) else if rk = 4 then Option.map (fun (i : Nat) => (i : Int)) (chO rc t) else (if spanB t = true then some (spanV t) else none)) := hfo
  have HBB : Hid (BB = (!(rk == 2) && !(rk == 4))) := hbb
  have hw1 : Below w.heap.size w (w.alloc (.cells #[.string rp, .int .i64 rk, .int .i64 rmi, .int .i64 rma, cv, .bool rm, .string rd] 37)) := (Below.refl _ w).alloc (Nat.le_refl _) _
  have hbk : Blk (w.alloc (.cells #[.string rp, .int .i64 rk, .int .i64 rmi, .int .i64 rma, cv, .bool rm, .string rd] 37)) w.heap.size 37 #[.string rp, .int .i64 rk, .int .i64 rmi, .int .i64 rma, cv, .bool rm, .string rd] := heap_alloc_last w _
  have HCH : Hid (TxtsAt S w cv rc) := hch
  have HS : Hid (∀ b, S b → b < w.heap.size) := hS
  have HW1 : Hid (Below w.heap.size w (w.alloc (.cells #[.string rp, .int .i64 rk, .int .i64 rmi, .int .i64 rma, cv, .bool rm, .string rd] 37))) := hw1
  have HBK : Hid (Blk (w.alloc (.cells #[.string rp, .int .i64 rk, .int .i64 rmi, .int .i64 rma, cv, .bool rm, .string rd] 37)) w.heap.size 37 #[.string rp, .int .i64 rk, .int .i64 rmi, .int .i64 rma, cv, .bool rm, .string rd]) := hbk
  clear hfp hfo hbb hch hS hw1 hbk
  obtain ⟨a, cap, hcv⟩ := HCH.out.shape
  subst hcv
  by_cases k1 : rk = 1
  · subst k1
    have hf2 := HFO.out
    rw [if_pos rfl] at hf2
    have hb2 := HBB.out
    have hb3 : BB = true := by rw [hb2]; rfl
    have HB2 : Hid (BB = true) := hb3
    obtain ⟨NN, hNN⟩ : ∃ NN, numV t = NN := ⟨_, rfl⟩
    obtain ⟨OK, hOK⟩ : ∃ OK, numB t = OK := ⟨_, rfl⟩
    rw [hNN, hOK] at hf2 cN
    have HF2 : Hid (FO = if OK = true then some NN else none) := hf2
    have q0 := HBK.out.cell 1
    have q2 := HBK.out.cell 2
    have q3 := HBK.out.cell 3
    simp at q0 q2 q3
    clear hf2 hb2 hb3 hNN hOK cS
    cases OK
    case false =>
      have hp := HFP.out
      rw [HF2.out, if_neg (by simp), fitO_none] at hp
      subst hp
      go_enter Tryz.func19, Tryz.ntmps19
      go_wp2_with (go_at_call 46; go_must (refine (cN _).mono ?_; rintro e w2 ⟨rfl, rfl⟩))
      go_ret2
      exact ⟨rfl, HW1.out⟩
    have hp := HFP.out
    rw [HF2.out, if_pos rfl, HB2.out, fitO_some] at hp
    simp only [Bool.true_and] at hp
    have HP : Hid (PV = if (decide (NN < rmi) || decide (rma < NN)) = true then (0, 9) else (NN, 0)) := hp
    clear hp
    by_cases n1 : NN < rmi
    · have hp := HP.out
      rw [decide_eq_true n1, Bool.true_or, if_pos rfl] at hp
      subst hp
      go_enter Tryz.func19, Tryz.ntmps19
      go_wp2_with (go_at_call 46; go_must (refine (cN _).mono ?_; rintro e w2 ⟨rfl, rfl⟩))
      go_ret2
      exact ⟨rfl, HW1.out⟩
    by_cases n2 : rma < NN
    · have hp := HP.out
      rw [decide_eq_true n2, Bool.or_true, if_pos rfl] at hp
      subst hp
      go_enter Tryz.func19, Tryz.ntmps19
      go_wp2_with (go_at_call 46; go_must (refine (cN _).mono ?_; rintro e w2 ⟨rfl, rfl⟩))
      go_ret2
      exact ⟨rfl, HW1.out⟩
    have hp := HP.out
    rw [decide_eq_false n1, decide_eq_false n2, Bool.or_false, if_neg (by simp)] at hp
    subst hp
    go_enter Tryz.func19, Tryz.ntmps19
    go_wp2_with (go_at_call 46; go_must (refine (cN _).mono ?_; rintro e w2 ⟨rfl, rfl⟩))
    go_ret2
    exact ⟨rfl, HW1.out⟩
  have b1 : ((rk : Int) == 1) = false := by rw [beq_eq_false_iff_ne]; exact k1
  by_cases k2 : rk = 2
  · subst k2
    have hf2 := HFO.out
    rw [if_neg k1, if_pos rfl] at hf2
    have hb3 : BB = false := by rw [HBB.out]; rfl
    have q0 := HBK.out.cell 1
    simp at q0
    have hp := HFP.out
    rw [hf2, hb3] at hp
    have HP : Hid (PV = fitO false rmi rma (if yesB t = true then some (1 : Int) else if noB t = true then some 0 else none)) := hp
    clear hp hf2 hb3 cN cS
    unfold yesB noB at HP
    cases y1 : (t.toList == [121, 101, 115])
    case true =>
      have hp := HP.out
      rw [y1, if_pos rfl, fitO_free] at hp
      subst hp
      go_enter Tryz.func19, Tryz.ntmps19
      go_wp2_with fail
      go_ret2
      exact ⟨rfl, HW1.out⟩
    cases y2 : (t.toList == [110, 111])
    case true =>
      have hp := HP.out
      rw [y1, if_neg (by simp), y2, if_pos rfl, fitO_free] at hp
      subst hp
      go_enter Tryz.func19, Tryz.ntmps19
      go_wp2_with fail
      go_ret2
      exact ⟨rfl, HW1.out⟩
    have hp := HP.out
    rw [y1, if_neg (by simp), y2, if_neg (by simp), fitO_none] at hp
    subst hp
    go_enter Tryz.func19, Tryz.ntmps19
    go_wp2_with fail
    go_ret2
    exact ⟨rfl, HW1.out⟩
  have b2 : ((rk : Int) == 2) = false := by rw [beq_eq_false_iff_ne]; exact k2
  by_cases k3 : rk = 3
  · subst k3
    have hf2 := HFO.out
    rw [if_neg k1, if_neg k2, if_pos rfl] at hf2
    have hb3 : BB = true := by rw [HBB.out]; rfl
    have HB2 : Hid (BB = true) := hb3
    obtain ⟨NN, hNN⟩ : ∃ NN, (t.size : Int) = NN := ⟨_, rfl⟩
    obtain ⟨OK, hOK⟩ : ∃ OK, true = OK := ⟨_, rfl⟩
    have hf3 : FO = if OK = true then some NN else none := by rw [hf2, ← hOK, if_pos rfl, hNN]
    have HF2 : Hid (FO = if OK = true then some NN else none) := hf3
    have q0 := HBK.out.cell 1
    have q2 := HBK.out.cell 2
    have q3 := HBK.out.cell 3
    simp at q0 q2 q3
    clear hf2 hb3 hf3 cN cS
    subst hOK
    have hp := HFP.out
    rw [HF2.out, if_pos rfl, HB2.out, fitO_some] at hp
    simp only [Bool.true_and] at hp
    have HP : Hid (PV = if (decide (NN < rmi) || decide (rma < NN)) = true then (0, 9) else (NN, 0)) := hp
    clear hp
    by_cases n1 : NN < rmi
    · have hp := HP.out
      rw [decide_eq_true n1, Bool.true_or, if_pos rfl] at hp
      subst hp
      go_enter Tryz.func19, Tryz.ntmps19
      go_wp2_with fail
      go_ret2
      exact ⟨rfl, HW1.out⟩
    by_cases n2 : rma < NN
    · have hp := HP.out
      rw [decide_eq_true n2, Bool.or_true, if_pos rfl] at hp
      subst hp
      go_enter Tryz.func19, Tryz.ntmps19
      go_wp2_with fail
      go_ret2
      exact ⟨rfl, HW1.out⟩
    have hp := HP.out
    rw [decide_eq_false n1, decide_eq_false n2, Bool.or_false, if_neg (by simp)] at hp
    subst hp
    go_enter Tryz.func19, Tryz.ntmps19
    go_wp2_with fail
    go_ret2
    exact ⟨rfl, HW1.out⟩
  have b3 : ((rk : Int) == 3) = false := by rw [beq_eq_false_iff_ne]; exact k3
  by_cases k4 : rk = 4
  · subst k4
    have hf2 := HFO.out
    rw [if_neg k1, if_neg k2, if_neg k3, if_pos rfl] at hf2
    have hb3 : BB = false := by rw [HBB.out]; rfl
    have hp := HFP.out
    rw [hf2, hb3] at hp
    have HP : Hid (PV = fitO false rmi rma (Option.map (fun (i : Nat) => (i : Int)) (chO rc t))) := hp
    have hlm := HCH.out.1
    have hlm' : (rc.length : Int) ≤ 9223372036854775807 := by simp [maxLen] at hlm; omega
    have q0 := HBK.out.cell 1
    simp at q0
    go_enter Tryz.func19, Tryz.ntmps19
    go_wp2_with fail
    obtain ⟨wA, hwA⟩ : ∃ wA, w.alloc (.cells #[.string rp, .int .i64 4, .int .i64 rmi, .int .i64 rma, .slice a rc.length cap, .bool rm, .string rd] 37) = wA := ⟨_, rfl⟩
    have HW2 : Hid (Below w.heap.size w wA) := hwA ▸ HW1.out
    have HK2 : Hid (Blk wA w.heap.size 37 #[.string rp, .int .i64 4, .int .i64 rmi, .int .i64 rma, .slice a rc.length cap, .bool rm, .string rd]) := hwA ▸ HBK.out
    rw [hwA]
    have hc1 : 0 < rc.length → ∃ b off, a = some ⟨b, off, none⟩ ∧ b < wA.heap.size ∧ ∀ j (hj : j < rc.length), wA.cell? ⟨b, off + j, none⟩ = some (.string rc[j]) := fun h0 => by
      obtain ⟨_, ta, tc, htv, hcell⟩ := HCH.out
      simp only [Value.slice.injEq] at htv
      obtain ⟨rfl, -, rfl⟩ := htv
      obtain ⟨b, off, rfl, hbS, hcell⟩ := hcell h0
      exact ⟨b, off, rfl, Nat.lt_of_lt_of_le (HS.out b hbS) HW2.out.size, fun j hj => (HW2.out.cell (p := ⟨b, off + j, none⟩) (HS.out b hbS)).trans (hcell j hj)⟩
    have HC1 : Hid (0 < rc.length → ∃ b off, a = some ⟨b, off, none⟩ ∧ b < wA.heap.size ∧ ∀ j (hj : j < rc.length), wA.cell? ⟨b, off + j, none⟩ = some (.string rc[j])) := hc1
    obtain ⟨gB, hgB⟩ : ∃ gB, w.heap.size = gB := ⟨_, rfl⟩
    rw [hgB] at HK2 ⊢
    have q4 := HK2.out.cell 4
    simp at q4
    clear hp hf2 hb3 cN cS hlm hc1 hwA HW1 HBK q0 HBB HFO hgB
    go_loopw [8] (fun i8 wr => ∃ k : Nat, i8 = .int .i64 (k : Int) ∧ k ≤ rc.length ∧ (∀ i (h : i < rc.length), i < k → (rc[i].toList == t.toList) = false) ∧ wr = wA) (fun i8 _ => rc.length - (intOf i8).toNat)
    case atStart => exact ⟨0, rfl, by omega, fun i _ h => by omega, rfl⟩
    case round =>
      obtain ⟨k, rfl, hk, hno, rfl⟩ := hrel
      have HNO : Hid (∀ i (h : i < rc.length), i < k → (rc[i].toList == t.toList) = false) := hno
      clear hno
      by_cases hkn : k < rc.length
      · have hkn' : (k : Int) < (rc.length : Int) := by omega
        obtain ⟨b, off, rfl, hbw, hcell⟩ := HC1.out (by omega)
        have d0 := hcell k hkn
        have hht := fun h1 => ch_hit (t := t) hkn HNO.out h1
        have hst : (rc[k].toList == t.toList) = false → ∀ i (h : i < rc.length), i < k + 1 → (rc[i].toList == t.toList) = false := fun h0 i hi hik => by
          by_cases e : i = k
          · subst e; exact h0
          · exact HNO.out i hi (by omega)
        obtain ⟨x, hx⟩ : ∃ x, rc[k] = x := ⟨_, rfl⟩
        rw [hx] at d0 hht hst
        have HHT : Hid ((x.toList == t.toList) = true → chO rc t = some k) := hht
        have HST : Hid ((x.toList == t.toList) = false → ∀ i (h : i < rc.length), i < k + 1 → (rc[i].toList == t.toList) = false) := hst
        clear hht hst hx hcell
        cases hq : (x.toList == t.toList)
        · go_wp2_with fail
          exact ⟨⟨k + 1, by go_num, by omega, HST.out hq, by trivial⟩, by simp [intOf]; omega⟩
        · have hp := HP.out
          rw [HHT.out hq, Option.map_some, fitO_free] at hp
          subst hp
          go_wp2_with fail
          go_ret2
          exact ⟨rfl, HW2.out⟩
      · obtain rfl : k = rc.length := by omega
        have hkn' : ¬ ((rc.length : Int) < (rc.length : Int)) := by omega
        have hp := HP.out
        rw [ch_miss (fun i hi => HNO.out i hi hi), Option.map_none, fitO_none] at hp
        subst hp
        go_wp2_with fail
        go_ret2
        exact ⟨rfl, HW2.out⟩
  have b4 : ((rk : Int) == 4) = false := by rw [beq_eq_false_iff_ne]; exact k4
  have hf2 := HFO.out
  rw [if_neg k1, if_neg k2, if_neg k3, if_neg k4] at hf2
  have hb3 : BB = true := by rw [HBB.out, b2, b4]; rfl
  have HB2 : Hid (BB = true) := hb3
  obtain ⟨NN, hNN⟩ : ∃ NN, spanV t = NN := ⟨_, rfl⟩
  obtain ⟨OK, hOK⟩ : ∃ OK, spanB t = OK := ⟨_, rfl⟩
  rw [hNN, hOK] at hf2 cS
  have HF2 : Hid (FO = if OK = true then some NN else none) := hf2
  have q0 := HBK.out.cell 1
  simp at q0
  have hkp : ∀ w2, Below (w.alloc (.cells #[.string rp, .int .i64 rk, .int .i64 rmi, .int .i64 rma, .slice a rc.length cap, .bool rm, .string rd] 37)).heap.size (w.alloc (.cells #[.string rp, .int .i64 rk, .int .i64 rmi, .int .i64 rma, .slice a rc.length cap, .bool rm, .string rd] 37)) w2 → w2.cell? ⟨w.heap.size, 2, none⟩ = some (.int .i64 rmi) ∧ w2.cell? ⟨w.heap.size, 3, none⟩ = some (.int .i64 rma) := fun w2 hb2 => by
    have h := Blk.below HBK.out hb2
    exact ⟨h.cell 2, h.cell 3⟩
  have HKP : Hid (∀ w2, Below (w.alloc (.cells #[.string rp, .int .i64 rk, .int .i64 rmi, .int .i64 rma, .slice a rc.length cap, .bool rm, .string rd] 37)).heap.size (w.alloc (.cells #[.string rp, .int .i64 rk, .int .i64 rmi, .int .i64 rma, .slice a rc.length cap, .bool rm, .string rd] 37)) w2 → w2.cell? ⟨w.heap.size, 2, none⟩ = some (.int .i64 rmi) ∧ w2.cell? ⟨w.heap.size, 3, none⟩ = some (.int .i64 rma)) := hkp
  clear hf2 hb3 hNN hOK cN hkp
  cases OK
  case false =>
    have hp := HFP.out
    rw [HF2.out, if_neg (by simp), fitO_none] at hp
    subst hp
    go_enter Tryz.func19, Tryz.ntmps19
    go_wp2_with (go_at_call 47; go_must (refine (cS _).mono ?_; rintro e w2 ⟨rfl, hb2⟩; have q2 := (HKP.out _ hb2).1; have q3 := (HKP.out _ hb2).2))
    go_ret2
    exact ⟨rfl, good_below HW1.out hb2⟩
  have hp := HFP.out
  rw [HF2.out, if_pos rfl, HB2.out, fitO_some] at hp
  simp only [Bool.true_and] at hp
  have HP : Hid (PV = if (decide (NN < rmi) || decide (rma < NN)) = true then (0, 9) else (NN, 0)) := hp
  clear hp
  by_cases n1 : NN < rmi
  · have hp := HP.out
    rw [decide_eq_true n1, Bool.true_or, if_pos rfl] at hp
    subst hp
    go_enter Tryz.func19, Tryz.ntmps19
    go_wp2_with (go_at_call 47; go_must (refine (cS _).mono ?_; rintro e w2 ⟨rfl, hb2⟩; have q2 := (HKP.out _ hb2).1; have q3 := (HKP.out _ hb2).2))
    go_ret2
    exact ⟨rfl, good_below HW1.out hb2⟩
  by_cases n2 : rma < NN
  · have hp := HP.out
    rw [decide_eq_true n2, Bool.or_true, if_pos rfl] at hp
    subst hp
    go_enter Tryz.func19, Tryz.ntmps19
    go_wp2_with (go_at_call 47; go_must (refine (cS _).mono ?_; rintro e w2 ⟨rfl, hb2⟩; have q2 := (HKP.out _ hb2).1; have q3 := (HKP.out _ hb2).2))
    go_ret2
    exact ⟨rfl, good_below HW1.out hb2⟩
  have hp := HP.out
  rw [decide_eq_false n1, decide_eq_false n2, Bool.or_false, if_neg (by simp)] at hp
  subst hp
  go_enter Tryz.func19, Tryz.ntmps19
  go_wp2_with (go_at_call 47; go_must (refine (cS _).mono ?_; rintro e w2 ⟨rfl, hb2⟩; have q2 := (HKP.out _ hb2).1; have q3 := (HKP.out _ hb2).2))
  go_ret2
  exact ⟨rfl, good_below HW1.out hb2⟩
end Go.Proofs.YtphocibgfdihoaaGreatDoor

namespace Go.Proofs.YtphocibgfdihoaaGreatDoor
open Go.ChangeShapes Go.WideShapes Go.ChangeAt Go.RowKit
set_option linter.unusedVariables false

theorem laySteps_short (nm : ByteArray) : ∀ (es : List Entry) (out : List Setting), (∀ e ∈ es, e.path.size ≤ 205) → (∀ o ∈ out, o.path.size ≤ 205) → ∀ o ∈ es.foldl (layStep nm) out, o.path.size ≤ 205
  | [], out, _, h => h
  | e :: es, out, he, h => by
    rw [List.foldl_cons]
    exact laySteps_short nm es _ (fun y hy => he y (List.mem_cons_of_mem _ hy)) (layStep_mem (P := fun o => o.path.size ≤ 205) h (he e (List.mem_cons_self ..)))
theorem laidFold_short : ∀ (l : List Layer) (out : List Setting), (∀ x ∈ l, ∀ e ∈ x.entries, e.path.size ≤ 205) → (∀ o ∈ out, o.path.size ≤ 205) → ∀ o ∈ l.foldl layLayer out, o.path.size ≤ 205
  | [], out, _, h => h
  | x :: l, out, hx, h => by
    rw [List.foldl_cons]
    exact laidFold_short l _ (fun y hy => hx y (List.mem_cons_of_mem _ hy)) (laySteps_short x.name x.entries out (hx x (List.mem_cons_self ..)) h)
theorem laid_short {l : List Layer} (h : layersB nameOK l = true) : ∀ o ∈ laidF (overP l), o.path.size ≤ 205 :=
  laidFold_short (overP l) [] (fun x hx => ((layers_fine h).2.2 x (overP_mem hx)).2) (fun o ho => by cases ho)
theorem both_short {a b : List Setting} (ha : ∀ o ∈ a, o.path.size ≤ 205) (hb : ∀ o ∈ b, o.path.size ≤ 205) : ∀ p ∈ bothPaths a b, p.size ≤ 205 := fun p hp => by
  rcases (both_mem a b p).1 hp with ⟨s, hs, rfl⟩ | ⟨s, hs, rfl⟩
  · exact ha s hs
  · exact hb s hs
theorem path_short {p : ByteArray} (h : pathB nameOK p = true) : p.size ≤ 205 := by
  unfold pathB at h
  simp only [Bool.and_eq_true, decide_eq_true_eq] at h
  exact h.1.1
theorem ChangesAt.newAt (w : World) (x y z : ByteArray) (g : Nat) (hg : w.heap.size = g) : ChangesAt (fun b => b = g) (w.alloc (.cells #[.string x, .string y, .string z] 46)) (.slice (some ⟨g, 0, none⟩) 1 1) [⟨x, y, z⟩] := by
  subst hg; exact ChangesAt.new w x y z
theorem specWithinQ' (p q : ByteArray) (hp : p.size ≤ 205) (hq : q.size ≤ 205) (w : World) :
    Calls Tryz.prog 41 #[.string p, .string q] w fun e w' => e = .returned (.bool (withinB p q)) ∧ w' = w := specWithinQ p q (by omega) (by omega) w
end Go.Proofs.YtphocibgfdihoaaGreatDoor

namespace Go.Proofs.YtphocibgfdihoaaGreatDoor
open Go.ChangeShapes Go.WideShapes Go.ChangeAt Go.RowKit
set_option linter.unusedVariables false
set_option linter.unusedSimpArgs false

def ruleB0 (r : Rule) : Bool := pathB nameOK r.path && decide (1 ≤ r.kind) && decide (r.kind ≤ 5) && decide (r.choices.length ≤ 20) && decide (r.default'.size ≤ 200)
def defB (r : Rule) : Bool := (r.default'.toList == []) || ((fitP r r.default').2 == 0)
def RuleAt (l : List Rule) (i : Nat) (hi : i < l.length) : Prop := ruleB0 l[i] = true ∧ (∀ c ∈ l[i].choices, c.size ≤ 200) ∧ (∀ k (hk : k < l.length), k ≠ i → withinB l[i].path l[k].path = false) ∧ defB l[i] = true
open Classical in
noncomputable def rulesB (l : List Rule) : Bool := decide (l.length ≤ 100 ∧ ∀ i (hi : i < l.length), RuleAt l i hi)
open Classical in
theorem rules_no {l : List Rule} {i : Nat} (hi : i < l.length) (h : ¬ RuleAt l i hi) : rulesB l = false := by
  unfold rulesB
  exact decide_eq_false (fun e => h (e.2 i hi))
open Classical in
theorem rules_long {l : List Rule} (h : ¬ (l.length ≤ 100)) : rulesB l = false := by
  unfold rulesB
  exact decide_eq_false (fun e => h e.1)
open Classical in
theorem rules_yes {l : List Rule} (h : l.length ≤ 100) (h2 : ∀ i (hi : i < l.length), RuleAt l i hi) : rulesB l = true := by
  unfold rulesB
  exact decide_eq_true ⟨h, h2⟩
/-- The number of a path's rule. -/
def ruleN : Option Nat → Int
  | some k => (k : Int)
  | none => -1
def ruleO (l : List Rule) (p : ByteArray) : Option Nat := l.findIdx? fun r => r.path.toList == p.toList
theorem rule_hit {l : List Rule} {t : ByteArray} {k : Nat} (hk : k < l.length) (h : ∀ i (hi : i < l.length), i < k → (l[i].path.toList == t.toList) = false) (h1 : (l[k].path.toList == t.toList) = true) : ruleO l t = some k := by
  unfold ruleO
  rw [List.findIdx?_eq_some_iff_getElem]
  exact ⟨hk, h1, fun j hj => by rw [h j (by omega) hj]; simp⟩
theorem rule_miss {l : List Rule} {t : ByteArray} (h : ∀ i (hi : i < l.length), (l[i].path.toList == t.toList) = false) : ruleO l t = none := by
  unfold ruleO
  rw [List.findIdx?_eq_none_iff]
  intro x hx
  obtain ⟨i, hi, rfl⟩ := List.getElem_of_mem hx
  exact h i hi
set_option maxRecDepth 100000 in
set_option maxHeartbeats 1000000 in
theorem specRule {S : Nat → Prop} {l : List Rule} {v : Value} {w : World} (hS : ∀ b, S b → b < w.heap.size) (h : RulesAt S w v l) (p : ByteArray) :
    Calls Tryz.prog 18 #[v, .string p] w fun e w' => e = .returned (.int .i64 (ruleN (ruleO l p))) ∧ w' = w := by
  obtain ⟨hlm, a, cap, rfl, hc⟩ := h
  have HC : Hid _ := hc
  have HS : Hid (∀ b, S b → b < w.heap.size) := hS
  have hlm' : (l.length : Int) ≤ 9223372036854775807 := by simp [maxLen] at hlm; omega
  clear hc hS hlm
  go_enter Tryz.func18, Tryz.ntmps18
  go_wp2_with fail
  go_loopw [5] (fun i5 wr => ∃ (k : Nat), i5 = .int .i64 (k : Int) ∧ k ≤ l.length ∧ (∀ i (h : i < l.length), i < k → (l[i].path.toList == p.toList) = false) ∧ wr = w) (fun i5 _ => l.length - (intOf i5).toNat)
  case atStart => exact ⟨0, rfl, by omega, fun i _ h => by omega, rfl⟩
  case round =>
    obtain ⟨k, rfl, hk, hno, rfl⟩ := hrel
    have HN : Hid (∀ i (h : i < l.length), i < k → (l[i].path.toList == p.toList) = false) := hno
    clear hno
    by_cases hkn : k < l.length
    · have hkn' : (k : Int) < (l.length : Int) := by omega
      obtain ⟨b, off, rfl, hbS, hcell⟩ := HC.out (by omega)
      have d0 := (hcell k hkn).1
      have hht := fun h1 => rule_hit (t := p) hkn HN.out h1
      have hnn : (l[k].path.toList == p.toList) = false → ∀ i (h : i < l.length), i < k + 1 → (l[i].path.toList == p.toList) = false := fun h0 i hi hik => by
        by_cases e : i = k
        · subst e; exact h0
        · exact HN.out i hi (by omega)
      obtain ⟨x, hx⟩ : ∃ x, l[k].path = x := ⟨_, rfl⟩
      rw [hx] at d0 hht hnn
      have HHT : Hid ((x.toList == p.toList) = true → ruleO l p = some k) := hht
      have HNN : Hid ((x.toList == p.toList) = false → ∀ i (h : i < l.length), i < k + 1 → (l[i].path.toList == p.toList) = false) := hnn
      clear hx hht hnn hcell
      cases hq : (x.toList == p.toList)
      · go_wp2_with fail
        exact ⟨⟨k + 1, by go_num, by omega, HNN.out hq, by trivial⟩, by simp [intOf]; omega⟩
      · go_wp2_with fail
        go_ret
        exact ⟨by rw [HHT.out hq]; rfl, rfl⟩
    · obtain rfl : k = l.length := by omega
      have hkn' : ¬ ((l.length : Int) < (l.length : Int)) := by omega
      go_wp2_with fail
      go_ret
      exact ⟨by rw [rule_miss (fun i hi => HN.out i hi hi)]; rfl, rfl⟩
set_option maxRecDepth 100000 in
theorem specWithinR (p q : ByteArray) (hp : p.size ≤ 1048576) (hq : q.size ≤ 1048576) (w : World) :
    Calls Tryz.prog 41 #[.string p, .string q] w fun e w' => e = .returned (.bool (withinB p q)) ∧ w' = w := by
  have hp' : (p.size : Int) ≤ 1048576 := by omega
  have hq' : (q.size : Int) ≤ 1048576 := by omega
  unfold withinB
  cases h1 : (p.toList == q.toList)
  · by_cases h2 : q.size < p.size
    · have h2' : (q.size : Int) < (p.size : Int) := by omega
      have h2'' : (q.size : Int) ≤ (p.size : Int) := by omega
      have hba : byteAt p q.size = p[q.size].toNat := by unfold byteAt; rw [dif_pos h2]
      obtain ⟨x, hx⟩ : ∃ x, p[q.size].toNat = x := ⟨_, rfl⟩
      rw [hx] at hba
      rw [hba, decide_eq_true h2]
      clear hba
      cases h3 : ((p.extract 0 q.size).toList == q.toList)
      · go_enter Tryz.func41, Tryz.ntmps41
        go_wp2_with fail
        go_ret
        exact ⟨rfl, rfl⟩
      · by_cases hx46 : x = 46
        · subst hx46
          go_enter Tryz.func41, Tryz.ntmps41
          go_wp2_with fail
          go_ret
          exact ⟨rfl, rfl⟩
        · have hxb : ((x : Int) == 46) = false := by rw [beq_eq_false_iff_ne]; omega
          rw [decide_eq_false hx46]
          go_enter Tryz.func41, Tryz.ntmps41
          go_wp2_with fail
          go_ret
          exact ⟨rfl, rfl⟩
    · have h2' : ¬ ((q.size : Int) < (p.size : Int)) := by omega
      rw [decide_eq_false h2]
      go_enter Tryz.func41, Tryz.ntmps41
      go_wp2_with fail
      go_ret
      exact ⟨rfl, rfl⟩
  · go_enter Tryz.func41, Tryz.ntmps41
    go_wp2_with fail
    go_ret
    exact ⟨rfl, rfl⟩
set_option maxRecDepth 100000 in
set_option maxHeartbeats 16000000 in
theorem specRules {S : Nat → Prop} {l : List Rule} {v : Value} {w : World} (hS : ∀ b, S b → b < w.heap.size) (h : RulesAt S w v l) (hok : ∀ x ∈ l, RulesOK 1048576 x) :
    Calls Tryz.prog 14 #[v] w fun e w' => e = .returned (.bool (rulesB l)) ∧ Below w.heap.size w w' := by
  have h0 := h
  obtain ⟨hlm, a, cap, rfl, hc⟩ := h
  have HR : Hid (RulesAt S w (.slice a l.length cap) l) := h0
  have HC : Hid _ := hc
  have HS : Hid (∀ b, S b → b < w.heap.size) := hS
  have HOK : Hid (∀ x ∈ l, RulesOK 1048576 x) := hok
  have hlm' : (l.length : Int) ≤ 9223372036854775807 := by simp [maxLen] at hlm; omega
  clear hc hS hlm hok h0
  by_cases hl : l.length ≤ 100
  case neg =>
    have hl' : (100 : Int) < (l.length : Int) := by omega
    rw [rules_long hl]
    go_enter Tryz.func14, Tryz.ntmps14
    go_wp2_with fail
    go_ret
    exact ⟨rfl, Below.refl _ _⟩
  have hl' : ¬ ((100 : Int) < (l.length : Int)) := by omega
  have hyes := fun h2 => rules_yes hl h2
  have hno := fun i hi h => rules_no (l := l) (i := i) hi h
  obtain ⟨RB, hRB⟩ : ∃ RB, rulesB l = RB := ⟨_, rfl⟩
  rw [hRB] at hyes hno ⊢
  have HYES : Hid ((∀ i (hi : i < l.length), RuleAt l i hi) → RB = true) := hyes
  have HNO : Hid (∀ i (hi : i < l.length), ¬ RuleAt l i hi → RB = false) := hno
  clear hyes hno hRB
  go_enter Tryz.func14, Tryz.ntmps14
  go_wp2_with fail
  go_loopw [3] (fun i3 wr => ∃ k : Nat, i3 = .int .i64 (k : Int) ∧ k ≤ l.length ∧ (∀ i (hi : i < l.length), i < k → RuleAt l i hi) ∧ Below w.heap.size w wr) (fun i3 _ => l.length - (intOf i3).toNat)
  case atStart => exact ⟨0, rfl, by omega, fun i _ h => by omega, Below.refl _ _⟩
  case round =>
    obtain ⟨k, rfl, hk, hall, hb⟩ := hrel
    have HALL : Hid (∀ i (hi : i < l.length), i < k → RuleAt l i hi) := hall
    have HB : Hid (Below w.heap.size w wr) := hb
    clear hall
    by_cases hkn : k < l.length
    case neg =>
      obtain rfl : k = l.length := by omega
      have hkn' : ¬ ((l.length : Int) < (l.length : Int)) := by omega
      have hr := HYES.out (fun i hi => HALL.out i hi hi)
      subst hr
      go_wp2_with fail
      go_ret
      exact ⟨rfl, hb⟩
    have hkn' : (k : Int) < (l.length : Int) := by omega
    obtain ⟨b, off, rfl, hbS, hcell⟩ := HC.out (by omega)
    have hbw := HS.out b hbS
    obtain ⟨c0, c1, c2, c3, c5, c6, nv, c4, hnv⟩ := hcell k hkn
    have d0 := (hb.cell (p := ⟨b, off + k * 7, none⟩) hbw).trans c0
    have d1 := (hb.cell (p := ⟨b, off + k * 7 + 1, none⟩) hbw).trans c1
    have d2 := (hb.cell (p := ⟨b, off + k * 7 + 2, none⟩) hbw).trans c2
    have d3 := (hb.cell (p := ⟨b, off + k * 7 + 3, none⟩) hbw).trans c3
    have d4 := (hb.cell (p := ⟨b, off + k * 7 + 4, none⟩) hbw).trans c4
    have d5 := (hb.cell (p := ⟨b, off + k * 7 + 5, none⟩) hbw).trans c5
    have d6 := (hb.cell (p := ⟨b, off + k * 7 + 6, none⟩) hbw).trans c6
    have hokx := HOK.out l[k] (List.getElem_mem hkn)
    unfold RulesOK at hokx
    have hbad := fun h => HNO.out k hkn h
    have hstep : RuleAt l k hkn → ∀ i (hi : i < l.length), i < k + 1 → RuleAt l i hi := fun h0 i hi hik => by
      by_cases e : i = k
      · subst e; exact h0
      · exact HALL.out i hi (by omega)
    have hra : RuleAt l k hkn ↔ (ruleB0 l[k] = true ∧ (∀ c ∈ l[k].choices, c.size ≤ 200) ∧ (∀ j (hj : j < l.length), j ≠ k → withinB l[k].path l[j].path = false) ∧ defB l[k] = true) := Iff.rfl
    obtain ⟨x, hx⟩ : ∃ x, l[k] = x := ⟨_, rfl⟩
    rw [hx] at d0 d1 d2 d3 d5 d6 hnv hokx hra
    obtain ⟨xp, xk, xi, xa, xc, xm, xd⟩ := x
    dsimp only at d0 d1 d2 d3 d5 d6 hnv hokx hra
    obtain ⟨RA, hRA⟩ : ∃ RA, RuleAt l k hkn = RA := ⟨_, rfl⟩
    rw [hRA] at hbad hstep hra
    have HBAD : Hid (¬ RA → RB = false) := hbad
    have HSTEP : Hid (RA → ∀ i (hi : i < l.length), i < k + 1 → RuleAt l i hi) := hstep
    have HRA : Hid (RA ↔ (ruleB0 ⟨xp, xk, xi, xa, xc, xm, xd⟩ = true ∧ (∀ c ∈ xc, c.size ≤ 200) ∧ (∀ j (hj : j < l.length), j ≠ k → withinB xp l[j].path = false) ∧ defB ⟨xp, xk, xi, xa, xc, xm, xd⟩ = true)) := hra
    have HNV : Hid (TxtsAt S w nv xc) := hnv
    clear hcell c0 c1 c2 c3 c4 c5 c6 hbad hstep hra hRA hx
    obtain ⟨za, zc, hzv⟩ := hnv.shape
    subst hzv
    clear hnv
    have hbk : Blk (wr.alloc (.cells #[.string xp, .int .i64 xk, .int .i64 xi, .int .i64 xa, .slice za xc.length zc, .bool xm, .string xd] 37)) wr.heap.size 37 #[.string xp, .int .i64 xk, .int .i64 xi, .int .i64 xa, .slice za xc.length zc, .bool xm, .string xd] := heap_alloc_last wr _
    have hbA : Below wr.heap.size wr (wr.alloc (.cells #[.string xp, .int .i64 xk, .int .i64 xi, .int .i64 xa, .slice za xc.length zc, .bool xm, .string xd] 37)) := (Below.refl _ wr).alloc (Nat.le_refl _) _
    obtain ⟨gx, hgx⟩ : ∃ gx, wr.heap.size = gx := ⟨_, rfl⟩
    rw [hgx] at hbk
    go_upto_region 7 with fail
    obtain ⟨wA, hwA⟩ : ∃ wA, wr.alloc (.cells #[.string xp, .int .i64 xk, .int .i64 xi, .int .i64 xa, .slice za xc.length zc, .bool xm, .string xd] 37) = wA := ⟨_, rfl⟩
    rw [hwA] at hbk hbA ⊢
    have HBK : Hid (Blk wA gx 37 #[.string xp, .int .i64 xk, .int .i64 xi, .int .i64 xa, .slice za xc.length zc, .bool xm, .string xd]) := hbk
    have HBA : Hid (Below w.heap.size w wA) := good_below HB.out hbA
    have cp := specPath nameSpec xp (by simp [maxLen]; omega) wA
    clear d0 d1 d2 d3 d4 d5 d6 hb hbA hwA hbk
    obtain ⟨F, hF⟩ : ∃ F, pathB nameOK xp = F := ⟨_, rfl⟩
    rw [hF] at cp
    have HF : Hid (pathB nameOK xp = F) := hF
    have q0 := HBK.out.cell 0
    simp at q0
    have hkp : ∀ w2, Below wA.heap.size wA w2 → w2.cell? ⟨gx, 1, none⟩ = some (.int .i64 xk) ∧ w2.cell? ⟨gx, 4, none⟩ = some (.slice za xc.length zc) ∧ w2.cell? ⟨gx, 6, none⟩ = some (.string xd) := fun w2 hb2 => by
      have h := Blk.below HBK.out hb2
      exact ⟨h.cell 1, h.cell 4, h.cell 6⟩
    have HKP : Hid (∀ w2, Below wA.heap.size wA w2 → w2.cell? ⟨gx, 1, none⟩ = some (.int .i64 xk) ∧ w2.cell? ⟨gx, 4, none⟩ = some (.slice za xc.length zc) ∧ w2.cell? ⟨gx, 6, none⟩ = some (.string xd)) := hkp
    have hdm : (xd.size : Int) ≤ 1048576 := by omega
    have hcm : (xc.length : Int) ≤ 1048576 := by omega
    clear hF hkp
    go_cut [47] from 22 to 48 (fun s47 wx => s47 = .bool (!ruleB0 ⟨xp, xk, xi, xa, xc, xm, xd⟩) ∧ Below wA.heap.size wA wx)
    case first =>
      have hr0 : ruleB0 ⟨xp, xk, xi, xa, xc, xm, xd⟩ = (F && decide (1 ≤ xk) && decide (xk ≤ 5) && decide (xc.length ≤ 20) && decide (xd.size ≤ 200)) := by unfold ruleB0; dsimp only; rw [HF.out]
      have HR0 : Hid (ruleB0 ⟨xp, xk, xi, xa, xc, xm, xd⟩ = (F && decide (1 ≤ xk) && decide (xk ≤ 5) && decide (xc.length ≤ 20) && decide (xd.size ≤ 200))) := hr0
      clear hr0
      cases F
      case false =>
        go_wp2_with (go_at_call 40; go_must (refine cp.mono ?_; rintro e w2 ⟨rfl, hb2⟩))
        go_meet
        exact ⟨by rw [HR0.out]; rfl, hb2⟩
      by_cases k1 : xk < 1
      case pos =>
        go_wp2_with (go_at_call 40; go_must (refine cp.mono ?_; rintro e w2 ⟨rfl, hb2⟩; have q1 := (HKP.out _ hb2).1))
        go_meet
        exact ⟨by rw [HR0.out, decide_eq_false (show ¬ (1 ≤ xk) by omega)]; rfl, hb2⟩
      by_cases k5 : 5 < xk
      case pos =>
        go_wp2_with (go_at_call 40; go_must (refine cp.mono ?_; rintro e w2 ⟨rfl, hb2⟩; have q1 := (HKP.out _ hb2).1))
        go_meet
        exact ⟨by rw [HR0.out, decide_eq_false (show ¬ (xk ≤ 5) by omega), Bool.and_false]; rfl, hb2⟩
      by_cases k20 : 20 < xc.length
      case pos =>
        have k20' : (20 : Int) < (xc.length : Int) := by omega
        go_wp2_with (go_at_call 40; go_must (refine cp.mono ?_; rintro e w2 ⟨rfl, hb2⟩; have q1 := (HKP.out _ hb2).1; have q4 := (HKP.out _ hb2).2.1))
        go_meet
        exact ⟨by rw [HR0.out, decide_eq_false (show ¬ (xc.length ≤ 20) by omega), Bool.and_false]; rfl, hb2⟩
      have k20' : ¬ ((20 : Int) < (xc.length : Int)) := by omega
      by_cases k200 : 200 < xd.size
      case pos =>
        have k200' : (200 : Int) < (xd.size : Int) := by omega
        go_wp2_with (go_at_call 40; go_must (refine cp.mono ?_; rintro e w2 ⟨rfl, hb2⟩; have q1 := (HKP.out _ hb2).1; have q4 := (HKP.out _ hb2).2.1; have q6 := (HKP.out _ hb2).2.2))
        go_meet
        exact ⟨by rw [HR0.out, decide_eq_false (show ¬ (xd.size ≤ 200) by omega), Bool.and_false]; rfl, hb2⟩
      have k200' : ¬ ((200 : Int) < (xd.size : Int)) := by omega
      go_wp2_with (go_at_call 40; go_must (refine cp.mono ?_; rintro e w2 ⟨rfl, hb2⟩; have q1 := (HKP.out _ hb2).1; have q4 := (HKP.out _ hb2).2.1; have q6 := (HKP.out _ hb2).2.2))
      go_meet
      exact ⟨by rw [HR0.out, decide_eq_true (show 1 ≤ xk by omega), decide_eq_true (show xk ≤ 5 by omega), decide_eq_true (show xc.length ≤ 20 by omega), decide_eq_true (show xd.size ≤ 200 by omega), decide_eq_false (show ¬ (xk < 1) by omega), decide_eq_false (show ¬ (5 < xk) by omega), decide_eq_false (show ¬ ((20 : Int) < (xc.length : Int)) by omega), decide_eq_false (show ¬ ((200 : Int) < (xd.size : Int)) by omega)]; rfl, hb2⟩
    case rest =>
      obtain ⟨rfl, hbc⟩ := hcut
      obtain ⟨wC, hwC⟩ : ∃ wC, wC = wc := ⟨_, rfl⟩
      subst hwC
      have HBC : Hid (Below w.heap.size w wC) := good_below HBA.out hbc
      have HBK2 : Hid (Blk wC gx 37 #[.string xp, .int .i64 xk, .int .i64 xi, .int .i64 xa, .slice za xc.length zc, .bool xm, .string xd]) := Blk.below HBK.out hbc
      clear hbc cp q0 HKP HBK HBA
      cases hR0 : ruleB0 ⟨xp, xk, xi, xa, xc, xm, xd⟩
      case false =>
        have hr := HBAD.out (fun h => by have := (HRA.out.1 h).1; rw [hR0] at this; cases this)
        subst hr
        go_wp2_with fail
        go_ret
        exact ⟨rfl, HBC.out⟩
      have HR0 : Hid (ruleB0 ⟨xp, xk, xi, xa, xc, xm, xd⟩ = true) := hR0
      have hdz : xd.size ≤ 200 := by
        unfold ruleB0 at hR0
        simp only [Bool.and_eq_true, decide_eq_true_eq] at hR0
        exact hR0.2
      clear hR0
      have hcc : 0 < xc.length → ∃ cb co, za = some ⟨cb, co, none⟩ ∧ cb < w.heap.size ∧ ∀ j (hj : j < xc.length), w.cell? ⟨cb, co + j, none⟩ = some (.string xc[j]) := fun h0 => by
        obtain ⟨_, ta, tc, htv, hcl⟩ := HNV.out
        simp only [Value.slice.injEq] at htv
        obtain ⟨rfl, -, rfl⟩ := htv
        obtain ⟨cb, co, rfl, hcS, hcl⟩ := hcl h0
        exact ⟨cb, co, rfl, HS.out cb hcS, hcl⟩
      have HCC : Hid (0 < xc.length → ∃ cb co, za = some ⟨cb, co, none⟩ ∧ cb < w.heap.size ∧ ∀ j (hj : j < xc.length), w.cell? ⟨cb, co + j, none⟩ = some (.string xc[j])) := hcc
      have q4 := HBK2.out.cell 4
      simp at q4
      clear hcc
      go_wp2_with fail
      go_loopw [5] (fun i5 wz => ∃ j : Nat, i5 = .int .i64 (j : Int) ∧ j ≤ xc.length ∧ (∀ i (hi : i < xc.length), i < j → xc[i].size ≤ 200) ∧ wz = wC) (fun i5 _ => xc.length - (intOf i5).toNat)
      case atStart => exact ⟨0, rfl, by omega, fun i _ h => by omega, rfl⟩
      case round =>
        obtain ⟨j, rfl, hj, hcs, rfl⟩ := hrel
        have HCS : Hid (∀ i (hi : i < xc.length), i < j → xc[i].size ≤ 200) := hcs
        clear hcs
        by_cases hjn : j < xc.length
        · have hjn' : (j : Int) < (xc.length : Int) := by omega
          obtain ⟨cb, co, rfl, hcw, hcl⟩ := HCC.out (by omega)
          have r0 := (HBC.out.cell (p := ⟨cb, co + j, none⟩) hcw).trans (hcl j hjn)
          have hcz := hokx.2.2.2 xc[j] (List.getElem_mem hjn)
          unfold TxtsOK at hcz
          have hst : xc[j].size ≤ 200 → ∀ i (hi : i < xc.length), i < j + 1 → xc[i].size ≤ 200 := fun h0 i hi hik => by
            by_cases e : i = j
            · subst e; exact h0
            · exact HCS.out i hi (by omega)
          have hbd : ¬ (xc[j].size ≤ 200) → ¬ RA := fun h0 h => h0 ((HRA.out.1 h).2.1 xc[j] (List.getElem_mem hjn))
          obtain ⟨y, hy⟩ : ∃ y, xc[j] = y := ⟨_, rfl⟩
          rw [hy] at r0 hcz hst hbd
          have HST : Hid (y.size ≤ 200 → ∀ i (hi : i < xc.length), i < j + 1 → xc[i].size ≤ 200) := hst
          have HBD : Hid (¬ (y.size ≤ 200) → ¬ RA) := hbd
          clear hy hst hbd hcl
          by_cases h200 : y.size ≤ 200
          · have h200' : ¬ ((200 : Int) < (y.size : Int)) := by omega
            go_wp2_with fail
            exact ⟨⟨j + 1, by go_num, by omega, HST.out h200, by trivial⟩, by simp [intOf]; omega⟩
          · have h200' : (200 : Int) < (y.size : Int) := by omega
            have hr := HBAD.out (HBD.out h200)
            subst hr
            go_wp2_with fail
            go_ret
            exact ⟨rfl, HBC.out⟩
        · obtain rfl : j = xc.length := by omega
          have hjn' : ¬ ((xc.length : Int) < (xc.length : Int)) := by omega
          have hcall : ∀ c ∈ xc, c.size ≤ 200 := fun c hc => by
            obtain ⟨i, hi, rfl⟩ := List.getElem_of_mem hc
            exact HCS.out i hi hi
          have HCALL : Hid (∀ c ∈ xc, c.size ≤ 200) := hcall
          obtain ⟨wE, hwE⟩ : ∃ wE, wE = wr := ⟨_, rfl⟩
          subst hwE
          clear hcall HCS
          go_wp2_with fail
          go_loopw [6] (fun i6 wz => ∃ j : Nat, i6 = .int .i64 (j : Int) ∧ j ≤ l.length ∧ (∀ i (hi : i < l.length), i < j → i ≠ k → withinB xp l[i].path = false) ∧ Below wE.heap.size wE wz) (fun i6 _ => l.length - (intOf i6).toNat)
          case atStart => exact ⟨0, rfl, by omega, fun i _ h => by omega, Below.refl _ _⟩
          case round =>
            obtain ⟨j, rfl, hj, hap, hbz⟩ := hrel
            have HAP : Hid (∀ i (hi : i < l.length), i < j → i ≠ k → withinB xp l[i].path = false) := hap
            have HBZ : Hid (Below wE.heap.size wE wr) := hbz
            have HBK3 : Hid (Blk wr gx 37 #[.string xp, .int .i64 xk, .int .i64 xi, .int .i64 xa, .slice za xc.length zc, .bool xm, .string xd]) := Blk.below HBK2.out hbz
            clear hap
            by_cases hjn : j < l.length
            · have hjl' : (j : Int) < (l.length : Int) := by omega
              by_cases hjk : j = k
              · subst hjk
                go_upto_region 17 with fail
                go_quiet (fail)
                go_wp2_with fail
                exact ⟨⟨j + 1, by go_num, by omega, fun i hi hij hne => HAP.out i hi (by omega) hne, bel_drewN HBZ.out nq⟩, by simp [intOf]; omega⟩
              obtain ⟨b', off', e', hbS', hcell'⟩ := HC.out (by omega)
              simp only [Option.some.injEq, Addr.mk.injEq] at e'
              obtain ⟨rfl, rfl, -⟩ := e'
              have r0 := (((good_below HBC.out hbz)).cell (p := ⟨b, off + j * 7, none⟩) hbw).trans (hcell' j hjn).1
              have r1 := HBK3.out.cell 0
              simp at r1
              have hjz := HOK.out l[j] (List.getElem_mem hjn)
              unfold RulesOK at hjz
              have hst : withinB xp l[j].path = false → ∀ i (hi : i < l.length), i < j + 1 → i ≠ k → withinB xp l[i].path = false := fun h0 i hi hik hne => by
                by_cases e : i = j
                · subst e; exact h0
                · exact HAP.out i hi (by omega) hne
              have hbd : withinB xp l[j].path = true → ¬ RA := fun h0 h => by
                have := (HRA.out.1 h).2.2.1 j hjn hjk
                rw [h0] at this; cases this
              obtain ⟨y, hy⟩ : ∃ y, l[j].path = y := ⟨_, rfl⟩
              rw [hy] at r0 hjz hst hbd
              have HST : Hid (withinB xp y = false → ∀ i (hi : i < l.length), i < j + 1 → i ≠ k → withinB xp l[i].path = false) := hst
              have HBD : Hid (withinB xp y = true → ¬ RA) := hbd
              have cw := fun w => specWithinR xp y (by omega) (by omega) w
              obtain ⟨B1, hB1⟩ : ∃ B1, withinB xp y = B1 := ⟨_, rfl⟩
              rw [hB1] at cw HST HBD
              have hjk' : ¬ ((j : Int) = (k : Int)) := by omega
              have hjk2 : ((j : Int) == (k : Int)) = false := by rw [beq_eq_false_iff_ne]; omega
              clear hy hst hbd hcell' hB1
              cases B1
              · go_upto_region 17 with fail
                go_quiet ((go_at_call 41; exact Calls.quiet_of_same (cw _)))
                go_wp2_with fail
                exact ⟨⟨j + 1, by go_num, by omega, HST.out rfl, bel_drewN HBZ.out nq⟩, by simp [intOf]; omega⟩
              · have hr := HBAD.out (HBD.out rfl)
                subst hr
                go_upto_region 17 with fail
                go_quiet ((go_at_call 41; exact Calls.quiet_of_same (cw _)))
                go_wp2_with fail
                go_ret
                exact ⟨rfl, good_below HBC.out (bel_drewN HBZ.out nq)⟩
            · obtain rfl : j = l.length := by omega
              have hjl' : ¬ ((l.length : Int) < (l.length : Int)) := by omega
              have hapa : ∀ i (hi : i < l.length), i ≠ k → withinB xp l[i].path = false := fun i hi hne => HAP.out i hi hi hne
              have HAPA : Hid (∀ i (hi : i < l.length), i ≠ k → withinB xp l[i].path = false) := hapa
              have hbw2 := good_below HBC.out hbz
              have HBW2 : Hid (Below w.heap.size w wr) := hbw2
              have cf := specFit (w := wr) ⟨xp, xk, xi, xa, xc, xm, xd⟩ (.slice za xc.length zc) (fun b hb => Nat.lt_of_lt_of_le (HS.out b hb) hbw2.size) (HNV.out.keep (cells_below HS.out hbw2)) xd (by omega)
              unfold rVal at cf
              have hdb : defB ⟨xp, xk, xi, xa, xc, xm, xd⟩ = ((xd.toList == []) || ((fitP ⟨xp, xk, xi, xa, xc, xm, xd⟩ xd).2 == 0)) := rfl
              obtain ⟨FV, hFV⟩ : ∃ FV, fitP ⟨xp, xk, xi, xa, xc, xm, xd⟩ xd = FV := ⟨_, rfl⟩
              rw [hFV] at cf hdb
              obtain ⟨f1, f2⟩ := FV
              dsimp only at cf hdb
              have HDB : Hid (defB ⟨xp, xk, xi, xa, xc, xm, xd⟩ = ((xd.toList == []) || (f2 == 0))) := hdb
              have s0 := HBK3.out.cell 0
              have s1 := HBK3.out.cell 1
              have s2 := HBK3.out.cell 2
              have s3 := HBK3.out.cell 3
              have s4 := HBK3.out.cell 4
              have s5 := HBK3.out.cell 5
              have s6 := HBK3.out.cell 6
              simp at s0 s1 s2 s3 s4 s5 s6
              clear hapa hbz hbw2 hFV hdb q4
              cases hd : (xd.toList == [])
              case true =>
                have hd1 := HDB.out
                rw [hd, Bool.true_or] at hd1
                have HGO : Hid RA := HRA.out.2 ⟨HR0.out, HCALL.out, HAPA.out, hd1⟩
                clear hd1 cf
                go_wp2_with fail
                exact ⟨⟨k + 1, by go_num, by omega, HSTEP.out HGO.out, HBW2.out⟩, by simp [intOf]; omega⟩
              cases hf : (f2 == 0)
              case true =>
                have hd1 := HDB.out
                rw [hf, Bool.or_true] at hd1
                have HGO : Hid RA := HRA.out.2 ⟨HR0.out, HCALL.out, HAPA.out, hd1⟩
                clear hd1
                go_wp2_with (go_at_call 19; go_must (refine cf.mono ?_; rintro e w9 ⟨rfl, hb9⟩))
                exact ⟨⟨k + 1, by go_num, by omega, HSTEP.out HGO.out, good_below HBW2.out hb9⟩, by simp [intOf]; omega⟩
              have hd1 := HDB.out
              rw [hf, hd, Bool.or_false] at hd1
              have hr := HBAD.out (fun h => by have := (HRA.out.1 h).2.2.2; rw [hd1] at this; cases this)
              subst hr
              clear hd1
              go_wp2_with (go_at_call 19; go_must (refine cf.mono ?_; rintro e w9 ⟨rfl, hb9⟩))
              go_ret
              exact ⟨rfl, good_below HBW2.out hb9⟩
end Go.Proofs.YtphocibgfdihoaaGreatDoor


