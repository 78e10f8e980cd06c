/-
  Texts and numbers. Numbers as the document reads them; the contract of spec.l00Number. No statement of the seat is proved here.
-/
import Derived.Test.YtbkhkpdpaaphoaaDoorH0
import Derived.Test.YtbkhkpdpaaphoaaDoorTail
import Derived.Test.YtbkhkpdpaaphoaaDoorDec
import Derived.Test.YtbkhkpdpaaphoaaDoorTools
import Derived.Deep.Cut
import Derived.Deep.CutRange
namespace Go.Proofs.YtbkhkpdpaaphoaaDoor
open Go.ChangeShapes Go.WideShapes Go.ChangeAt Go.RowKit
set_option linter.unusedVariables false
set_option linter.unusedSimpArgs false

end Go.Proofs.YtbkhkpdpaaphoaaDoor

namespace Go.Proofs.YtbkhkpdpaaphoaaDoor
open Go.ChangeShapes Go.WideShapes Go.ChangeAt Go.RowKit
set_option linter.unusedVariables false
set_option linter.unusedSimpArgs false

def numOf (l : List UInt8) : Nat := l.foldl (fun n b => n * 10 + (b.toNat - 48)) 0
theorem numOf_succ (d : ByteArray) (k : Nat) (h : k < d.size) : numOf (d.data.toList.take (k + 1)) = numOf (d.data.toList.take k) * 10 + (byt d k - 48) := by
  have hl : k < d.data.toList.length := by simpa using h
  unfold numOf
  rw [List.take_succ_eq_append_getElem hl, List.foldl_append]
  simp only [List.foldl_cons, List.foldl_nil]
  have : (d.data.toList[k]).toNat = byt d k := by
    rw [← byt_eq d k h]; rfl
  rw [this]
theorem numOf_lt (d : ByteArray) (k : Nat) (hd : ∀ i, i < k → 48 ≤ byt d i ∧ byt d i ≤ 57) (h : k ≤ d.size) : numOf (d.data.toList.take k) < 10 ^ k := by
  induction k with
  | zero => simp [numOf]
  | succ k ih =>
    rw [numOf_succ d k (by omega), Nat.pow_succ]
    have := ih (fun i hi => hd i (by omega)) (by omega)
    have := hd k (by omega)
    omega
def digsB (d : ByteArray) : Bool := (List.range d.size).all fun i => decide (48 ≤ byt d i) && decide (byt d i ≤ 57)
def negB (t : ByteArray) : Bool := decide (0 < t.size) && decide (byt t 0 = 45)
def absT (t : ByteArray) : ByteArray := if negB t then t.extract 1 t.size else t
def headB (d : ByteArray) (neg : Bool) : Bool := decide (d.size = 0) || decide (18 < d.size) || (decide (byt d 0 = 48) && (decide (1 < d.size) || neg))
def numB (t : ByteArray) : Bool := !headB (absT t) (negB t) && digsB (absT t)
def numV (t : ByteArray) : Int := if numB t then (if negB t then -1 else 1) * (numOf (absT t).data.toList : Int) else 0
theorem digs_no {d : ByteArray} {k : Nat} (hk : k < d.size) (h : ¬ (48 ≤ byt d k ∧ byt d k ≤ 57)) : digsB d = false := by
  unfold digsB
  rw [List.all_eq_false]
  exact ⟨k, List.mem_range.2 hk, by simpa using h⟩
theorem digs_yes {d : ByteArray} (h : ∀ i, i < d.size → 48 ≤ byt d i ∧ byt d i ≤ 57) : digsB d = true := by
  unfold digsB
  rw [List.all_eq_true]
  intro i hi
  simpa using h i (List.mem_range.1 hi)
set_option maxRecDepth 100000 in
set_option maxHeartbeats 2000000 in
theorem specNumber (t : ByteArray) (ht : t.size ≤ 1048576) (w : World) :
    Calls Tryd.prog 11 #[.string t] w fun e w' => e = .returned (.tuple #[.int .i64 (numV t), .bool (numB t)]) ∧ w' = w := by
  have hbt := fun h => byt_eq t 0 h
  have hts : (t.size : Int) ≤ 1048576 := by omega
  have hda : (absT t).size ≤ 1048576 := by
    unfold absT; split
    · rw [ByteArray.size_extract]; omega
    · exact ht
  have hval : numV t = if numB t then (if negB t then -1 else 1) * (numOf (absT t).data.toList : Int) else 0 := rfl
  have hnb : numB t = (!headB (absT t) (negB t) && digsB (absT t)) := rfl
  have hneg : negB t = (decide (0 < t.size) && decide (byt t 0 = 45)) := rfl
  have habs : absT t = if negB t then t.extract 1 t.size else t := rfl
  obtain ⟨NV, hNV⟩ : ∃ NV, numV t = NV := ⟨_, rfl⟩
  obtain ⟨NB, hNB⟩ : ∃ NB, numB t = NB := ⟨_, rfl⟩
  obtain ⟨d, hd⟩ : ∃ d, absT t = d := ⟨_, rfl⟩
  obtain ⟨ng, hng⟩ : ∃ ng, negB t = ng := ⟨_, rfl⟩
  rw [hNV, hNB, hng, hd] at hval
  rw [hNB, hd, hng] at hnb
  rw [hng] at hneg habs
  rw [hd] at habs hda
  rw [hNV, hNB]
  have HV : Hid (NV = if NB = true then (if ng = true then -1 else 1) * (numOf d.data.toList : Int) else 0) := hval
  have HNB : Hid (NB = (!headB d ng && digsB d)) := hnb
  have HNG : Hid (ng = (decide (0 < t.size) && decide (byt t 0 = 45))) := hneg
  have HAB : Hid (d = if ng = true then t.extract 1 t.size else t) := habs
  clear hNV hNB hd hng hval hnb hneg habs
  cases ng
  case true =>
    have hn := HNG.out
    obtain ⟨h0, h45⟩ : 0 < t.size ∧ byt t 0 = 45 := by simpa using hn.symm
    have h0' : (0 : Int) < (t.size : Int) := by omega
    have hb45 := hbt h0
    rw [h45] at hb45
    have hab0 := HAB.out
    rw [if_pos rfl] at hab0
    have HAB2 : Hid (d = t.extract 1 t.size) := hab0
    clear hab0 HAB
    have hlo : (1 : Int) ≤ (t.size : Int) := by omega
    clear hbt hn
    go_enter Tryd.func11, Tryd.ntmps11
    go_upto_region 5 with fail
    rw [← HAB2.out]
    go_cut [38] from 17 to 39 (fun s38 wx => s38 = .bool (headB d true) ∧ wx = w)
    case first =>
      have HH : Hid (headB d true = (decide (d.size = 0) || decide (18 < d.size) || (decide (byt d 0 = 48) && (decide (1 < d.size) || true)))) := (show headB d true = (decide (d.size = 0) || decide (18 < d.size) || (decide (byt d 0 = 48) && (decide (1 < d.size) || true))) from rfl)
      by_cases s0 : d.size = 0
      · have s0' : ((d.size : Int) == 0) = true := by rw [beq_iff_eq]; omega
        have e := HH.out
        rw [decide_eq_true s0] at e
        simp only [Bool.true_or] at e
        have HE : Hid (headB d true = true) := e
        clear e
        go_wp2_with fail
        go_meet
        exact ⟨by rw [HE.out], rfl⟩
      have s0' : ((d.size : Int) == 0) = false := by rw [beq_eq_false_iff_ne]; omega
      by_cases s18 : 18 < d.size
      · have s18' : (18 : Int) < (d.size : Int) := by omega
        have e := HH.out
        rw [decide_eq_true s18] at e
        simp only [Bool.true_or, Bool.or_true] at e
        have HE : Hid (headB d true = true) := e
        clear e
        go_wp2_with fail
        go_meet
        exact ⟨by rw [HE.out], rfl⟩
      have s18' : ¬ ((18 : Int) < (d.size : Int)) := by omega
      have hpos : (0 : Int) < (d.size : Int) := by omega
      have hb0 := byt_eq d 0 (by omega)
      by_cases b48 : byt d 0 = 48
      · rw [b48] at hb0
        by_cases s1 : 1 < d.size
        · have s1' : (1 : Int) < (d.size : Int) := by omega
          have e := HH.out
          rw [decide_eq_true b48, decide_eq_true s1] at e
          simp only [Bool.true_or, Bool.or_true, Bool.true_and] at e
          have HE : Hid (headB d true = true) := e
          clear e
          go_wp2_with fail
          go_meet
          exact ⟨by rw [HE.out], rfl⟩
        · have s1' : ¬ ((1 : Int) < (d.size : Int)) := by omega
          have e := HH.out
          rw [decide_eq_true b48, decide_eq_false s1, decide_eq_false s0, decide_eq_false s18] at e
          simp only [Bool.or_false, Bool.false_or, Bool.true_and] at e
          have HE : Hid (headB d true = true) := e
          clear e
          go_wp2_with fail
          go_meet
          exact ⟨by rw [HE.out], rfl⟩
      · have q48 : ((byt d 0 : Int) == 48) = false := by rw [beq_eq_false_iff_ne]; omega
        have e := HH.out
        rw [decide_eq_false b48, decide_eq_false s0, decide_eq_false s18] at e
        simp only [Bool.or_false, Bool.false_or, Bool.false_and] at e
        have HE : Hid (headB d true = false) := e
        obtain ⟨c, hc⟩ : ∃ c, byt d 0 = c := ⟨_, rfl⟩
        rw [hc] at hb0 q48
        clear hc
        clear e b48
        go_wp2_with fail
        go_meet
        exact ⟨by rw [HE.out], rfl⟩
    case rest =>
      obtain ⟨rfl, rfl⟩ := hcut
      obtain ⟨W, hW⟩ : ∃ W, W = wc := ⟨_, rfl⟩
      subst hW
      cases hh : headB d true
      case true =>
        have hn := HNB.out
        rw [hh] at hn
        simp only [Bool.not_true, Bool.false_and] at hn
        subst hn
        have hv := HV.out
        rw [if_neg (by simp)] at hv
        subst hv
        go_wp2_with fail
        go_ret2
        exact ⟨rfl, rfl⟩
      case false =>
      have hn := HNB.out
      rw [hh] at hn
      simp only [Bool.not_false, Bool.true_and] at hn
      have HN2 : Hid (NB = digsB d) := hn
      have h18 : 1 ≤ d.size ∧ d.size ≤ 18 := by
        unfold headB at hh
        simp only [Bool.or_eq_false_iff, decide_eq_false_iff_not] at hh
        omega
      clear hn hh
      go_wp2_with fail
      go_loopw [5, 6] (fun i5 i6 wr => ∃ k : Nat, k ≤ d.size ∧ i6 = .int .i64 (k : Int) ∧ i5 = .int .i64 ((numOf (d.data.toList.take k) : Nat) : Int) ∧ (∀ i, i < k → 48 ≤ byt d i ∧ byt d i ≤ 57) ∧ wr = W) (fun _ i6 _ => d.size - (intOf i6).toNat)
      case atStart => exact ⟨0, by omega, rfl, rfl, fun i hi => by omega, rfl⟩
      case round =>
        obtain ⟨k, hk, rfl, rfl, hdg, rfl⟩ := hrel
        have HDG : Hid (∀ i, i < k → 48 ≤ byt d i ∧ byt d i ≤ 57) := hdg
        have hlt := numOf_lt d k hdg hk
        clear hdg
        by_cases hkn : k < d.size
        · have hkn' : (k : Int) < (d.size : Int) := by omega
          have hbk := byt_eq d k hkn
          have hsu := numOf_succ d k hkn
          have hpw : 10 ^ k ≤ 10 ^ 17 := Nat.pow_le_pow_right (by omega) (by omega)
          have hno := digs_no hkn
          have hst : 48 ≤ byt d k ∧ byt d k ≤ 57 → ∀ i, i < k + 1 → 48 ≤ byt d i ∧ byt d i ≤ 57 := fun h0 i hi => by
            by_cases e : i = k
            · subst e; exact h0
            · exact HDG.out i (by omega)
          obtain ⟨c, hc⟩ : ∃ c, byt d k = c := ⟨_, rfl⟩
          obtain ⟨n, hn⟩ : ∃ n, numOf (d.data.toList.take k) = n := ⟨_, rfl⟩
          obtain ⟨m, hm⟩ : ∃ m, numOf (d.data.toList.take (k + 1)) = m := ⟨_, rfl⟩
          have HM : Hid (numOf (d.data.toList.take (k + 1)) = m) := hm
          rw [hc] at hbk hsu hno hst
          rw [hn] at hlt hsu ⊢
          rw [hm] at hsu
          have HST : Hid (48 ≤ c ∧ c ≤ 57 → ∀ i, i < k + 1 → 48 ≤ byt d i ∧ byt d i ≤ 57) := hst
          have HNO : Hid (¬ (48 ≤ c ∧ c ≤ 57) → digsB d = false) := hno
          have HSU : Hid (m = n * 10 + (c - 48)) := hsu
          have hn17 : n < 100000000000000000 := by omega
          clear hm hn hc hlt hpw hno hst hsu
          by_cases c1 : c < 48
          · have c1' : (c : Int) < 48 := by omega
            have hf := HNO.out (by omega)
            have h1 := HN2.out
            rw [hf] at h1
            subst h1
            have hv := HV.out
            rw [if_neg (by simp)] at hv
            subst hv
            go_wp2_with fail
            go_ret2
            exact ⟨rfl, rfl⟩
          by_cases c2 : 57 < c
          · have c1' : ¬ ((c : Int) < 48) := by omega
            have c2' : (57 : Int) < (c : Int) := by omega
            have hf := HNO.out (by omega)
            have h1 := HN2.out
            rw [hf] at h1
            subst h1
            have hv := HV.out
            rw [if_neg (by simp)] at hv
            subst hv
            go_wp2_with fail
            go_ret2
            exact ⟨rfl, rfl⟩
          have c1' : ¬ ((c : Int) < 48) := by omega
          have c2' : ¬ ((57 : Int) < (c : Int)) := by omega
          go_wp2_with fail
          exact ⟨⟨k + 1, by omega, by go_num, by rw [HM.out, HSU.out]; congr 1; omega, HST.out ⟨by omega, by omega⟩, by trivial⟩, by simp [intOf]; omega⟩
        · obtain rfl : k = d.size := by omega
          have hkn' : ¬ ((d.size : Int) < (d.size : Int)) := by omega
          have hy := digs_yes HDG.out
          have h1 := HN2.out
          rw [hy] at h1
          subst h1
          have hv := HV.out
          simp only [↓reduceIte, Bool.false_eq_true] at hv
          have htk : numOf (d.data.toList.take d.size) = numOf d.data.toList := by rw [List.take_of_length_le (by simp)]
          rw [htk] at hlt ⊢
          have hpw : 10 ^ d.size ≤ 10 ^ 18 := Nat.pow_le_pow_right (by omega) (by omega)
          obtain ⟨N, hN⟩ : ∃ N, numOf d.data.toList = N := ⟨_, rfl⟩
          rw [hN] at hv hlt ⊢
          have hN18 : N < 1000000000000000000 := by omega
          clear hN hlt hpw htk
          have HV2 : Hid (NV = (-1) * (N : Int)) := hv
          clear hv
          go_wp2_with fail
          go_ret2
          exact ⟨by rw [HV2.out]; simp, rfl⟩
  case false =>
    have hab := HAB.out
    rw [if_neg (by simp)] at hab
    subst hab
    have hn := HNG.out
    by_cases h0 : 0 < d.size
    case neg =>
      have h0' : ¬ ((0 : Int) < (d.size : Int)) := by omega
      clear hbt hn
      have hz : ((d.size : Int) == 0) = true := by rw [beq_iff_eq]; omega
      have hd0 : d.size = 0 := by omega
      have h1 := HNB.out
      unfold headB at h1
      rw [decide_eq_true hd0] at h1
      simp only [Bool.true_or, Bool.not_true, Bool.false_and] at h1
      subst h1
      have hv := HV.out
      rw [if_neg (by simp)] at hv
      subst hv
      clear hd0
      go_enter Tryd.func11, Tryd.ntmps11
      go_wp2_with fail
      go_ret2
      exact ⟨rfl, rfl⟩
    have h0' : (0 : Int) < (d.size : Int) := by omega
    have hb45 := hbt h0
    have hne : byt d 0 ≠ 45 := fun e => by rw [decide_eq_true h0, decide_eq_true e] at hn; cases hn
    have q45 : ((byt d 0 : Int) == 45) = false := by rw [beq_eq_false_iff_ne]; omega
    obtain ⟨c45, hc45⟩ : ∃ c, byt d 0 = c := ⟨_, rfl⟩
    rw [hc45] at hb45 q45
    have HC45 : Hid (byt d 0 = c45) := hc45
    clear hbt hn hne hc45
    go_enter Tryd.func11, Tryd.ntmps11
    go_upto_region 5 with fail
    go_cut [38] from 17 to 39 (fun s38 wx => s38 = .bool (headB d false) ∧ wx = w)
    case first =>
      have HH : Hid (headB d false = (decide (d.size = 0) || decide (18 < d.size) || (decide (byt d 0 = 48) && (decide (1 < d.size) || false)))) := (show headB d false = (decide (d.size = 0) || decide (18 < d.size) || (decide (byt d 0 = 48) && (decide (1 < d.size) || false))) from rfl)
      by_cases s0 : d.size = 0
      · have s0' : ((d.size : Int) == 0) = true := by rw [beq_iff_eq]; omega
        have e := HH.out
        rw [decide_eq_true s0] at e
        simp only [Bool.true_or] at e
        have HE : Hid (headB d false = true) := e
        clear e
        go_wp2_with fail
        go_meet
        exact ⟨by rw [HE.out], rfl⟩
      have s0' : ((d.size : Int) == 0) = false := by rw [beq_eq_false_iff_ne]; omega
      by_cases s18 : 18 < d.size
      · have s18' : (18 : Int) < (d.size : Int) := by omega
        have e := HH.out
        rw [decide_eq_true s18] at e
        simp only [Bool.true_or, Bool.or_true] at e
        have HE : Hid (headB d false = true) := e
        clear e
        go_wp2_with fail
        go_meet
        exact ⟨by rw [HE.out], rfl⟩
      have s18' : ¬ ((18 : Int) < (d.size : Int)) := by omega
      have hpos : (0 : Int) < (d.size : Int) := by omega
      by_cases b48 : byt d 0 = 48
      · have e48 : c45 = 48 := HC45.out.symm.trans b48
        subst e48
        by_cases s1 : 1 < d.size
        · have s1' : (1 : Int) < (d.size : Int) := by omega
          have e := HH.out
          rw [decide_eq_true b48, decide_eq_true s1] at e
          simp only [Bool.true_or, Bool.or_true, Bool.true_and] at e
          have HE : Hid (headB d false = true) := e
          clear e
          go_wp2_with fail
          go_meet
          exact ⟨by rw [HE.out], rfl⟩
        · have s1' : ¬ ((1 : Int) < (d.size : Int)) := by omega
          have e := HH.out
          rw [decide_eq_true b48, decide_eq_false s1, decide_eq_false s0, decide_eq_false s18] at e
          simp only [Bool.or_false, Bool.false_or, Bool.true_and] at e
          have HE : Hid (headB d false = false) := e
          clear e
          go_wp2_with fail
          go_meet
          exact ⟨by rw [HE.out], rfl⟩
      · have q48 : ((c45 : Int) == 48) = false := by have := HC45.out; rw [beq_eq_false_iff_ne]; omega
        have e := HH.out
        rw [decide_eq_false b48, decide_eq_false s0, decide_eq_false s18] at e
        simp only [Bool.or_false, Bool.false_or, Bool.false_and] at e
        have HE : Hid (headB d false = false) := e
        clear e b48
        go_wp2_with fail
        go_meet
        exact ⟨by rw [HE.out], rfl⟩
    case rest =>
      obtain ⟨rfl, rfl⟩ := hcut
      obtain ⟨W, hW⟩ : ∃ W, W = wc := ⟨_, rfl⟩
      subst hW
      cases hh : headB d false
      case true =>
        have hn := HNB.out
        rw [hh] at hn
        simp only [Bool.not_true, Bool.false_and] at hn
        subst hn
        have hv := HV.out
        rw [if_neg (by simp)] at hv
        subst hv
        go_wp2_with fail
        go_ret2
        exact ⟨rfl, rfl⟩
      case false =>
      have hn := HNB.out
      rw [hh] at hn
      simp only [Bool.not_false, Bool.true_and] at hn
      have HN2 : Hid (NB = digsB d) := hn
      have h18 : 1 ≤ d.size ∧ d.size ≤ 18 := by
        unfold headB at hh
        simp only [Bool.or_eq_false_iff, decide_eq_false_iff_not] at hh
        omega
      clear hn hh
      go_wp2_with fail
      go_loopw [5, 6] (fun i5 i6 wr => ∃ k : Nat, k ≤ d.size ∧ i6 = .int .i64 (k : Int) ∧ i5 = .int .i64 ((numOf (d.data.toList.take k) : Nat) : Int) ∧ (∀ i, i < k → 48 ≤ byt d i ∧ byt d i ≤ 57) ∧ wr = W) (fun _ i6 _ => d.size - (intOf i6).toNat)
      case atStart => exact ⟨0, by omega, rfl, rfl, fun i hi => by omega, rfl⟩
      case round =>
        obtain ⟨k, hk, rfl, rfl, hdg, rfl⟩ := hrel
        have HDG : Hid (∀ i, i < k → 48 ≤ byt d i ∧ byt d i ≤ 57) := hdg
        have hlt := numOf_lt d k hdg hk
        clear hdg
        by_cases hkn : k < d.size
        · have hkn' : (k : Int) < (d.size : Int) := by omega
          have hbk := byt_eq d k hkn
          have hsu := numOf_succ d k hkn
          have hpw : 10 ^ k ≤ 10 ^ 17 := Nat.pow_le_pow_right (by omega) (by omega)
          have hno := digs_no hkn
          have hst : 48 ≤ byt d k ∧ byt d k ≤ 57 → ∀ i, i < k + 1 → 48 ≤ byt d i ∧ byt d i ≤ 57 := fun h0 i hi => by
            by_cases e : i = k
            · subst e; exact h0
            · exact HDG.out i (by omega)
          obtain ⟨c, hc⟩ : ∃ c, byt d k = c := ⟨_, rfl⟩
          obtain ⟨n, hn⟩ : ∃ n, numOf (d.data.toList.take k) = n := ⟨_, rfl⟩
          obtain ⟨m, hm⟩ : ∃ m, numOf (d.data.toList.take (k + 1)) = m := ⟨_, rfl⟩
          have HM : Hid (numOf (d.data.toList.take (k + 1)) = m) := hm
          rw [hc] at hbk hsu hno hst
          rw [hn] at hlt hsu ⊢
          rw [hm] at hsu
          have HST : Hid (48 ≤ c ∧ c ≤ 57 → ∀ i, i < k + 1 → 48 ≤ byt d i ∧ byt d i ≤ 57) := hst
          have HNO : Hid (¬ (48 ≤ c ∧ c ≤ 57) → digsB d = false) := hno
          have HSU : Hid (m = n * 10 + (c - 48)) := hsu
          have hn17 : n < 100000000000000000 := by omega
          clear hm hn hc hlt hpw hno hst hsu
          by_cases c1 : c < 48
          · have c1' : (c : Int) < 48 := by omega
            have hf := HNO.out (by omega)
            have h1 := HN2.out
            rw [hf] at h1
            subst h1
            have hv := HV.out
            rw [if_neg (by simp)] at hv
            subst hv
            go_wp2_with fail
            go_ret2
            exact ⟨rfl, rfl⟩
          by_cases c2 : 57 < c
          · have c1' : ¬ ((c : Int) < 48) := by omega
            have c2' : (57 : Int) < (c : Int) := by omega
            have hf := HNO.out (by omega)
            have h1 := HN2.out
            rw [hf] at h1
            subst h1
            have hv := HV.out
            rw [if_neg (by simp)] at hv
            subst hv
            go_wp2_with fail
            go_ret2
            exact ⟨rfl, rfl⟩
          have c1' : ¬ ((c : Int) < 48) := by omega
          have c2' : ¬ ((57 : Int) < (c : Int)) := by omega
          go_wp2_with fail
          exact ⟨⟨k + 1, by omega, by go_num, by rw [HM.out, HSU.out]; congr 1; omega, HST.out ⟨by omega, by omega⟩, by trivial⟩, by simp [intOf]; omega⟩
        · obtain rfl : k = d.size := by omega
          have hkn' : ¬ ((d.size : Int) < (d.size : Int)) := by omega
          have hy := digs_yes HDG.out
          have h1 := HN2.out
          rw [hy] at h1
          subst h1
          have hv := HV.out
          simp only [↓reduceIte, Bool.false_eq_true] at hv
          have htk : numOf (d.data.toList.take d.size) = numOf d.data.toList := by rw [List.take_of_length_le (by simp)]
          rw [htk] at hlt ⊢
          have hpw : 10 ^ d.size ≤ 10 ^ 18 := Nat.pow_le_pow_right (by omega) (by omega)
          obtain ⟨N, hN⟩ : ∃ N, numOf d.data.toList = N := ⟨_, rfl⟩
          rw [hN] at hv hlt ⊢
          have hN18 : N < 1000000000000000000 := by omega
          clear hN hlt hpw htk
          have HV2 : Hid (NV = 1 * (N : Int)) := hv
          clear hv
          go_wp2_with fail
          go_ret2
          exact ⟨by rw [HV2.out]; simp, rfl⟩
end Go.Proofs.YtbkhkpdpaaphoaaDoor
