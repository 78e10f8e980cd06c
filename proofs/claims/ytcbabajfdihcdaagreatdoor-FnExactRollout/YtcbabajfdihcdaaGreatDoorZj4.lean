/-
  What a text is by a rule; the contract of spec.l08Fit. Maps that count; texts in their order; what impl.firstTwice answers. spec.l00Cut, l08Within, l08Path: their walks. Paths: parts at points, two ways told; a name has no point. Plain facts. What impl's areNames, isPath, arePaths, areSingle, isLongWord answer. spec.l08Layers: its walk. No statement of the seat is proved here.
-/
import Derived.Test.YtcbabajfdihcdaaGreatDoorZj3
import Derived.Maps.OwnOps
import Derived.Maps.OwnSet
import Derived.WideKeyEntry
import Derived.DeepKeys4
import Derived.Sort.Walk0
import Derived.Laws.Cover1
import Derived.Deep.Cut
import Derived.Lib.Split
import Derived.Shelf.Strings.SplitCore
namespace Go.Proofs.YtcbabajfdihcdaaGreatDoor
open Go.ChangeShapes Go.WideShapes Go.ChangeAt Go.RowKit
set_option linter.unusedVariables false
set_option linter.unusedSimpArgs false

def yesB (t : ByteArray) : Bool := t.toList == [121, 101, 115]
def noB (t : ByteArray) : Bool := t.toList == [110, 111]
def chO (cs : List ByteArray) (t : ByteArray) : Option Nat := cs.findIdx? fun c => c.toList == t.toList
/-- A text's number by a rule, if it is of the rule's form. -/
def formO (r : Rule) (t : ByteArray) : Option Int :=
  if r.kind = 1 then (if numB t then some (numV t) else none)
  else if r.kind = 2 then (if yesB t then some 1 else if noB t then some 0 else none)
  else if r.kind = 3 then some (t.size : Int)
  else if r.kind = 4 then Option.map (fun (i : Nat) => (i : Int)) (chO r.choices t)
  else (if spanB t then some (spanV t) else none)
def boundB (r : Rule) : Bool := !(r.kind == 2) && !(r.kind == 4)
def fitO (BB : Bool) (mi ma : Int) : Option Int → Int × Int
  | none => (0, 3)
  | some n => if BB && (decide (n < mi) || decide (ma < n)) then (0, 9) else (n, 0)
def fitP (r : Rule) (t : ByteArray) : Int × Int := fitO (boundB r) r.min' r.max' (formO r t)
theorem fitO_none (BB : Bool) (mi ma : Int) : fitO BB mi ma none = (0, 3) := rfl
theorem fitO_some (BB : Bool) (mi ma n : Int) : fitO BB mi ma (some n) = if BB && (decide (n < mi) || decide (ma < n)) then (0, 9) else (n, 0) := rfl
theorem fitO_free (mi ma n : Int) : fitO false mi ma (some n) = (n, 0) := rfl
def rVal (r : Rule) (cv : Value) : Value := .agg #[.string r.path, .int .i64 r.kind, .int .i64 r.min', .int .i64 r.max', cv, .bool r.must, .string r.default']
theorem ch_hit {l : List ByteArray} {t : ByteArray} {k : Nat} (hk : k < l.length) (h : ∀ i (hi : i < l.length), i < k → (l[i].toList == t.toList) = false) (h1 : (l[k].toList == t.toList) = true) : chO l t = some k := by
  unfold chO
  rw [List.findIdx?_eq_some_iff_getElem]
  exact ⟨hk, h1, fun j hj => by rw [h j (by omega) hj]; simp⟩
theorem ch_miss {l : List ByteArray} {t : ByteArray} (h : ∀ i (hi : i < l.length), (l[i].toList == t.toList) = false) : chO l t = none := by
  unfold chO
  rw [List.findIdx?_eq_none_iff]
  intro x hx
  obtain ⟨i, hi, rfl⟩ := List.getElem_of_mem hx
  exact h i hi
set_option maxRecDepth 100000 in
set_option maxHeartbeats 4000000 in
theorem specFit {S : Nat → Prop} (r : Rule) (cv : Value) (w : World) (hS : ∀ b, S b → b < w.heap.size) (hch : TxtsAt S w cv r.choices) (t : ByteArray) (ht : t.size ≤ 1048576) :
    Calls Tryz.prog 58 #[rVal r cv, .string t] w fun e w' => e = .returned (.tuple #[.int .i64 (fitP r t).1, .int .i64 (fitP r t).2]) ∧ Below w.heap.size w w' := by
  have hfp : fitP r t = fitO (boundB r) r.min' r.max' (formO r t) := rfl
  have hfo : formO r t = if r.kind = 1 then (if numB t then some (numV t) else none) else if r.kind = 2 then (if yesB t then some 1 else if noB t then some 0 else none) else if r.kind = 3 then some (t.size : Int) else if r.kind = 4 then Option.map (fun (i : Nat) => (i : Int)) (chO r.choices t) else (if spanB t then some (spanV t) else none) := rfl
  have hbb : boundB r = (!(r.kind == 2) && !(r.kind == 4)) := rfl
  have hts : (t.size : Int) ≤ 1048576 := by omega
  have cN := fun w => specNumber t ht w
  have cS := fun w => specSpan t ht w
  unfold rVal
  obtain ⟨PV, hPV⟩ : ∃ PV, fitP r t = PV := ⟨_, rfl⟩
  obtain ⟨FO, hFO⟩ : ∃ FO, formO r t = FO := ⟨_, rfl⟩
  obtain ⟨BB, hBB⟩ : ∃ BB, boundB r = BB := ⟨_, rfl⟩
  rw [hPV, hFO, hBB] at hfp
  rw [hFO] at hfo
  rw [hBB] at hbb
  rw [hPV]
  clear hPV hFO hBB
  obtain ⟨rp, rk, rmi, rma, rc, rm, rd⟩ := r
  dsimp only at hfp hfo hbb hch ⊢
  have HFP : Hid (PV = fitO BB rmi rma FO) := hfp
  have HFO : Hid (FO = if rk = 1 then (if numB t = true then some (numV t) else none) else if rk = 2 then (if yesB t = true then some 1 else if noB t = true then some 0 else none) else if rk = 3 then some (t.size : Int) else if rk = 4 then Option.map (fun (i : Nat) => (i : Int)) (chO rc t) else (if spanB t = true then some (spanV t) else none)) := hfo
  have HBB : Hid (BB = (!(rk == 2) && !(rk == 4))) := hbb
  have hw1 : Below w.heap.size w (w.alloc (.cells #[.string rp, .int .i64 rk, .int .i64 rmi, .int .i64 rma, cv, .bool rm, .string rd] 72)) := (Below.refl _ w).alloc (Nat.le_refl _) _
  have hbk : Blk (w.alloc (.cells #[.string rp, .int .i64 rk, .int .i64 rmi, .int .i64 rma, cv, .bool rm, .string rd] 72)) w.heap.size 72 #[.string rp, .int .i64 rk, .int .i64 rmi, .int .i64 rma, cv, .bool rm, .string rd] := heap_alloc_last w _
  have HCH : Hid (TxtsAt S w cv rc) := hch
  have HS : Hid (∀ b, S b → b < w.heap.size) := hS
  have HW1 : Hid (Below w.heap.size w (w.alloc (.cells #[.string rp, .int .i64 rk, .int .i64 rmi, .int .i64 rma, cv, .bool rm, .string rd] 72))) := hw1
  have HBK : Hid (Blk (w.alloc (.cells #[.string rp, .int .i64 rk, .int .i64 rmi, .int .i64 rma, cv, .bool rm, .string rd] 72)) w.heap.size 72 #[.string rp, .int .i64 rk, .int .i64 rmi, .int .i64 rma, cv, .bool rm, .string rd]) := hbk
  clear hfp hfo hbb hch hS hw1 hbk
  obtain ⟨a, cap, hcv⟩ := HCH.out.shape
  subst hcv
  by_cases k1 : rk = 1
  · subst k1
    have hf2 := HFO.out
    rw [if_pos rfl] at hf2
    have hb2 := HBB.out
    have hb3 : BB = true := by rw [hb2]; rfl
    have HB2 : Hid (BB = true) := hb3
    obtain ⟨NN, hNN⟩ : ∃ NN, numV t = NN := ⟨_, rfl⟩
    obtain ⟨OK, hOK⟩ : ∃ OK, numB t = OK := ⟨_, rfl⟩
    rw [hNN, hOK] at hf2 cN
    have HF2 : Hid (FO = if OK = true then some NN else none) := hf2
    have q0 := HBK.out.cell 1
    have q2 := HBK.out.cell 2
    have q3 := HBK.out.cell 3
    simp at q0 q2 q3
    clear hf2 hb2 hb3 hNN hOK cS
    cases OK
    case false =>
      have hp := HFP.out
      rw [HF2.out, if_neg (by simp), fitO_none] at hp
      subst hp
      go_enter Tryz.func58, Tryz.ntmps58
      go_wp2_with (go_at_call 88; go_must (refine (cN _).mono ?_; rintro e w2 ⟨rfl, rfl⟩))
      go_ret2
      exact ⟨rfl, HW1.out⟩
    have hp := HFP.out
    rw [HF2.out, if_pos rfl, HB2.out, fitO_some] at hp
    simp only [Bool.true_and] at hp
    have HP : Hid (PV = if (decide (NN < rmi) || decide (rma < NN)) = true then (0, 9) else (NN, 0)) := hp
    clear hp
    by_cases n1 : NN < rmi
    · have hp := HP.out
      rw [decide_eq_true n1, Bool.true_or, if_pos rfl] at hp
      subst hp
      go_enter Tryz.func58, Tryz.ntmps58
      go_wp2_with (go_at_call 88; go_must (refine (cN _).mono ?_; rintro e w2 ⟨rfl, rfl⟩))
      go_ret2
      exact ⟨rfl, HW1.out⟩
    by_cases n2 : rma < NN
    · have hp := HP.out
      rw [decide_eq_true n2, Bool.or_true, if_pos rfl] at hp
      subst hp
      go_enter Tryz.func58, Tryz.ntmps58
      go_wp2_with (go_at_call 88; go_must (refine (cN _).mono ?_; rintro e w2 ⟨rfl, rfl⟩))
      go_ret2
      exact ⟨rfl, HW1.out⟩
    have hp := HP.out
    rw [decide_eq_false n1, decide_eq_false n2, Bool.or_false, if_neg (by simp)] at hp
    subst hp
    go_enter Tryz.func58, Tryz.ntmps58
    go_wp2_with (go_at_call 88; go_must (refine (cN _).mono ?_; rintro e w2 ⟨rfl, rfl⟩))
    go_ret2
    exact ⟨rfl, HW1.out⟩
  have b1 : ((rk : Int) == 1) = false := by rw [beq_eq_false_iff_ne]; exact k1
  by_cases k2 : rk = 2
  · subst k2
    have hf2 := HFO.out
    rw [if_neg k1, if_pos rfl] at hf2
    have hb3 : BB = false := by rw [HBB.out]; rfl
    have q0 := HBK.out.cell 1
    simp at q0
    have hp := HFP.out
    rw [hf2, hb3] at hp
    have HP : Hid (PV = fitO false rmi rma (if yesB t = true then some (1 : Int) else if noB t = true then some 0 else none)) := hp
    clear hp hf2 hb3 cN cS
    unfold yesB noB at HP
    cases y1 : (t.toList == [121, 101, 115])
    case true =>
      have hp := HP.out
      rw [y1, if_pos rfl, fitO_free] at hp
      subst hp
      go_enter Tryz.func58, Tryz.ntmps58
      go_wp2_with fail
      go_ret2
      exact ⟨rfl, HW1.out⟩
    cases y2 : (t.toList == [110, 111])
    case true =>
      have hp := HP.out
      rw [y1, if_neg (by simp), y2, if_pos rfl, fitO_free] at hp
      subst hp
      go_enter Tryz.func58, Tryz.ntmps58
      go_wp2_with fail
      go_ret2
      exact ⟨rfl, HW1.out⟩
    have hp := HP.out
    rw [y1, if_neg (by simp), y2, if_neg (by simp), fitO_none] at hp
    subst hp
    go_enter Tryz.func58, Tryz.ntmps58
    go_wp2_with fail
    go_ret2
    exact ⟨rfl, HW1.out⟩
  have b2 : ((rk : Int) == 2) = false := by rw [beq_eq_false_iff_ne]; exact k2
  by_cases k3 : rk = 3
  · subst k3
    have hf2 := HFO.out
    rw [if_neg k1, if_neg k2, if_pos rfl] at hf2
    have hb3 : BB = true := by rw [HBB.out]; rfl
    have HB2 : Hid (BB = true) := hb3
    obtain ⟨NN, hNN⟩ : ∃ NN, (t.size : Int) = NN := ⟨_, rfl⟩
    obtain ⟨OK, hOK⟩ : ∃ OK, true = OK := ⟨_, rfl⟩
    have hf3 : FO = if OK = true then some NN else none := by rw [hf2, ← hOK, if_pos rfl, hNN]
    have HF2 : Hid (FO = if OK = true then some NN else none) := hf3
    have q0 := HBK.out.cell 1
    have q2 := HBK.out.cell 2
    have q3 := HBK.out.cell 3
    simp at q0 q2 q3
    clear hf2 hb3 hf3 cN cS
    subst hOK
    have hp := HFP.out
    rw [HF2.out, if_pos rfl, HB2.out, fitO_some] at hp
    simp only [Bool.true_and] at hp
    have HP : Hid (PV = if (decide (NN < rmi) || decide (rma < NN)) = true then (0, 9) else (NN, 0)) := hp
    clear hp
    by_cases n1 : NN < rmi
    · have hp := HP.out
      rw [decide_eq_true n1, Bool.true_or, if_pos rfl] at hp
      subst hp
      go_enter Tryz.func58, Tryz.ntmps58
      go_wp2_with fail
      go_ret2
      exact ⟨rfl, HW1.out⟩
    by_cases n2 : rma < NN
    · have hp := HP.out
      rw [decide_eq_true n2, Bool.or_true, if_pos rfl] at hp
      subst hp
      go_enter Tryz.func58, Tryz.ntmps58
      go_wp2_with fail
      go_ret2
      exact ⟨rfl, HW1.out⟩
    have hp := HP.out
    rw [decide_eq_false n1, decide_eq_false n2, Bool.or_false, if_neg (by simp)] at hp
    subst hp
    go_enter Tryz.func58, Tryz.ntmps58
    go_wp2_with fail
    go_ret2
    exact ⟨rfl, HW1.out⟩
  have b3 : ((rk : Int) == 3) = false := by rw [beq_eq_false_iff_ne]; exact k3
  by_cases k4 : rk = 4
  · subst k4
    have hf2 := HFO.out
    rw [if_neg k1, if_neg k2, if_neg k3, if_pos rfl] at hf2
    have hb3 : BB = false := by rw [HBB.out]; rfl
    have hp := HFP.out
    rw [hf2, hb3] at hp
    have HP : Hid (PV = fitO false rmi rma (Option.map (fun (i : Nat) => (i : Int)) (chO rc t))) := hp
    have hlm := HCH.out.1
    have hlm' : (rc.length : Int) ≤ 9223372036854775807 := by simp [maxLen] at hlm; omega
    have q0 := HBK.out.cell 1
    simp at q0
    go_enter Tryz.func58, Tryz.ntmps58
    go_wp2_with fail
    obtain ⟨wA, hwA⟩ : ∃ wA, w.alloc (.cells #[.string rp, .int .i64 4, .int .i64 rmi, .int .i64 rma, .slice a rc.length cap, .bool rm, .string rd] 72) = wA := ⟨_, rfl⟩
    have HW2 : Hid (Below w.heap.size w wA) := hwA ▸ HW1.out
    have HK2 : Hid (Blk wA w.heap.size 72 #[.string rp, .int .i64 4, .int .i64 rmi, .int .i64 rma, .slice a rc.length cap, .bool rm, .string rd]) := hwA ▸ HBK.out
    rw [hwA]
    have hc1 : 0 < rc.length → ∃ b off, a = some ⟨b, off, none⟩ ∧ b < wA.heap.size ∧ ∀ j (hj : j < rc.length), wA.cell? ⟨b, off + j, none⟩ = some (.string rc[j]) := fun h0 => by
      obtain ⟨_, ta, tc, htv, hcell⟩ := HCH.out
      simp only [Value.slice.injEq] at htv
      obtain ⟨rfl, -, rfl⟩ := htv
      obtain ⟨b, off, rfl, hbS, hcell⟩ := hcell h0
      exact ⟨b, off, rfl, Nat.lt_of_lt_of_le (HS.out b hbS) HW2.out.size, fun j hj => (HW2.out.cell (p := ⟨b, off + j, none⟩) (HS.out b hbS)).trans (hcell j hj)⟩
    have HC1 : Hid (0 < rc.length → ∃ b off, a = some ⟨b, off, none⟩ ∧ b < wA.heap.size ∧ ∀ j (hj : j < rc.length), wA.cell? ⟨b, off + j, none⟩ = some (.string rc[j])) := hc1
    obtain ⟨gB, hgB⟩ : ∃ gB, w.heap.size = gB := ⟨_, rfl⟩
    rw [hgB] at HK2 ⊢
    have q4 := HK2.out.cell 4
    simp at q4
    clear hp hf2 hb3 cN cS hlm hc1 hwA HW1 HBK q0 HBB HFO hgB
    go_loopw [8] (fun i8 wr => ∃ k : Nat, i8 = .int .i64 (k : Int) ∧ k ≤ rc.length ∧ (∀ i (h : i < rc.length), i < k → (rc[i].toList == t.toList) = false) ∧ wr = wA) (fun i8 _ => rc.length - (intOf i8).toNat)
    case atStart => exact ⟨0, rfl, by omega, fun i _ h => by omega, rfl⟩
    case round =>
      obtain ⟨k, rfl, hk, hno, rfl⟩ := hrel
      have HNO : Hid (∀ i (h : i < rc.length), i < k → (rc[i].toList == t.toList) = false) := hno
      clear hno
      by_cases hkn : k < rc.length
      · have hkn' : (k : Int) < (rc.length : Int) := by omega
        obtain ⟨b, off, rfl, hbw, hcell⟩ := HC1.out (by omega)
        have d0 := hcell k hkn
        have hht := fun h1 => ch_hit (t := t) hkn HNO.out h1
        have hst : (rc[k].toList == t.toList) = false → ∀ i (h : i < rc.length), i < k + 1 → (rc[i].toList == t.toList) = false := fun h0 i hi hik => by
          by_cases e : i = k
          · subst e; exact h0
          · exact HNO.out i hi (by omega)
        obtain ⟨x, hx⟩ : ∃ x, rc[k] = x := ⟨_, rfl⟩
        rw [hx] at d0 hht hst
        have HHT : Hid ((x.toList == t.toList) = true → chO rc t = some k) := hht
        have HST : Hid ((x.toList == t.toList) = false → ∀ i (h : i < rc.length), i < k + 1 → (rc[i].toList == t.toList) = false) := hst
        clear hht hst hx hcell
        cases hq : (x.toList == t.toList)
        · go_wp2_with fail
          exact ⟨⟨k + 1, by go_num, by omega, HST.out hq, by trivial⟩, by simp [intOf]; omega⟩
        · have hp := HP.out
          rw [HHT.out hq, Option.map_some, fitO_free] at hp
          subst hp
          go_wp2_with fail
          go_ret2
          exact ⟨rfl, HW2.out⟩
      · obtain rfl : k = rc.length := by omega
        have hkn' : ¬ ((rc.length : Int) < (rc.length : Int)) := by omega
        have hp := HP.out
        rw [ch_miss (fun i hi => HNO.out i hi hi), Option.map_none, fitO_none] at hp
        subst hp
        go_wp2_with fail
        go_ret2
        exact ⟨rfl, HW2.out⟩
  have b4 : ((rk : Int) == 4) = false := by rw [beq_eq_false_iff_ne]; exact k4
  have hf2 := HFO.out
  rw [if_neg k1, if_neg k2, if_neg k3, if_neg k4] at hf2
  have hb3 : BB = true := by rw [HBB.out, b2, b4]; rfl
  have HB2 : Hid (BB = true) := hb3
  obtain ⟨NN, hNN⟩ : ∃ NN, spanV t = NN := ⟨_, rfl⟩
  obtain ⟨OK, hOK⟩ : ∃ OK, spanB t = OK := ⟨_, rfl⟩
  rw [hNN, hOK] at hf2 cS
  have HF2 : Hid (FO = if OK = true then some NN else none) := hf2
  have q0 := HBK.out.cell 1
  simp at q0
  have hkp : ∀ w2, Below (w.alloc (.cells #[.string rp, .int .i64 rk, .int .i64 rmi, .int .i64 rma, .slice a rc.length cap, .bool rm, .string rd] 72)).heap.size (w.alloc (.cells #[.string rp, .int .i64 rk, .int .i64 rmi, .int .i64 rma, .slice a rc.length cap, .bool rm, .string rd] 72)) w2 → w2.cell? ⟨w.heap.size, 2, none⟩ = some (.int .i64 rmi) ∧ w2.cell? ⟨w.heap.size, 3, none⟩ = some (.int .i64 rma) := fun w2 hb2 => by
    have h := Blk.below HBK.out hb2
    exact ⟨h.cell 2, h.cell 3⟩
  have HKP : Hid (∀ w2, Below (w.alloc (.cells #[.string rp, .int .i64 rk, .int .i64 rmi, .int .i64 rma, .slice a rc.length cap, .bool rm, .string rd] 72)).heap.size (w.alloc (.cells #[.string rp, .int .i64 rk, .int .i64 rmi, .int .i64 rma, .slice a rc.length cap, .bool rm, .string rd] 72)) w2 → w2.cell? ⟨w.heap.size, 2, none⟩ = some (.int .i64 rmi) ∧ w2.cell? ⟨w.heap.size, 3, none⟩ = some (.int .i64 rma)) := hkp
  clear hf2 hb3 hNN hOK cN hkp
  cases OK
  case false =>
    have hp := HFP.out
    rw [HF2.out, if_neg (by simp), fitO_none] at hp
    subst hp
    go_enter Tryz.func58, Tryz.ntmps58
    go_wp2_with (go_at_call 89; go_must (refine (cS _).mono ?_; rintro e w2 ⟨rfl, hb2⟩; have q2 := (HKP.out _ hb2).1; have q3 := (HKP.out _ hb2).2))
    go_ret2
    exact ⟨rfl, good_below HW1.out hb2⟩
  have hp := HFP.out
  rw [HF2.out, if_pos rfl, HB2.out, fitO_some] at hp
  simp only [Bool.true_and] at hp
  have HP : Hid (PV = if (decide (NN < rmi) || decide (rma < NN)) = true then (0, 9) else (NN, 0)) := hp
  clear hp
  by_cases n1 : NN < rmi
  · have hp := HP.out
    rw [decide_eq_true n1, Bool.true_or, if_pos rfl] at hp
    subst hp
    go_enter Tryz.func58, Tryz.ntmps58
    go_wp2_with (go_at_call 89; go_must (refine (cS _).mono ?_; rintro e w2 ⟨rfl, hb2⟩; have q2 := (HKP.out _ hb2).1; have q3 := (HKP.out _ hb2).2))
    go_ret2
    exact ⟨rfl, good_below HW1.out hb2⟩
  by_cases n2 : rma < NN
  · have hp := HP.out
    rw [decide_eq_true n2, Bool.or_true, if_pos rfl] at hp
    subst hp
    go_enter Tryz.func58, Tryz.ntmps58
    go_wp2_with (go_at_call 89; go_must (refine (cS _).mono ?_; rintro e w2 ⟨rfl, hb2⟩; have q2 := (HKP.out _ hb2).1; have q3 := (HKP.out _ hb2).2))
    go_ret2
    exact ⟨rfl, good_below HW1.out hb2⟩
  have hp := HP.out
  rw [decide_eq_false n1, decide_eq_false n2, Bool.or_false, if_neg (by simp)] at hp
  subst hp
  go_enter Tryz.func58, Tryz.ntmps58
  go_wp2_with (go_at_call 89; go_must (refine (cS _).mono ?_; rintro e w2 ⟨rfl, hb2⟩; have q2 := (HKP.out _ hb2).1; have q3 := (HKP.out _ hb2).2))
  go_ret2
  exact ⟨rfl, good_below HW1.out hb2⟩
end Go.Proofs.YtcbabajfdihcdaaGreatDoor

namespace Go.Proofs.YtcbabajfdihcdaaGreatDoor
open Go.ChangeShapes Go.WideShapes Go.ChangeAt Go.RowKit Go.Maps
set_option linter.unusedVariables false


theorem toList_data (t : ByteArray) : t.toList = t.data.toList := by
  rw [ByteArray.toList_eq]
theorem beq_bytes (a b : ByteArray) : (a.toList == b.toList) = decide (a = b) := by
  rw [toList_data, toList_data]
  by_cases h : a = b
  · subst h; simp
  · rw [decide_eq_false h, beq_eq_false_iff_ne]
    exact fun e => h (bytes_inj e)

theorem zero3 (w : World) : (zeroValue 3).run Tryz.prog w = .ok (.int .i64 0) w := by kernel_rfl

/-- The map in block B, of at most n entries, holds f of each key, 0 where there is none. -/
def Counts (w : World) (K : TypeId) (B n : Nat) (f : Lit → Int) : Prop :=
  ∃ D : DataW Unit, w.ownsMap Tryz.prog K (plainElem Tryz.prog 3) B n D ∧ ∀ kl, D.atKey kl (.lit (.int .i64 0)) = .lit (.int .i64 (f kl))
def upd (f : Lit → Int) (kl : Lit) (c : Int) : Lit → Int := fun k' => if k'.sameKey kl then c else f k'
theorem upd_same {f : Lit → Int} {kl : Lit} {c : Int} (h : WideAt.IsKeyLit kl) : upd f kl c kl = c := by
  simp [upd, WideAt.sameKey_self h]
theorem upd_other {f : Lit → Int} {kl k' : Lit} {c : Int} (h : k' ≠ kl) : upd f kl c k' = f k' := by
  simp [upd, sameKey_ne h]
theorem Counts.made (w : World) (K : TypeId) : Counts (w.alloc (.map #[] 0)) K w.heap.size 0 (fun _ => 0) :=
  ⟨.map [], World.ownsMap_made _ _ _ _, fun kl => rfl⟩
theorem Counts.lt {w : World} {K : TypeId} {B n : Nat} {f : Lit → Int} (h : Counts w K B n f) : B < w.heap.size := by
  obtain ⟨D, h, _⟩ := h; exact h.lt
theorem Counts.mono {w : World} {K : TypeId} {B n m : Nat} {f : Lit → Int} (h : Counts w K B n f) (hn : n ≤ m) : Counts w K B m f := by
  obtain ⟨D, h, hf⟩ := h; exact ⟨D, h.mono hn, hf⟩
theorem Counts.below {w w' : World} {K : TypeId} {B n : Nat} {f : Lit → Int} (h : Counts w K B n f) (hb : Below w.heap.size w w') : Counts w' K B n f := by
  have hl := h.lt
  obtain ⟨D, ⟨es, clock, hbk, F, hs, hD⟩, hf⟩ := h
  exact ⟨D, ⟨es, clock, (hb.block B hl).trans hbk, F, hs, hD⟩, hf⟩
theorem Counts.alloc {w : World} {K : TypeId} {B n : Nat} {f : Lit → Int} (h : Counts w K B n f) (o : Obj) : Counts (w.alloc o) K B n f := by
  obtain ⟨D, h, hf⟩ := h; exact ⟨D, h.alloc o, hf⟩
theorem Counts.look {w : World} {K t : TypeId} {B n : Nat} {f : Lit → Int} (h : Counts w K B n f) (L : Keyed Tryz.prog K) (ht : Tryz.prog.underlying t = some (.map K 3)) {key : Value} {kl : Lit} (hk : keyOf Tryz.prog K key = some kl) :
    (Instr.lookup t (.map (some B)) key false).run Tryz.prog w = .ok (.int .i64 (f kl)) w ∧ (Lit.int .i64 (f kl)).wf = true := by
  obtain ⟨D, h, hf⟩ := h
  obtain ⟨c, hr, hat, hw⟩ := h.lookup_int L ht Tryz.underlying3 (zero3 w) hk
  rw [hf] at hat
  simp at hat
  subst hat
  exact ⟨hr, hw⟩
theorem Counts.put {w : World} {K : TypeId} {B n : Nat} {f : Lit → Int} {D : DataW Unit} {kl : Lit} {c : Int} (hm : IsMap D) (hk : WideAt.IsKeyLit kl) (hf : ∀ kl, D.atKey kl (.lit (.int .i64 0)) = .lit (.int .i64 (f kl)))
    (h : w.ownsMap Tryz.prog K (plainElem Tryz.prog 3) B n (D.put kl (.lit (.int .i64 c)))) : Counts w K B n (upd f kl c) := by
  refine ⟨_, h, fun k' => ?_⟩
  by_cases e : k' = kl
  · subst e; rw [upd_same hk, atKey_put_same hm hk]
  · rw [upd_other e, atKey_put_other e, hf]
theorem Counts.store {w : World} {K t : TypeId} {B n : Nat} {f : Lit → Int} (h : Counts w K B n f) (L : Keyed Tryz.prog K) (ht : Tryz.prog.underlying t = some (.map K 3)) (hn : n < maxLen) {key : Value} {kl : Lit} (hk : keyOf Tryz.prog K key = some kl) {c : Int} (hc : (Lit.int .i64 c).wf = true) :
    ∃ w', (Instr.mapUpdate t (.map (some B)) key (.int .i64 c)).run Tryz.prog w = .ok () w' ∧ Counts w' K B (n + 1) (upd f kl c) ∧ w.grownBy w' (some B) := by
  obtain ⟨D, h, hf⟩ := h
  obtain ⟨w', hr, ho, hg⟩ := h.update L ht hn hk (plainElem_int Tryz.underlying3 hc)
  exact ⟨w', hr, Counts.put h.isMap (L.key hk) hf ho, hg⟩

theorem wpList_lookC (w : World) {ops : Array Oper} {rest : List Oper} {o : Oper} {a : Act} {Q : Exit → Act → World → Prop}
    (hg : o.guard = none) (m x : Operand) (t : TypeId) (hop : o.op = Op.lookup t m x false) (K : TypeId) (L : Keyed Tryz.prog K) (ht : Tryz.prog.underlying t = some (.map K 3)) (B n : Nat) (f : Lit → Int)
    (hm : a.eval m = .map (some B)) (h : Counts w K B n f) (key : Value) (kl : Lit) (hx : a.eval x = key) (hk : keyOf Tryz.prog K key = some kl)
    (hK : wpList Tryz.prog ops Q rest (a.put o.dst (.int .i64 (f kl))) w) : wpList Tryz.prog ops Q (o :: rest) a w := by
  refine wpList_plain hg fun K' hK' => ?_
  have hr := (h.look L ht hk).1
  unfold Oper.wp
  simp [execOp, hop, hm, hx, hr, Result.andThen]
  exact hK' _ _ hK
theorem wpList_storeC (w : World) {ops : Array Oper} {rest : List Oper} {o : Oper} {a : Act} {Q : Exit → Act → World → Prop}
    (hg : o.guard = none) (m x v : Operand) (t : TypeId) (hop : o.op = Op.mapUpdate t m x v) (K : TypeId) (L : Keyed Tryz.prog K) (ht : Tryz.prog.underlying t = some (.map K 3)) (B n : Nat) (f : Lit → Int)
    (hm : a.eval m = .map (some B)) (h : Counts w K B n f) (hn : n < maxLen) (key : Value) (c : Int) (kl : Lit) (hx : a.eval x = key) (hv : a.eval v = .int .i64 c) (hk : keyOf Tryz.prog K key = some kl) (hc : (Lit.int .i64 c).wf = true)
    (hK : ∀ w', Counts w' K B (n + 1) (upd f kl c) → w.grownBy w' (some B) → wpList Tryz.prog ops Q rest (a.put o.dst undef) w') : wpList Tryz.prog ops Q (o :: rest) a w := by
  refine wpList_plain hg fun K' hK' => ?_
  obtain ⟨w', hr, h1, h2⟩ := h.store L ht hn hk hc
  unfold Oper.wp
  simp [execOp, hop, hm, hx, hv, hr, Result.andThen]
  exact hK' _ _ (hK w' h1 h2)

/-! Keys: texts. -/
theorem law9 : Keyed Tryz.prog 9 := string_keyed Tryz.underlying9
def textKey (s : ByteArray) : Lit := .string s.data.toList
theorem key9 {s : ByteArray} (h : s.size ≤ maxLen) : keyOf Tryz.prog 9 (.string s) = some (textKey s) := WideMaps.keyOf_string_mk Tryz.underlying9 h
theorem textKey_inj {a b : ByteArray} (h : textKey a = textKey b) : a = b := by
  simp only [textKey, Lit.string.injEq] at h
  exact bytes_inj h


/-! Texts in their order. -/
def lessB (x y : ByteArray) : Bool := Go.Op.bytesLess x.toList y.toList
theorem lessB_eq (x y : ByteArray) : lessB x y = decide (x.data.toList < y.data.toList) := by
  unfold lessB
  rw [bytesLess_eq, toList_data, toList_data]
theorem lessB_irrefl (x : ByteArray) : lessB x x = false := by
  rw [lessB_eq, decide_eq_false (List.lt_irrefl _)]
theorem lessB_trans {x y z : ByteArray} (h : lessB x y = true) (h2 : lessB y z = true) : lessB x z = true := by
  rw [lessB_eq, decide_eq_true_eq] at *
  exact List.lt_trans h h2
theorem lessB_total {x y : ByteArray} (h : x ≠ y) : lessB x y = true ∨ lessB y x = true := by
  rw [lessB_eq, lessB_eq, decide_eq_true_eq, decide_eq_true_eq]
  by_cases h1 : x.data.toList < y.data.toList
  · exact .inl h1
  · by_cases h2 : y.data.toList < x.data.toList
    · exact .inr h2
    · exact absurd (bytes_inj (List.le_antisymm (List.not_lt.1 h2) (List.not_lt.1 h1))) h
theorem lessB_asymm {x y : ByteArray} (h : lessB x y = true) : lessB y x = false := by
  cases h2 : lessB y x
  · rfl
  · have := lessB_trans h h2
    rw [lessB_irrefl] at this
    exact this.symm
/-- Two rows that rise and have the same members are one. -/
theorem pw_eq {α : Type} {r : α → α → Prop} (ht : ∀ x y z, r x y → r y z → r x z) (hi : ∀ x, ¬ r x x) : ∀ {a b : List α}, a.Pairwise r → b.Pairwise r → (∀ x, x ∈ a ↔ x ∈ b) → a = b
  | [], [], _, _, _ => rfl
  | [], y :: b, _, _, h => absurd ((h y).2 (by simp)) (by simp)
  | x :: a, [], _, _, h => absurd ((h x).1 (by simp)) (by simp)
  | x :: a, y :: b, ha, hb, h => by
    obtain ⟨a1, a2⟩ := List.pairwise_cons.1 ha
    obtain ⟨b1, b2⟩ := List.pairwise_cons.1 hb
    have hxy : x = y := by
      rcases List.mem_cons.1 ((h x).1 (by simp)) with e | e
      · exact e
      · rcases List.mem_cons.1 ((h y).2 (by simp)) with e2 | e2
        · exact e2.symm
        · exact absurd (ht _ _ _ (a1 y e2) (b1 x e)) (hi x)
    subst hxy
    congr 1
    refine pw_eq ht hi a2 b2 (fun z => ?_)
    have hz := h z
    simp only [List.mem_cons] at hz
    constructor
    · intro hm
      rcases hz.1 (.inr hm) with e | e
      · subst e; exact absurd (a1 z hm) (hi z)
      · exact e
    · intro hm
      rcases hz.2 (.inr hm) with e | e
      · subst e; exact absurd (b1 z hm) (hi z)
      · exact e


/-- A name of ss, behind those of seen, has stood ahead. -/
def dupFrom : List ByteArray → List ByteArray → Bool
  | [], _ => false
  | x :: l, seen => if hasB seen x then true else dupFrom l (seen ++ [x])
/-- f holds 1 of each text of seen, 0 of all others. -/
def Seen (f : Lit → Int) (seen : List ByteArray) : Prop := ∀ t : ByteArray, f (textKey t) = if hasB seen t then 1 else 0
theorem Seen.nil : Seen (fun _ => 0) [] := fun t => by simp [hasB]
theorem hasB_snoc (seen : List ByteArray) (x t : ByteArray) : hasB (seen ++ [x]) t = (hasB seen t || decide (x = t)) := by
  unfold hasB
  rw [List.any_append]
  simp [beq_bytes]
theorem Seen.put {f : Lit → Int} {seen : List ByteArray} (h : Seen f seen) (x : ByteArray) : Seen (upd f (textKey x) 1) (seen ++ [x]) := by
  intro t
  by_cases e : t = x
  · subst e
    rw [upd_same (by exact trivial), hasB_snoc]
    simp
  · rw [upd_other (fun h => e (textKey_inj h)), h t]
    have e' : x ≠ t := fun h => e h.symm
    rw [hasB_snoc]
    simp [e']

set_option maxRecDepth 100000 in
set_option maxHeartbeats 1000000 in
theorem implTwice (ss : List ByteArray) (a : Option Addr) (cap : Nat) (w : World) (hlen : ss.length ≤ 1000000) (hsz : ∀ s ∈ ss, s.size ≤ 1048576)
    (hc : 0 < ss.length → ∃ g, a = some ⟨g, 0, none⟩ ∧ g < w.heap.size ∧ ∀ j (hj : j < ss.length), w.cell? ⟨g, j, none⟩ = some (.string ss[j])) :
    Calls Tryz.prog 71 #[.slice a ss.length cap] w fun e w' => (∃ t, e = .returned (.tuple #[.string t, .bool (dupFrom ss [])])) ∧ Below w.heap.size w w' := by
  have hmm := @run_makeMap Tryz.prog
  have HC : Hid _ := hc
  have hlen' : (ss.length : Int) ≤ 1000000 := by omega
  have HZ : Hid _ := hsz
  clear hc hsz
  obtain ⟨F, hF⟩ : ∃ F, dupFrom ss [] = F := ⟨_, rfl⟩
  rw [hF]
  have HF : Hid (dupFrom ss [] = F) := hF
  clear hF
  go_enter Tryz.func71, Tryz.ntmps71
  go_wp2_with fail
  go_loopw [11] (fun i11 wr => ∃ (k : Nat) (f : Lit → Int), i11 = .int .i64 (k : Int) ∧ k ≤ ss.length ∧ Counts wr 9 w.heap.size k f ∧ Seen f (ss.take k) ∧ dupFrom (ss.drop k) (ss.take k) = F ∧ Below w.heap.size w wr) (fun i11 _ => ss.length - (intOf i11).toNat)
  case atStart => exact ⟨0, _, rfl, by omega, Counts.made _ _, by simpa using Seen.nil, by simpa using HF.out, (Below.refl _ w).alloc (Nat.le_refl _) _⟩
  case round =>
    obtain ⟨k, f, rfl, hk, hcn, hse, hfr, hb⟩ := hrel
    by_cases hkn : k < ss.length
    · have hkn' : (k : Int) < (ss.length : Int) := by omega
      obtain ⟨g, rfl, hgw, hcell⟩ := HC.out (by omega)
      have x1 := hcell k hkn
      rw [List.drop_eq_getElem_cons hkn] at hfr
      have hz := HZ.out ss[k] (List.getElem_mem hkn)
      have htk : ss.take (k + 1) = ss.take k ++ [ss[k]] := List.take_succ_eq_append_getElem hkn
      obtain ⟨s, hs⟩ : ∃ s, ss[k] = s := ⟨_, rfl⟩
      rw [hs] at x1 hfr hz htk
      clear hs hcell
      have d1 := (hb.cell (p := ⟨g, k, none⟩) hgw).trans x1
      have hkey : keyOf Tryz.prog 9 (.string s) = some (textKey s) := key9 (by simp [maxLen]; omega)
      have hfs := hse s
      simp only [dupFrom] at hfr
      obtain ⟨B1, hB1⟩ : ∃ B1, hasB (ss.take k) s = B1 := ⟨_, rfl⟩
      rw [hB1] at hfr hfs
      have hlk := (hcn.look law9 Tryz.underlying148 hkey).1
      clear x1 hB1
      have HCN : Hid _ := hcn
      have HSE : Hid _ := hse
      have HFR : Hid _ := hfr
      have HTK : Hid _ := htk
      have HKY : Hid _ := hkey
      clear hcn hse hfr htk hkey
      cases B1
      · rw [if_neg (by simp)] at hfs
        rw [hfs] at hlk
        clear hfs
        go_wp2_with (first
          | (at_mapUpdate; go_must (refine wpList_storeC _ rfl _ _ _ 148 rfl 9 law9 Tryz.underlying148 w.heap.size k f rfl HCN.out (by simp [maxLen]; omega) _ 1 _ rfl rfl HKY.out (by decide) ?_; intro w1 hc1 hg1; have HC1 : Hid _ := hc1; clear hc1))
          | (at_lookup; have hchk := HC1; refine wpList_lookC _ rfl _ _ 148 rfl 9 law9 Tryz.underlying148 w.heap.size (k + 1) _ rfl HC1.out _ _ rfl HKY.out ?_; rw [upd_same (by exact trivial)]))
        have hbb := hb.grown hg1 hb.size (fun j hj => by cases hj; exact Nat.le_refl _)
        refine ⟨⟨k + 1, _, rfl, by omega, HC1.out, ?_, ?_, hbb⟩, by simp [intOf]; omega⟩
        · rw [HTK.out]; exact Seen.put HSE.out s
        · have := HFR.out
          rw [if_neg (by simp)] at this
          rw [HTK.out]; exact this
      · rw [if_pos rfl] at hfs
        rw [hfs] at hlk
        clear hfs
        have hF := HFR.out
        rw [if_pos rfl] at hF
        subst hF
        go_wp2_with (first
          | (at_mapUpdate; go_must (refine wpList_storeC _ rfl _ _ _ 148 rfl 9 law9 Tryz.underlying148 w.heap.size k f rfl HCN.out (by simp [maxLen]; omega) _ 2 _ rfl rfl HKY.out (by decide) ?_; intro w1 hc1 hg1; have HC1 : Hid _ := hc1; clear hc1))
          | (at_lookup; have hchk := HC1; refine wpList_lookC _ rfl _ _ 148 rfl 9 law9 Tryz.underlying148 w.heap.size (k + 1) _ rfl HC1.out _ _ rfl HKY.out ?_; rw [upd_same (by exact trivial)]))
        have hbb := hb.grown hg1 hb.size (fun j hj => by cases hj; exact Nat.le_refl _)
        go_ret2
        exact ⟨⟨_, rfl⟩, hbb⟩
    · have hkn' : ¬ ((k : Int) < (ss.length : Int)) := by omega
      rw [List.drop_eq_nil_of_le (by omega)] at hfr
      simp only [dupFrom] at hfr
      subst hfr
      go_wp2_with fail
      go_ret2
      exact ⟨⟨_, rfl⟩, hb⟩

theorem cell_lt {w : World} {g j : Nat} {v : Value} (h : w.cell? ⟨g, j, none⟩ = some v) : g < w.heap.size := by
  cases hh : w.heap[g]? with
  | none => simp [World.cell?, hh] at h
  | some o => exact (Array.getElem?_eq_some_iff.1 hh).1

theorem dup_iff : ∀ (ss seen : List ByteArray), dupFrom ss seen = true ↔ ∃ (i : Nat) (hi : i < ss.length), hasB (seen ++ ss.take i) ss[i] = true
  | [], seen => by simp [dupFrom]
  | x :: l, seen => by
    unfold dupFrom
    cases hx : hasB seen x
    · rw [if_neg (by simp), dup_iff l (seen ++ [x])]
      constructor
      · rintro ⟨i, hi, h⟩
        exact ⟨i + 1, by simpa using hi, by simpa using h⟩
      · rintro ⟨i, hi, h⟩
        cases i with
        | zero => simp [hx] at h
        | succ i => exact ⟨i, by simpa using hi, by simpa using h⟩
    · rw [if_pos rfl]
      exact ⟨fun _ => ⟨0, by simp, by simpa using hx⟩, fun _ => rfl⟩
end Go.Proofs.YtcbabajfdihcdaaGreatDoor

namespace Go.Proofs.YtcbabajfdihcdaaGreatDoor
open Go.ChangeShapes Go.WideShapes Go.ChangeAt Go.RowKit
set_option linter.unusedVariables false

def byteAt (t : ByteArray) (k : Nat) : Nat := if h : k < t.size then t[k].toNat else 0
/-- A text's parts at each byte g, up to a place: those that are whole, and where the next one begins. -/
def cutUp (t : ByteArray) (g : Nat) : Nat → List ByteArray × Nat
  | 0 => ([], 0)
  | k + 1 => if byteAt t k = g then ((cutUp t g k).1 ++ [t.extract (cutUp t g k).2 k], k + 1) else cutUp t g k
def cutF (t : ByteArray) (g : Nat) : List ByteArray := (cutUp t g t.size).1 ++ [t.extract (cutUp t g t.size).2 t.size]
theorem cutUp_le (t : ByteArray) (g : Nat) : ∀ k, (cutUp t g k).2 ≤ k ∧ (cutUp t g k).1.length ≤ k
  | 0 => ⟨Nat.le_refl _, Nat.le_refl _⟩
  | k + 1 => by
    have := cutUp_le t g k
    unfold cutUp
    split
    · exact ⟨Nat.le_refl _, by simp; omega⟩
    · exact ⟨by omega, by omega⟩
theorem cutF_len (t : ByteArray) (g : Nat) : (cutF t g).length ≤ t.size + 1 := by
  have := (cutUp_le t g t.size).2
  unfold cutF
  simp
  omega

set_option maxRecDepth 100000 in
set_option maxHeartbeats 2000000 in
theorem specCut (t : ByteArray) (ht : t.size ≤ 100000) (w : World) :
    Calls Tryz.prog 87 #[.string t, .int .u8 46] w fun e w' => (∃ v, e = .returned v ∧ OwnTxts w.heap.size w' v (cutF t 46)) ∧ Below w.heap.size w w' := by
  have ht' : (t.size : Int) ≤ 100000 := by omega
  have HE : Hid (OwnTxts w.heap.size (w.alloc (.cells #[] 9)) (.slice (some ⟨w.heap.size, 0, none⟩) 0 0) []) := OwnTxts.empty w.heap.size w (Nat.le_refl _)
  go_enter Tryz.func87, Tryz.ntmps87
  go_wp2_with fail
  go_loopw [5, 6, 7] (fun i5 i6 i7 wr => ∃ (k f : Nat) (ls : List ByteArray), i7 = .int .i64 (k : Int) ∧ k ≤ t.size ∧ i6 = .int .i64 (f : Int) ∧ OwnTxts w.heap.size wr i5 ls ∧ cutUp t 46 k = (ls, f) ∧ Below w.heap.size w wr) (fun _ _ i7 _ => t.size - (intOf i7).toNat)
  case atStart => exact ⟨0, 0, [], rfl, by omega, rfl, HE.out, rfl, (Below.refl _ w).alloc (Nat.le_refl _) _⟩
  case round =>
    obtain ⟨k, f, ls, rfl, hk, rfl, hob, hcu, hb⟩ := hrel
    obtain ⟨a5, c5, h5, -⟩ := hob.value
    subst h5
    have hle := cutUp_le t 46 k
    rw [hcu] at hle
    dsimp only at hle
    have HCU : Hid (cutUp t 46 k = (ls, f)) := hcu
    have HOB : Hid (OwnTxts w.heap.size wr (.slice a5 ls.length c5) ls) := hob
    have hfk : (f : Int) ≤ (k : Int) := by omega
    have hkt : (k : Int) ≤ (t.size : Int) := by omega
    have hbs := hb.size
    clear hob hcu
    by_cases hkn : k < t.size
    · have hkn' : (k : Int) < (t.size : Int) := by omega
      have hba : byteAt t k = t[k].toNat := by unfold byteAt; rw [dif_pos hkn]
      obtain ⟨x, hx⟩ : ∃ x, t[k].toNat = x := ⟨_, rfl⟩
      rw [hx] at hba
      have HBA : Hid (byteAt t k = x) := hba
      clear hba
      by_cases hx46 : x = 46
      · subst hx46
        go_wp2_with (at_builtin; go_must (refine wpList_appendTxts rfl (.tmp 20) (.tmp 25) rfl w.heap.size (.slice a5 ls.length c5) ls rfl (OwnTxts.below HOB.out ((Below.refl _ _).alloc (Nat.le_refl _) _)) _ [t.extract f k] rfl (TxtsAt.new wr (t.extract f k)) (by simp; omega) (by simp only [World.size_alloc]; omega) ?_; intro v9 w9 hown9 hB9 hgr9 hnil9))
        refine ⟨⟨k + 1, k + 1, ls ++ [t.extract f k], rfl, by omega, rfl, hown9, ?_, (hb.alloc hbs _).trans hB9⟩, by simp [intOf]; omega⟩
        unfold cutUp
        rw [HBA.out, if_pos rfl, HCU.out]
      · have hxb : ((x : Int) == 46) = false := by rw [beq_eq_false_iff_ne]; omega
        go_wp2_with fail
        refine ⟨⟨k + 1, f, ls, rfl, by omega, rfl, HOB.out, ?_, hb⟩, by simp [intOf]; omega⟩
        unfold cutUp
        rw [HBA.out, if_neg hx46, HCU.out]
    · obtain rfl : k = t.size := by omega
      have hkn' : ¬ ((t.size : Int) < (t.size : Int)) := by omega
      go_wp2_with (at_builtin; go_must (refine wpList_appendTxts rfl (.tmp 29) (.tmp 33) rfl w.heap.size (.slice a5 ls.length c5) ls rfl (OwnTxts.below HOB.out ((Below.refl _ _).alloc (Nat.le_refl _) _)) _ [t.extract f t.size] rfl (TxtsAt.new wr (t.extract f t.size)) (by simp; omega) (by simp only [World.size_alloc]; omega) ?_; intro v9 w9 hown9 hB9 hgr9 hnil9))
      go_ret
      refine ⟨⟨v9, rfl, ?_⟩, (hb.alloc hbs _).trans hB9⟩
      unfold cutF
      rw [HCU.out]
      exact hown9

/-- A path is within another one. -/
def withinB (p q : ByteArray) : Bool := p.toList == q.toList || (decide (q.size < p.size) && (p.extract 0 q.size).toList == q.toList && decide (byteAt p q.size = 46))
set_option maxRecDepth 100000 in
theorem specWithin (p q : ByteArray) (hp : p.size ≤ 100000) (hq : q.size ≤ 100000) (w : World) :
    Calls Tryz.prog 57 #[.string p, .string q] w fun e w' => e = .returned (.bool (withinB p q)) ∧ w = w' := by
  have hp' : (p.size : Int) ≤ 100000 := by omega
  have hq' : (q.size : Int) ≤ 100000 := by omega
  unfold withinB
  cases h1 : (p.toList == q.toList)
  · by_cases h2 : q.size < p.size
    · have h2' : (q.size : Int) < (p.size : Int) := by omega
      have h2'' : (q.size : Int) ≤ (p.size : Int) := by omega
      have hba : byteAt p q.size = p[q.size].toNat := by unfold byteAt; rw [dif_pos h2]
      obtain ⟨x, hx⟩ : ∃ x, p[q.size].toNat = x := ⟨_, rfl⟩
      rw [hx] at hba
      rw [hba, decide_eq_true h2]
      clear hba
      cases h3 : ((p.extract 0 q.size).toList == q.toList)
      · go_enter Tryz.func57, Tryz.ntmps57
        go_wp2_with fail
        go_ret
        exact ⟨rfl, rfl⟩
      · by_cases hx46 : x = 46
        · subst hx46
          go_enter Tryz.func57, Tryz.ntmps57
          go_wp2_with fail
          go_ret
          exact ⟨rfl, rfl⟩
        · have hxb : ((x : Int) == 46) = false := by rw [beq_eq_false_iff_ne]; omega
          rw [decide_eq_false hx46]
          go_enter Tryz.func57, Tryz.ntmps57
          go_wp2_with fail
          go_ret
          exact ⟨rfl, rfl⟩
    · have h2' : ¬ ((q.size : Int) < (p.size : Int)) := by omega
      rw [decide_eq_false h2]
      go_enter Tryz.func57, Tryz.ntmps57
      go_wp2_with fail
      go_ret
      exact ⟨rfl, rfl⟩
  · go_enter Tryz.func57, Tryz.ntmps57
    go_wp2_with fail
    go_ret
    exact ⟨rfl, rfl⟩

/-- What spec.NameOK answers. -/
def NameSpec (nameB : ByteArray → Bool) : Prop := ∀ (s : ByteArray) (w : World), Calls Tryz.prog 33 #[.string s] w fun e w' => e = .returned (.bool (nameB s)) ∧ Below w.heap.size w w'
def pathB (nameB : ByteArray → Bool) (t : ByteArray) : Bool := decide (t.size ≤ 205) && decide ((cutF t 46).length ≤ 5) && (cutF t 46).all nameB
set_option maxRecDepth 100000 in
set_option maxHeartbeats 1000000 in
theorem specPath {nameB : ByteArray → Bool} (hN : NameSpec nameB) (t : ByteArray) (ht : t.size ≤ maxLen) (w : World) :
    Calls Tryz.prog 56 #[.string t] w fun e w' => e = .returned (.bool (pathB nameB t)) ∧ Below w.heap.size w w' := by
  have hm : (t.size : Int) ≤ 9223372036854775807 := by simp [maxLen] at ht; omega
  unfold pathB
  by_cases h1 : t.size ≤ 205
  · have h1' : ¬ ((205 : Int) < (t.size : Int)) := by omega
    have cc := specCut t (by omega) w
    have hcl := cutF_len t 46
    rw [decide_eq_true h1]
    obtain ⟨ps, hps⟩ : ∃ ps, cutF t 46 = ps := ⟨_, rfl⟩
    rw [hps] at cc hcl ⊢
    clear hps
    have HN : Hid (NameSpec nameB) := hN
    clear hN
    by_cases h2 : ps.length ≤ 5
    · have h2' : ¬ ((5 : Int) < (ps.length : Int)) := by omega
      rw [decide_eq_true h2]
      go_enter Tryz.func56, Tryz.ntmps56
      go_wp2_with (go_at_call 87; go_must (refine cc.mono ?_; rintro e w1 ⟨⟨v, rfl, hov⟩, hb1⟩; obtain ⟨a3, c3, h3, hc3⟩ := hov.value; subst h3; have HC : Hid _ := hc3; clear hov hc3))
      go_loopw [4] (fun i4 wr => ∃ (k : Nat), i4 = .int .i64 (k : Int) ∧ k ≤ ps.length ∧ (∀ i (h : i < ps.length), i < k → nameB ps[i] = true) ∧ Below w1.heap.size w1 wr) (fun i4 _ => ps.length - (intOf i4).toNat)
      case atStart => exact ⟨0, rfl, by omega, fun i _ h => by omega, Below.refl _ _⟩
      case round =>
        obtain ⟨k, rfl, hk, hall, hb⟩ := hrel
        have HA : Hid (∀ i (h : i < ps.length), i < k → nameB ps[i] = true) := hall
        clear hall
        by_cases hkn : k < ps.length
        · have hkn' : (k : Int) < (ps.length : Int) := by omega
          obtain ⟨g, rfl, hgB, hgw, hcell⟩ := HC.out.2 (by omega)
          have d1 := (hb.cell (p := ⟨g, k, none⟩) hgw).trans (hcell k hkn)
          have cn := HN.out ps[k] wr
          obtain ⟨x, hx⟩ : ∃ x, ps[k] = x := ⟨_, rfl⟩
          rw [hx] at d1 cn
          have HX : Hid (ps[k] = x) := hx
          clear hx hcell
          obtain ⟨F, hF⟩ : ∃ F, nameB x = F := ⟨_, rfl⟩
          rw [hF] at cn
          have HF : Hid (nameB x = F) := hF
          clear hF
          cases F
          · go_wp2_with (go_at_call 33; go_must (refine cn.mono ?_; rintro e w2 ⟨rfl, hb2⟩))
            go_ret
            refine ⟨?_, good_below hb1 (good_below hb hb2)⟩
            have : ps.all nameB = false := by
              rw [List.all_eq_false]
              exact ⟨ps[k], List.getElem_mem hkn, by rw [HX.out, HF.out]; simp⟩
            rw [this]; rfl
          · go_wp2_with (go_at_call 33; go_must (refine cn.mono ?_; rintro e w2 ⟨rfl, hb2⟩))
            refine ⟨⟨k + 1, rfl, by omega, fun i hi hik => ?_, good_below hb hb2⟩, by simp [intOf]; omega⟩
            by_cases hik2 : i < k
            · exact HA.out i hi hik2
            · obtain rfl : i = k := by omega
              rw [HX.out, HF.out]
        · obtain rfl : k = ps.length := by omega
          have hkn' : ¬ ((ps.length : Int) < (ps.length : Int)) := by omega
          go_wp2_with fail
          go_ret
          refine ⟨?_, good_below hb1 hb⟩
          have : ps.all nameB = true := by
            rw [List.all_eq_true]
            intro x hx
            obtain ⟨i, hi, rfl⟩ := List.getElem_of_mem hx
            exact HA.out i hi hi
          rw [this]; rfl
    · have h2' : (5 : Int) < (ps.length : Int) := by omega
      rw [decide_eq_false h2]
      go_enter Tryz.func56, Tryz.ntmps56
      go_wp2_with (go_at_call 87; go_must (refine cc.mono ?_; rintro e w1 ⟨⟨v, rfl, hov⟩, hb1⟩; obtain ⟨a3, c3, h3, hc3⟩ := hov.value; subst h3; clear hov hc3))
      go_ret
      exact ⟨rfl, hb1⟩
  · have h1' : (205 : Int) < (t.size : Int) := by omega
    rw [decide_eq_false h1]
    go_enter Tryz.func56, Tryz.ntmps56
    go_wp2_with fail
    go_ret
    exact ⟨rfl, Below.refl _ _⟩
end Go.Proofs.YtcbabajfdihcdaaGreatDoor

namespace Go.Proofs.YtcbabajfdihcdaaGreatDoor
open Go.ChangeShapes Go.WideShapes Go.ChangeAt Go.RowKit
set_option linter.unusedVariables false

/-! A name has no point. -/
theorem decN_in {n b0 b1 b2 b3 : Nat} (hn : 1 ≤ n) (h0 : b0 < 256) (h1 : b1 < 256) (h2 : b2 < 256) (h3 : b3 < 256) :
    (b0 = 46 → (Lib.decodeN n b0 b1 b2 b3).1 = 46) ∧ (1 < (Lib.decodeN n b0 b1 b2 b3).2 → 128 ≤ b1) ∧ (2 < (Lib.decodeN n b0 b1 b2 b3).2 → 128 ≤ b2) ∧ (3 < (Lib.decodeN n b0 b1 b2 b3).2 → 128 ≤ b3) ∧ (Lib.decodeN n b0 b1 b2 b3).2 ≤ 4 := by
  unfold Lib.decodeN
  repeat' split
  all_goals (simp only; omega)
theorem dec_in (s : ByteArray) (i : Nat) (h : i < s.size) : (byt s i = 46 → (Utf8.decode s i).1 = 46) ∧ ∀ j, 0 < j → j < (Utf8.decode s i).2 → 128 ≤ byt s (i + j) := by
  have := decN_in (n := s.size - i) (b0 := byt s i) (b1 := byt s (i + 1)) (b2 := byt s (i + 2)) (b3 := byt s (i + 3)) (by omega) (byt_lt _ _) (byt_lt _ _) (byt_lt _ _) (byt_lt _ _)
  rw [← decode_byt] at this
  obtain ⟨h1, h2, h3, h4, h5⟩ := this
  refine ⟨h1, fun j hj hjk => ?_⟩
  rcases (show j = 1 ∨ j = 2 ∨ j = 3 by omega) with rfl | rfl | rfl
  · exact h2 hjk
  · exact h3 hjk
  · exact h4 hjk
theorem end_no_dot (s : ByteArray) (pos : Nat) (h : endOf isNam s pos = s.size) (i : Nat) (hp : pos ≤ i) (hi : i < s.size) : byt s i ≠ 46 := by
  by_cases hf : isNam ((Utf8.decode s pos).1 : Int) = true
  · rw [endOf_on (by omega) hf] at h
    obtain ⟨d1, d2⟩ := dec_in s pos (by omega)
    have hk := (decode_le s pos).2.1
    by_cases h1 : i = pos
    · subst h1
      intro e
      rw [d1 e] at hf
      revert hf
      decide
    · by_cases h2 : i < pos + (Utf8.decode s pos).2
      · have := d2 (i - pos) (by omega) (by omega)
        rw [show pos + (i - pos) = i by omega] at this
        omega
      · exact end_no_dot s (pos + (Utf8.decode s pos).2) h i (by omega) hi
  · rw [endOf_stop (by omega) (by simpa using hf)] at h
    omega
termination_by s.size - pos
theorem name_no_dot {s : ByteArray} (h : nameOK s = true) (i : Nat) (hi : i < s.size) : byt s i ≠ 46 := by
  have hw : wordEnd s 0 = s.size := by
    unfold nameOK at h
    simp only [Bool.and_eq_true, decide_eq_true_eq] at h
    exact h.1.2
  unfold wordEnd at hw
  split at hw
  · rename_i hc
    obtain ⟨d1, d2⟩ := dec_in s 0 hc.1
    by_cases h0 : i = 0
    · subst h0
      intro e
      have hf := hc.2
      rw [d1 e] at hf
      revert hf
      decide
    · by_cases h2 : i < 0 + (Utf8.decode s 0).2
      · have := d2 i (by omega) (by omega)
        rw [Nat.zero_add] at this
        omega
      · exact end_no_dot s _ hw i (by omega) hi
  · omega
theorem name_small {s : ByteArray} (h : nameOK s = true) : s.size ≤ 40 := by
  unfold nameOK at h
  simp only [Bool.and_eq_true, decide_eq_true_eq] at h
  exact h.1.1.2
theorem byt_list (s : ByteArray) (i : Nat) (h : i < s.size) : s.data.toList[i]? = some s[i] := by
  rw [List.getElem?_eq_getElem (by simpa using h)]
  rfl
theorem name_no_dot' {s : ByteArray} (h : nameOK s = true) : (46 : UInt8) ∉ s.data.toList := by
  intro hm
  obtain ⟨i, hi, he⟩ := List.getElem_of_mem hm
  have hi' : i < s.size := by simpa using hi
  refine name_no_dot h i hi' ?_
  rw [← byt_eq s i hi']
  have h2 := byt_list s i hi'
  rw [List.getElem?_eq_getElem hi, he] at h2
  simp only [Option.some.injEq] at h2
  rw [← h2]; rfl

/-! Parts. -/
def cutR : List UInt8 → List (List UInt8)
  | [] => [[]]
  | c :: l => if c = 46 then [] :: cutR l else match cutR l with
    | [] => [[c]]
    | h :: t => (c :: h) :: t
theorem cutR_none {a : List UInt8} (h : (46 : UInt8) ∉ a) : cutR a = [a] := by
  induction a with
  | nil => rfl
  | cons c l ih =>
    simp only [List.mem_cons, not_or] at h
    unfold cutR
    rw [if_neg (fun e => h.1 e.symm), ih h.2]
theorem cutR_dot {a : List UInt8} (h : (46 : UInt8) ∉ a) (b : List UInt8) : cutR (a ++ 46 :: b) = a :: cutR b := by
  induction a with
  | nil => simp [cutR]
  | cons c l ih =>
    simp only [List.mem_cons, not_or] at h
    rw [List.cons_append]
    conv => lhs; unfold cutR
    rw [if_neg (fun e => h.1 e.symm), ih h.2]
theorem cutR_sum : ∀ l : List UInt8, ((cutR l).map (fun x => x.length + 1)).sum = l.length + 1
  | [] => rfl
  | c :: l => by
    have ih := cutR_sum l
    unfold cutR
    by_cases h : c = 46
    · rw [if_pos h]; simp [ih]; omega
    · rw [if_neg h]
      cases hc : cutR l with
      | nil => rw [hc] at ih; simp at ih
      | cons a t => rw [hc] at ih; simp at ih ⊢; omega
theorem cutR_pos (l : List UInt8) : 0 < (cutR l).length := by
  cases hc : cutR l with
  | nil => have := cutR_sum l; rw [hc] at this; simp at this
  | cons a t => simp
theorem at_dot {l : List UInt8} {i : Nat} (h1 : l[i]? = some 46) (h2 : ∀ k, k < i → l[k]? ≠ some 46) : l = l.take i ++ 46 :: l.drop (i + 1) ∧ (46 : UInt8) ∉ l.take i := by
  obtain ⟨hi, he⟩ := List.getElem?_eq_some_iff.1 h1
  refine ⟨?_, fun hm => ?_⟩
  · conv => lhs; rw [← List.take_append_drop i l]
    rw [List.drop_eq_getElem_cons hi, he]
  · obtain ⟨k, hk, e⟩ := List.mem_take_iff_getElem.1 hm
    exact h2 k (by omega) (by rw [List.getElem?_eq_getElem (by omega), e])
theorem no_dot_of {l : List UInt8} (h : ∀ k : Nat, l[k]? ≠ some 46) : (46 : UInt8) ∉ l := fun hm => by
  obtain ⟨k, hk, e⟩ := List.getElem_of_mem hm
  exact h k (by rw [List.getElem?_eq_getElem hk, e])
theorem split_all {P : List UInt8 → Bool} (hP : ∀ x, P x = true → (46 : UInt8) ∉ x) : ∀ (k : Nat) (l : List UInt8), (Lib.splitK [46] 0 k l).all P = (decide ((cutR l).length ≤ k + 1) && (cutR l).all P)
  | 0, l => by
    unfold Lib.splitK
    by_cases h : (46 : UInt8) ∈ l
    · have hP0 : P l = false := by
        cases hp : P l
        · rfl
        · exact absurd h (hP l hp)
      obtain ⟨k, hk, e⟩ := List.getElem_of_mem h
      have h2 : ¬ (cutR l).length ≤ 1 := by
        rcases (show Lib.indexByte l 46 = -1 ∨ ∃ o : Nat, Lib.indexByte l 46 = o from by
          have := Lib.indexByte_ge l 46
          by_cases e : Lib.indexByte l 46 = -1
          · exact .inl e
          · exact .inr ⟨(Lib.indexByte l 46).toNat, by omega⟩) with q | ⟨o, q⟩
        · exact absurd (by rw [List.getElem?_eq_getElem hk, e]) (Lib.indexByte_none q k)
        · obtain ⟨q1, q2⟩ := Lib.indexByte_some q
          obtain ⟨s1, s2⟩ := at_dot q1 q2
          have := cutR_dot s2 (l.drop (o + 1))
          rw [← s1] at this
          rw [this]
          have := cutR_pos (l.drop (o + 1))
          simp only [List.length_cons]; omega
      rw [decide_eq_false h2]
      simp [hP0]
    · rw [cutR_none h]; simp
  | k + 1, l => by
    unfold Lib.splitK
    rw [Lib.index_one]
    by_cases h : (46 : UInt8) ∈ l
    · obtain ⟨j, hj, e⟩ := List.getElem_of_mem h
      rcases (show Lib.indexByte l 46 = -1 ∨ ∃ o : Nat, Lib.indexByte l 46 = o from by
        have := Lib.indexByte_ge l 46
        by_cases e : Lib.indexByte l 46 = -1
        · exact .inl e
        · exact .inr ⟨(Lib.indexByte l 46).toNat, by omega⟩) with q | ⟨o, q⟩
      · exact absurd (by rw [List.getElem?_eq_getElem hj, e]) (Lib.indexByte_none q j)
      · obtain ⟨q1, q2⟩ := Lib.indexByte_some q
        obtain ⟨s1, s2⟩ := at_dot q1 q2
        have hc := cutR_dot s2 (l.drop (o + 1))
        rw [← s1] at hc
        rw [hc, q, if_neg (by simp)]
        have ih := split_all hP k (l.drop (o + 1))
        simp only [List.all_cons, List.length_cons, Nat.add_zero, List.length_nil, Nat.zero_add, show ((o : Int)).toNat = o from rfl]
        rw [ih]
        have hd : decide ((cutR (l.drop (o + 1))).length + 1 ≤ k + 1 + 1) = decide ((cutR (l.drop (o + 1))).length ≤ k + 1) := by
          rw [Bool.eq_iff_iff]; simp
        rw [hd]
        cases P (l.take o) <;> cases decide ((cutR (l.drop (o + 1))).length ≤ k + 1) <;> simp
    · have q : Lib.indexByte l 46 = -1 := by
        by_cases e : Lib.indexByte l 46 = -1
        · exact e
        · have := Lib.indexByte_ge l 46
          obtain ⟨q1, _⟩ := Lib.indexByte_some (l := l) (c := 46) (o := (Lib.indexByte l 46).toNat) (by omega)
          exact absurd (List.mem_of_getElem? q1) h
      rw [q, if_pos (by decide), cutR_none h]
      simp
theorem ofNat46 {x : Nat} (h : x < 256) (e : UInt8.ofNat x = 46) : x = 46 := by
  have := congrArg UInt8.toNat e
  rw [UInt8.toNat_ofNat', Nat.mod_eq_of_lt h] at this
  exact this
/-- What is cut, going on from byte to byte, is what is cut at the first point, and so on. -/
theorem byteAt_list (t : ByteArray) (k : Nat) (h : k < t.size) : t.data.toList[k]? = some (UInt8.ofNat (byteAt t k)) := by
  rw [byt_list t k h]
  unfold byteAt
  rw [dif_pos h]
  simp
theorem cutUp_is (t : ByteArray) : ∀ k, k ≤ t.size → (∀ i, (cutUp t 46 k).2 ≤ i → i < k → byteAt t i ≠ 46) ∧ ((cutUp t 46 k).1.map (·.data.toList)) ++ cutR (t.data.toList.drop (cutUp t 46 k).2) = cutR t.data.toList
  | 0, _ => by
    unfold cutUp
    exact ⟨fun i _ h => by omega, by simp⟩
  | k + 1, hk => by
    obtain ⟨h1, h2⟩ := cutUp_is t k (by omega)
    have hle := (cutUp_le t 46 k).1
    obtain ⟨ls, f, hc⟩ : ∃ ls f, cutUp t 46 k = (ls, f) := ⟨_, _, rfl⟩
    rw [hc] at h1 h2 hle
    dsimp only at h1 h2 hle
    by_cases hb : byteAt t k = 46
    · have e : cutUp t 46 (k + 1) = (ls ++ [t.extract f k], k + 1) := by
        conv => lhs; unfold cutUp
        rw [if_pos hb, hc]
      rw [e]
      dsimp only
      refine ⟨fun i _ _ => by omega, ?_⟩
      rw [← h2]
      have hkl : k < t.size := by omega
      have hd : t.data.toList.drop f = (t.data.toList.drop f).take (k - f) ++ 46 :: (t.data.toList.drop f).drop (k - f + 1) ∧ (46 : UInt8) ∉ (t.data.toList.drop f).take (k - f) := by
        refine at_dot ?_ (fun j hj hh => ?_)
        · rw [List.getElem?_drop, show f + (k - f) = k by omega, byteAt_list t k hkl, hb]; rfl
        · rw [List.getElem?_drop, byteAt_list t (f + j) (by omega)] at hh
          have hlt : byteAt t (f + j) < 256 := by
            unfold byteAt; split
            · exact UInt8.toNat_lt _
            · omega
          have hne := h1 (f + j) (by omega) (by omega)
          simp only [Option.some.injEq] at hh
          exact hne (ofNat46 hlt hh)
      rw [hd.1, cutR_dot hd.2]
      have ex : (t.extract f k).data.toList = (t.data.toList.drop f).take (k - f) := by
        rw [Lib.extract_data]
      rw [List.map_append, List.append_assoc]
      simp only [List.map_cons, List.map_nil, List.singleton_append, ex, List.drop_drop]
      rw [show f + (k - f + 1) = k + 1 by omega]
    · have e : cutUp t 46 (k + 1) = (ls, f) := by
        conv => lhs; unfold cutUp
        rw [if_neg hb, hc]
      rw [e]
      refine ⟨fun i hi hik => ?_, h2⟩
      by_cases ei : i = k
      · subst ei; exact hb
      · exact h1 i hi (by omega)
theorem cutF_is (t : ByteArray) : (cutF t 46).map (·.data.toList) = cutR t.data.toList := by
  obtain ⟨h1, h2⟩ := cutUp_is t t.size (Nat.le_refl _)
  have hle := (cutUp_le t 46 t.size).1
  unfold cutF
  rw [List.map_append, ← h2]
  congr 1
  have hn : (46 : UInt8) ∉ t.data.toList.drop (cutUp t 46 t.size).2 := by
    refine no_dot_of (fun j hh => ?_)
    rw [List.getElem?_drop] at hh
    have hl : (cutUp t 46 t.size).2 + j < t.size := by
      have := (List.getElem?_eq_some_iff.1 hh).1
      simpa using this
    rw [byteAt_list t _ hl] at hh
    have hlt : byteAt t ((cutUp t 46 t.size).2 + j) < 256 := by
      unfold byteAt; split
      · exact UInt8.toNat_lt _
      · omega
    simp only [Option.some.injEq] at hh
    exact h1 _ (by omega) hl (ofNat46 hlt hh)
  rw [cutR_none hn]
  simp only [List.map_cons, List.map_nil]
  rw [Lib.extract_data]
  congr 1
  exact List.take_of_length_le (by simp)
def nameL (l : List UInt8) : Bool := nameOK ⟨l.toArray⟩
theorem nameL_data (b : ByteArray) : nameL b.data.toList = nameOK b := by
  rfl
theorem all_names (l : List ByteArray) : l.all nameOK = (l.map (·.data.toList)).all nameL := by
  rw [List.all_map]
  rfl
theorem names_sum {l : List (List UInt8)} (h : l.all nameL = true) : (l.map (fun x => x.length + 1)).sum ≤ l.length * 41 := by
  induction l with
  | nil => simp
  | cons a t ih =>
    simp only [List.all_cons, Bool.and_eq_true] at h
    have h1 := ih h.2
    have h2 := name_small (s := ⟨a.toArray⟩) h.1
    have h3 : a.length ≤ 40 := by simpa [ByteArray.size] using h2
    simp only [List.map_cons, List.sum_cons, List.length_cons]
    omega
/-- What SplitN at points into five gives is names alone just if the text is a path. -/
theorem path_split (t : ByteArray) : (Lib.splitB ⟨#[46]⟩ 0 (min 5 (t.size + 1) - 1) t).all nameOK = pathB nameOK t := by
  rw [all_names, Lib.splitB_data, split_all (fun x hx => by
    have := name_no_dot' (s := ⟨x.toArray⟩) hx
    simpa using this)]
  unfold pathB
  rw [all_names, cutF_is]
  have hl : (cutF t 46).length = (cutR t.data.toList).length := by rw [← cutF_is, List.length_map]
  rw [hl]
  have hs := cutR_sum t.data.toList
  have hz : t.data.toList.length = t.size := by simp
  cases ha : (cutR t.data.toList).all nameL
  · simp
  · have h1 := names_sum ha
    have h2 : (cutR t.data.toList).length ≤ t.size + 1 := by
      have : ∀ l : List (List UInt8), l.length ≤ (l.map (fun x => x.length + 1)).sum := fun l => by
        induction l with
        | nil => simp
        | cons a t ih => simp; omega
      have := this (cutR t.data.toList)
      omega
    simp only [Bool.and_true]
    rw [Bool.eq_iff_iff]
    simp only [decide_eq_true_eq, Bool.and_eq_true]
    omega
end Go.Proofs.YtcbabajfdihcdaaGreatDoor

namespace Go.Proofs.YtcbabajfdihcdaaGreatDoor
open Go.ChangeShapes Go.WideShapes Go.ChangeAt Go.RowKit
set_option linter.unusedVariables false

theorem any_takeW {α : Type} (l : List α) (f : α → Bool) (k : Nat) (h : k < l.length) (h0 : (l.take k).any f = false) (h1 : f l[k] = false) : (l.take (k + 1)).any f = false := by
  rw [List.take_succ_eq_append_getElem h, List.any_append, h0]
  simp [h1]

def noName (s : ByteArray) : Bool := !nameOK s
set_option maxRecDepth 100000 in
theorem implNoName (s : ByteArray) (hz : s.size ≤ 1048576) (w : World) (hT : Lib.Utf8Tabs 0 1 w) : Calls Tryz.prog 69 #[.string s] w fun e w' => e = .returned (.bool (noName s)) ∧ Below w.heap.size w w' := by
  have cn := implNameOK s w hT
  clear hT
  unfold noName
  obtain ⟨b, hb⟩ : ∃ b, nameOK s = b := ⟨_, rfl⟩
  rw [hb] at cn ⊢
  clear hb
  go_enter Tryz.func69, Tryz.ntmps69
  go_wp2_with (go_at_call 70; go_must (refine cn.mono ?_; rintro e w1 ⟨rfl, hb1⟩))
  go_ret
  exact ⟨by simp, hb1⟩

set_option maxRecDepth 100000 in
set_option maxHeartbeats 1000000 in
theorem implIndexN (ss : List ByteArray) (a : Option Addr) (cap : Nat) (w : World) (hlen : ss.length ≤ 1000000) (hz : ∀ s ∈ ss, s.size ≤ 1048576) (hc : 0 < ss.length → ∃ g, a = some ⟨g, 0, none⟩ ∧ g < w.heap.size ∧ ∀ j (hj : j < ss.length), w.cell? ⟨g, j, none⟩ = some (.string ss[j])) (hT : Lib.Utf8Tabs 0 1 w) :
    Calls Tryz.prog 97 #[.slice a ss.length cap, .func (.func 69) #[] #[]] w fun e w' => (∃ r : Int, e = .returned (.int .i64 r) ∧ decide (0 ≤ r) = ss.any noName) ∧ Below w.heap.size w w' := by
  have HC : Hid (0 < ss.length → ∃ g, a = some ⟨g, 0, none⟩ ∧ g < w.heap.size ∧ ∀ j (hj : j < ss.length), w.cell? ⟨g, j, none⟩ = some (.string ss[j])) := hc
  have HZ : Hid (∀ s ∈ ss, s.size ≤ 1048576) := hz
  have HT : Hid (Lib.Utf8Tabs 0 1 w) := hT
  have hlen' : (ss.length : Int) ≤ 1000000 := by omega
  clear hc hT hz
  go_enter Tryz.func97, Tryz.ntmps97
  go_wp2_with fail
  go_loopw [8] (fun i8 wr => ∃ (k : Nat), i8 = .int .i64 (k : Int) ∧ k ≤ ss.length ∧ (ss.take k).any noName = false ∧ Below w.heap.size w wr) (fun i8 _ => ss.length - (intOf i8).toNat)
  case atStart => exact ⟨0, rfl, by omega, by simp, Below.refl _ _⟩
  case round =>
    obtain ⟨k, rfl, hk, hany, hb⟩ := hrel
    have HA : Hid ((ss.take k).any noName = false) := hany
    clear hany
    by_cases hkn : k < ss.length
    · have hkn' : (k : Int) < (ss.length : Int) := by omega
      obtain ⟨g, rfl, hg, hcell⟩ := HC.out (by omega)
      have x1 := hcell k hkn
      have z1 := HZ.out ss[k] (List.getElem_mem hkn)
      obtain ⟨x, hx⟩ : ∃ x, ss[k] = x := ⟨_, rfl⟩
      have HX : Hid (ss[k] = x) := hx
      rw [hx] at x1 z1
      clear hx hcell
      have d1 := (hb.cell (p := ⟨g, k, none⟩) hg).trans x1
      have cn := implNoName x z1 wr (Utf8Tabs_below HT.out hb)
      obtain ⟨B1, hB1⟩ : ∃ B1, noName x = B1 := ⟨_, rfl⟩
      rw [hB1] at cn
      have HB1 : Hid (noName x = B1) := hB1
      clear hB1
      cases B1
      · go_wp2_with (go_at_call 69; go_must (refine cn.mono ?_; rintro e w1 ⟨rfl, hb1⟩))
        exact ⟨⟨k + 1, rfl, by omega, any_takeW ss _ k hkn HA.out (by rw [HX.out]; exact HB1.out), good_below hb hb1⟩, by simp [intOf]; omega⟩
      · go_wp2_with (go_at_call 69; go_must (refine cn.mono ?_; rintro e w1 ⟨rfl, hb1⟩))
        go_ret
        refine ⟨⟨_, rfl, ?_⟩, good_below hb hb1⟩
        rw [List.any_eq_true.2 ⟨ss[k], List.getElem_mem hkn, by rw [HX.out]; exact HB1.out⟩]
        simp
    · have hkn' : ¬ ((k : Int) < (ss.length : Int)) := by omega
      have hA := HA.out
      rw [List.take_of_length_le (by omega)] at hA
      go_wp2_with fail
      go_ret
      refine ⟨⟨_, rfl, ?_⟩, hb⟩
      first
        | (rw [hA]; rfl)
        | omega
set_option maxRecDepth 100000 in
theorem implContainsN (ss : List ByteArray) (a : Option Addr) (cap : Nat) (w : World) (hlen : ss.length ≤ 1000000) (hz : ∀ s ∈ ss, s.size ≤ 1048576) (hc : 0 < ss.length → ∃ g, a = some ⟨g, 0, none⟩ ∧ g < w.heap.size ∧ ∀ j (hj : j < ss.length), w.cell? ⟨g, j, none⟩ = some (.string ss[j])) (hT : Lib.Utf8Tabs 0 1 w) :
    Calls Tryz.prog 66 #[.slice a ss.length cap, .func (.func 69) #[] #[]] w fun e w' => e = .returned (.bool (ss.any noName)) ∧ Below w.heap.size w w' := by
  have c := implIndexN ss a cap w hlen hz hc hT
  clear hc hT hz
  go_enter Tryz.func66, Tryz.ntmps66
  go_wp2_with (go_at_call 97; go_must (refine c.mono ?_; rintro e w1 ⟨⟨r, rfl, hr⟩, hb1⟩))
  go_ret
  refine ⟨congrArg (fun b => Ending.returned (Value.bool b)) ?_, hb1⟩
  rw [← hr]

set_option maxRecDepth 100000 in
theorem implNames (ss : List ByteArray) (a : Option Addr) (cap : Nat) (w : World) (hlen : ss.length ≤ 1000000) (hz : ∀ s ∈ ss, s.size ≤ 1048576) (hc : 0 < ss.length → ∃ g, a = some ⟨g, 0, none⟩ ∧ g < w.heap.size ∧ ∀ j (hj : j < ss.length), w.cell? ⟨g, j, none⟩ = some (.string ss[j])) (hT : Lib.Utf8Tabs 0 1 w) :
    Calls Tryz.prog 42 #[.slice a ss.length cap] w fun e w' => e = .returned (.bool (ss.all (nameOK))) ∧ Below w.heap.size w w' := by
  have c := implContainsN ss a cap w hlen hz hc hT
  have hn : ss.all (nameOK) = !(ss.any noName) := by rw [List.all_eq_not_any_not]; rfl
  rw [hn]
  obtain ⟨b, hb⟩ : ∃ b, ss.any noName = b := ⟨_, rfl⟩
  rw [hb] at c ⊢
  clear hb hn hT hc hz
  go_enter Tryz.func42, Tryz.ntmps42
  go_wp2_with (go_at_call 66; go_must (refine c.mono ?_; rintro e w1 ⟨rfl, hb1⟩))
  go_ret
  exact ⟨by simp, hb1⟩

/-- strings.SplitN at a point into five. -/
theorem info9s : (Tryz.prog.info? 9).map (fun i => (i.zero, i.size, i.bytes)) = some (some (.string ByteArray.empty), 1, 16) := by kernel_rfl
theorem implGen (s : ByteArray) (hz : s.size ≤ 1048576) (w : World) :
    Calls Tryz.prog 159 #[.string s, .string ⟨#[46]⟩, .int .i64 0, .int .i64 5] w fun e w' =>
      e = .returned (.slice (some ⟨w.heap.size, 0, none⟩) (Lib.splitB ⟨#[46]⟩ 0 (min 5 (s.size + 1) - 1) s).length (min 5 (s.size + 1))) ∧ w' = w.alloc (.cells (Lib.cellsOf (Lib.splitB ⟨#[46]⟩ 0 (min 5 (s.size + 1) - 1) s) (min 5 (s.size + 1))) 9) := by
  refine Any.strings_genSplit_core Tryz.lays221 info9s s ⟨#[46]⟩ 0 5 (min 5 (s.size + 1)) w (by omega) (by decide) (by decide) (fun x c hx => ?_) ?_ (by decide) (by decide) ?_
  · refine (Tryz.strings_Index_one x 46 _).mono ?_
    rintro e w' ⟨rfl, rfl⟩
    refine ⟨?_, rfl⟩
    rw [show Lib.indexB x ⟨#[46]⟩ = Lib.indexByte x.data.toList 46 from Lib.index_one _ _]
  · refine (Tryz.strings_Count_one s 46 w).mono ?_
    rintro e w' ⟨rfl, rfl⟩
    refine ⟨?_, rfl⟩
    rw [show Lib.countB s ⟨#[46]⟩ = Lib.countByte s.data.toList 46 from Lib.count_one _ _]
  · rw [if_neg (by decide)]; omega
set_option maxRecDepth 100000 in
theorem implSplit (s : ByteArray) (hz : s.size ≤ 1048576) (w : World) :
    Calls Tryz.prog 137 #[.string s, .string ⟨#[46]⟩, .int .i64 5] w fun e w' =>
      e = .returned (.slice (some ⟨w.heap.size, 0, none⟩) (Lib.splitB ⟨#[46]⟩ 0 (min 5 (s.size + 1) - 1) s).length (min 5 (s.size + 1))) ∧ w' = w.alloc (.cells (Lib.cellsOf (Lib.splitB ⟨#[46]⟩ 0 (min 5 (s.size + 1) - 1) s) (min 5 (s.size + 1))) 9) := by
  have c := implGen s hz w
  go_enter Tryz.func137, Tryz.ntmps137
  go_wp2_with (go_at_call 159; go_must (refine c.mono ?_; rintro e w' ⟨rfl, rfl⟩))
  go_ret
  exact ⟨rfl, rfl⟩
theorem split_small (sep : ByteArray) (sv : Nat) : ∀ (k : Nat) (s : ByteArray), ∀ x ∈ Lib.splitB sep sv k s, x.size ≤ s.size
  | 0, s => by
    intro x hx
    rw [Lib.splitB_zero] at hx
    simp at hx; subst hx; exact Nat.le_refl _
  | k + 1, s => by
    intro x hx
    unfold Lib.splitB at hx
    split at hx
    · simp at hx; subst hx; exact Nat.le_refl _
    · rcases List.mem_cons.1 hx with rfl | hx
      · simp only [ByteArray.size_extract]; omega
      · have := split_small sep sv k _ x hx
        simp only [ByteArray.size_extract] at this
        omega
theorem cells_split (w : World) (ps : List ByteArray) (N : Nat) (e : TypeId) (h : ps.length ≤ N) : ∀ j (hj : j < ps.length), (w.alloc (.cells (Lib.cellsOf ps N) e)).cell? ⟨w.heap.size, j, none⟩ = some (.string ps[j]) := by
  intro j hj
  have hb : Blk (w.alloc (.cells (Lib.cellsOf ps N) e)) w.heap.size e (Lib.cellsOf ps N) := heap_alloc_last w _
  rw [hb.cell]
  unfold Lib.cellsOf
  rw [List.getElem?_toArray, List.getElem?_append_left (by simpa using hj), List.getElem?_map, List.getElem?_eq_getElem hj]
  rfl
/-- A text's parts, as SplitN into five gives them. -/
def partsF (t : ByteArray) : List ByteArray := Lib.splitB ⟨#[46]⟩ 0 (min 5 (t.size + 1) - 1) t
set_option maxRecDepth 100000 in
theorem implParts (s : ByteArray) (hz : s.size ≤ 1048576) (w : World) :
    Calls Tryz.prog 117 #[.string s] w fun e w' =>
      e = .returned (.slice (some ⟨w.heap.size, 0, none⟩) (partsF s).length (min 5 (s.size + 1))) ∧ w' = w.alloc (.cells (Lib.cellsOf (partsF s) (min 5 (s.size + 1))) 9) := by
  have c := implSplit s hz w
  change Calls Tryz.prog 137 #[.string s, .string ⟨#[46]⟩, .int .i64 5] w fun e w' => e = .returned (.slice (some ⟨w.heap.size, 0, none⟩) (partsF s).length (min 5 (s.size + 1))) ∧ w' = w.alloc (.cells (Lib.cellsOf (partsF s) (min 5 (s.size + 1))) 9) at c
  obtain ⟨ps, hp⟩ : ∃ ps, partsF s = ps := ⟨_, rfl⟩
  obtain ⟨K, hK⟩ : ∃ K, min 5 (s.size + 1) = K := ⟨_, rfl⟩
  rw [hp, hK] at c ⊢
  clear hp hK
  go_enter Tryz.func117, Tryz.ntmps117
  go_wp2_with (go_at_call 137; go_must (refine c.mono ?_; rintro e w' ⟨rfl, rfl⟩))
  go_ret
  exact ⟨rfl, rfl⟩
set_option maxRecDepth 100000 in
theorem implIsPath (s : ByteArray) (hz : s.size ≤ 1048576) (w : World) (hT : Lib.Utf8Tabs 0 1 w) : Calls Tryz.prog 94 #[.agg #[.string s]] w fun e w' => e = .returned (.bool (pathB nameOK s)) ∧ Below w.heap.size w w' := by
  have hw1 : ∀ o, Below w.heap.size w (w.alloc o) := fun o => (Below.refl _ w).alloc (Nat.le_refl _) _
  have cs := fun w => implParts s hz w
  have hps : (partsF s).all nameOK = pathB nameOK s := path_split s
  have hsm : ∀ x ∈ partsF s, x.size ≤ 1048576 := fun x hx => Nat.le_trans (split_small ⟨#[46]⟩ 0 (min 5 (s.size + 1) - 1) s x hx) hz
  have hl : (partsF s).length ≤ min 5 (s.size + 1) - 1 + 1 := Lib.splitB_length_le ⟨#[46]⟩ 0 (min 5 (s.size + 1) - 1) s
  obtain ⟨ps, hp⟩ : ∃ ps, partsF s = ps := ⟨_, rfl⟩
  obtain ⟨K, hK⟩ : ∃ K, min 5 (s.size + 1) = K := ⟨_, rfl⟩
  rw [hp] at hps hsm hl
  simp only [hp] at cs
  rw [hK] at hl
  simp only [hK] at cs
  have hK1 : ps.length ≤ K := by omega
  have cn := fun w1 (hT1 : Lib.Utf8Tabs 0 1 w1) => implNames ps (some ⟨w1.heap.size, 0, none⟩) K (w1.alloc (.cells (Lib.cellsOf ps K) 9)) (by omega) hsm (fun _ => ⟨_, rfl, by simp, cells_split w1 ps K _ hK1⟩) (Utf8Tabs_below hT1 ((Below.refl _ w1).alloc (Nat.le_refl _) _))
  rw [hps] at cn
  have hT2 : Lib.Utf8Tabs 0 1 (w.alloc (.cells #[.string s] 106)) := Utf8Tabs_below hT (hw1 _)
  have cn' := cn _ hT2
  rw [World.size_alloc] at cn'
  obtain ⟨b, hb⟩ : ∃ b, pathB nameOK s = b := ⟨_, rfl⟩
  rw [hb] at cn' ⊢
  clear hb cn hT hT2 hps hsm hl hp hK hK1
  go_enter Tryz.func94, Tryz.ntmps94
  go_wp2_with (first
    | (go_at_call 117; go_must (refine (cs _).mono ?_; rintro e w1 ⟨rfl, rfl⟩; simp only [World.size_alloc]))
    | (go_at_call 42; go_must (refine cn'.mono ?_; rintro e w2 ⟨rfl, hb2⟩)))
  go_ret
  exact ⟨rfl, good_below ((hw1 _).alloc (by simp) _) hb2⟩

def noPath (s : ByteArray) : Bool := !pathB nameOK s
set_option maxRecDepth 100000 in
theorem implNoPath (s : ByteArray) (hz : s.size ≤ 1048576) (w : World) (hT : Lib.Utf8Tabs 0 1 w) : Calls Tryz.prog 120 #[.string s] w fun e w' => e = .returned (.bool (noPath s)) ∧ Below w.heap.size w w' := by
  have cn := implIsPath s hz w hT
  clear hT
  unfold noPath
  obtain ⟨b, hb⟩ : ∃ b, pathB nameOK s = b := ⟨_, rfl⟩
  rw [hb] at cn ⊢
  clear hb
  go_enter Tryz.func120, Tryz.ntmps120
  go_wp2_with (go_at_call 94; go_must (refine cn.mono ?_; rintro e w1 ⟨rfl, hb1⟩))
  go_ret
  exact ⟨by simp, hb1⟩

set_option maxRecDepth 100000 in
set_option maxHeartbeats 1000000 in
theorem implIndexP (ss : List ByteArray) (a : Option Addr) (cap : Nat) (w : World) (hlen : ss.length ≤ 1000000) (hz : ∀ s ∈ ss, s.size ≤ 1048576) (hc : 0 < ss.length → ∃ g, a = some ⟨g, 0, none⟩ ∧ g < w.heap.size ∧ ∀ j (hj : j < ss.length), w.cell? ⟨g, j, none⟩ = some (.string ss[j])) (hT : Lib.Utf8Tabs 0 1 w) :
    Calls Tryz.prog 97 #[.slice a ss.length cap, .func (.func 120) #[] #[]] w fun e w' => (∃ r : Int, e = .returned (.int .i64 r) ∧ decide (0 ≤ r) = ss.any noPath) ∧ Below w.heap.size w w' := by
  have HC : Hid (0 < ss.length → ∃ g, a = some ⟨g, 0, none⟩ ∧ g < w.heap.size ∧ ∀ j (hj : j < ss.length), w.cell? ⟨g, j, none⟩ = some (.string ss[j])) := hc
  have HZ : Hid (∀ s ∈ ss, s.size ≤ 1048576) := hz
  have HT : Hid (Lib.Utf8Tabs 0 1 w) := hT
  have hlen' : (ss.length : Int) ≤ 1000000 := by omega
  clear hc hT hz
  go_enter Tryz.func97, Tryz.ntmps97
  go_wp2_with fail
  go_loopw [8] (fun i8 wr => ∃ (k : Nat), i8 = .int .i64 (k : Int) ∧ k ≤ ss.length ∧ (ss.take k).any noPath = false ∧ Below w.heap.size w wr) (fun i8 _ => ss.length - (intOf i8).toNat)
  case atStart => exact ⟨0, rfl, by omega, by simp, Below.refl _ _⟩
  case round =>
    obtain ⟨k, rfl, hk, hany, hb⟩ := hrel
    have HA : Hid ((ss.take k).any noPath = false) := hany
    clear hany
    by_cases hkn : k < ss.length
    · have hkn' : (k : Int) < (ss.length : Int) := by omega
      obtain ⟨g, rfl, hg, hcell⟩ := HC.out (by omega)
      have x1 := hcell k hkn
      have z1 := HZ.out ss[k] (List.getElem_mem hkn)
      obtain ⟨x, hx⟩ : ∃ x, ss[k] = x := ⟨_, rfl⟩
      have HX : Hid (ss[k] = x) := hx
      rw [hx] at x1 z1
      clear hx hcell
      have d1 := (hb.cell (p := ⟨g, k, none⟩) hg).trans x1
      have cn := implNoPath x z1 wr (Utf8Tabs_below HT.out hb)
      obtain ⟨B1, hB1⟩ : ∃ B1, noPath x = B1 := ⟨_, rfl⟩
      rw [hB1] at cn
      have HB1 : Hid (noPath x = B1) := hB1
      clear hB1
      cases B1
      · go_wp2_with (go_at_call 120; go_must (refine cn.mono ?_; rintro e w1 ⟨rfl, hb1⟩))
        exact ⟨⟨k + 1, rfl, by omega, any_takeW ss _ k hkn HA.out (by rw [HX.out]; exact HB1.out), good_below hb hb1⟩, by simp [intOf]; omega⟩
      · go_wp2_with (go_at_call 120; go_must (refine cn.mono ?_; rintro e w1 ⟨rfl, hb1⟩))
        go_ret
        refine ⟨⟨_, rfl, ?_⟩, good_below hb hb1⟩
        rw [List.any_eq_true.2 ⟨ss[k], List.getElem_mem hkn, by rw [HX.out]; exact HB1.out⟩]
        simp
    · have hkn' : ¬ ((k : Int) < (ss.length : Int)) := by omega
      have hA := HA.out
      rw [List.take_of_length_le (by omega)] at hA
      go_wp2_with fail
      go_ret
      refine ⟨⟨_, rfl, ?_⟩, hb⟩
      first
        | (rw [hA]; rfl)
        | omega
set_option maxRecDepth 100000 in
theorem implContainsP (ss : List ByteArray) (a : Option Addr) (cap : Nat) (w : World) (hlen : ss.length ≤ 1000000) (hz : ∀ s ∈ ss, s.size ≤ 1048576) (hc : 0 < ss.length → ∃ g, a = some ⟨g, 0, none⟩ ∧ g < w.heap.size ∧ ∀ j (hj : j < ss.length), w.cell? ⟨g, j, none⟩ = some (.string ss[j])) (hT : Lib.Utf8Tabs 0 1 w) :
    Calls Tryz.prog 66 #[.slice a ss.length cap, .func (.func 120) #[] #[]] w fun e w' => e = .returned (.bool (ss.any noPath)) ∧ Below w.heap.size w w' := by
  have c := implIndexP ss a cap w hlen hz hc hT
  clear hc hT hz
  go_enter Tryz.func66, Tryz.ntmps66
  go_wp2_with (go_at_call 97; go_must (refine c.mono ?_; rintro e w1 ⟨⟨r, rfl, hr⟩, hb1⟩))
  go_ret
  refine ⟨congrArg (fun b => Ending.returned (Value.bool b)) ?_, hb1⟩
  rw [← hr]

set_option maxRecDepth 100000 in
theorem implPaths (ss : List ByteArray) (a : Option Addr) (cap : Nat) (w : World) (hlen : ss.length ≤ 1000000) (hz : ∀ s ∈ ss, s.size ≤ 1048576) (hc : 0 < ss.length → ∃ g, a = some ⟨g, 0, none⟩ ∧ g < w.heap.size ∧ ∀ j (hj : j < ss.length), w.cell? ⟨g, j, none⟩ = some (.string ss[j])) (hT : Lib.Utf8Tabs 0 1 w) :
    Calls Tryz.prog 99 #[.slice a ss.length cap] w fun e w' => e = .returned (.bool (ss.all (pathB nameOK))) ∧ Below w.heap.size w w' := by
  have c := implContainsP ss a cap w hlen hz hc hT
  have hn : ss.all (pathB nameOK) = !(ss.any noPath) := by rw [List.all_eq_not_any_not]; rfl
  rw [hn]
  obtain ⟨b, hb⟩ : ∃ b, ss.any noPath = b := ⟨_, rfl⟩
  rw [hb] at c ⊢
  clear hb hn hT hc hz
  go_enter Tryz.func99, Tryz.ntmps99
  go_wp2_with (go_at_call 66; go_must (refine c.mono ?_; rintro e w1 ⟨rfl, hb1⟩))
  go_ret
  exact ⟨by simp, hb1⟩

set_option maxRecDepth 100000 in
theorem implSingle (ss : List ByteArray) (a : Option Addr) (cap : Nat) (w : World) (hlen : ss.length ≤ 1000000) (hz : ∀ s ∈ ss, s.size ≤ 1048576) (hc : 0 < ss.length → ∃ g, a = some ⟨g, 0, none⟩ ∧ g < w.heap.size ∧ ∀ j (hj : j < ss.length), w.cell? ⟨g, j, none⟩ = some (.string ss[j])) :
    Calls Tryz.prog 43 #[.slice a ss.length cap] w fun e w' => e = .returned (.bool (!dupFrom ss [])) ∧ Below w.heap.size w w' := by
  have c := implTwice ss a cap w hlen hz hc
  obtain ⟨b, hb⟩ : ∃ b, dupFrom ss [] = b := ⟨_, rfl⟩
  rw [hb] at c ⊢
  clear hb hc hz
  go_enter Tryz.func43, Tryz.ntmps43
  go_wp2_with (go_at_call 71; go_must (refine c.mono ?_; rintro e w1 ⟨⟨t, rfl⟩, hb1⟩))
  go_ret
  exact ⟨by simp, hb1⟩
set_option maxRecDepth 100000 in
theorem implLong (s : ByteArray) (hz : s.size ≤ 1048576) (w : World) : Calls Tryz.prog 95 #[.string s] w fun e w' => e = .returned (.bool (!decide (s.size ≤ 200))) ∧ w' = w := by
  have hz' : (s.size : Int) ≤ 1048576 := by omega
  go_enter Tryz.func95, Tryz.ntmps95
  go_wp2_with fail
  go_ret
  refine ⟨congrArg (fun b => Ending.returned (Value.bool b)) ?_, rfl⟩
  by_cases h : s.size ≤ 200
  · simp [h]; omega
  · simp [h]; omega
end Go.Proofs.YtcbabajfdihcdaaGreatDoor

namespace Go.Proofs.YtcbabajfdihcdaaGreatDoor
open Go.ChangeShapes Go.WideShapes Go.ChangeAt Go.RowKit
set_option linter.unusedVariables false

def entryB (nameB : ByteArray → Bool) (pre : List Entry) (e : Entry) : Bool := pathB nameB e.path && decide (e.text.size ≤ 200) && !(pre.any fun q => q.path.toList == e.path.toList)
/-- Each one, with those ahead of it. -/
def rangeB {α : Type} (f : List α → α → Bool) (l : List α) : Bool := (List.range l.length).all fun k => match l[k]? with | some x => f (l.take k) x | none => true
def entriesB (nameB : ByteArray → Bool) (es : List Entry) : Bool := rangeB (entryB nameB) es
def layerB (nameB : ByteArray → Bool) (pre : List Layer) (x : Layer) : Bool := nameB x.name && decide (x.entries.length ≤ 100) && !(pre.any fun q => q.name.toList == x.name.toList) && entriesB nameB x.entries
def layersB (nameB : ByteArray → Bool) (l : List Layer) : Bool := decide (l.length ≤ 20) && rangeB (layerB nameB) l
theorem range_bad {α : Type} {l : List α} {f : List α → α → Bool} {i : Nat} (hi : i < l.length) (h : f (l.take i) l[i] = false) : rangeB f l = false := by
  unfold rangeB
  rw [List.all_eq_false]
  refine ⟨i, by simpa using hi, ?_⟩
  rw [List.getElem?_eq_getElem hi]
  simp [h]
theorem range_all {α : Type} {l : List α} {f : List α → α → Bool} (h : ∀ i (hi : i < l.length), f (l.take i) l[i] = true) : rangeB f l = true := by
  unfold rangeB
  rw [List.all_eq_true]
  intro i hi
  have hi' : i < l.length := by simpa using hi
  rw [List.getElem?_eq_getElem hi']
  exact h i hi'
theorem layers_bad {nameB : ByteArray → Bool} {l : List Layer} {i : Nat} (hi : i < l.length) (h : layerB nameB (l.take i) l[i] = false) : layersB nameB l = false := by
  unfold layersB
  rw [range_bad (f := layerB nameB) hi h]
  simp
theorem entries_bad {nameB : ByteArray → Bool} {l : List Entry} {i : Nat} (hi : i < l.length) (h : entryB nameB (l.take i) l[i] = false) : entriesB nameB l = false := by
  unfold entriesB
  rw [range_bad (f := entryB nameB) hi h]
theorem take_any {α : Type} {l : List α} {f : α → Bool} {k i : Nat} (hik : i < k) (hi : i < l.length) (h : f l[i] = true) : (l.take k).any f = true := by
  rw [List.any_eq_true]
  exact ⟨l[i], by rw [List.mem_take_iff_getElem]; exact ⟨i, by omega, rfl⟩, h⟩
theorem take_none {α : Type} {l : List α} {f : α → Bool} {k : Nat} (h : ∀ i (hi : i < l.length), i < k → f l[i] = false) : (l.take k).any f = false := by
  rw [List.any_eq_false]
  intro x hx
  obtain ⟨i, hi, rfl⟩ := List.mem_take_iff_getElem.1 hx
  rw [h i (by omega) (by omega)]
  simp

set_option maxRecDepth 100000 in
set_option maxHeartbeats 4000000 in
theorem specLayers {nameB : ByteArray → Bool} (hN : NameSpec nameB) {S : Nat → Prop} {l : List Layer} {v : Value} {w : World} (hS : ∀ b, S b → b < w.heap.size) (h : LayersAt S w v l) (hok : ∀ x ∈ l, LayersOK 1048576 x) :
    Calls Tryz.prog 31 #[v] w fun e w' => e = .returned (.bool (layersB nameB l)) ∧ Below w.heap.size w w' := by
  obtain ⟨hlm, a, cap, rfl, hc⟩ := h
  have HC : Hid _ := hc
  have HS : Hid (∀ b, S b → b < w.heap.size) := hS
  have HN : Hid (NameSpec nameB) := hN
  have HOK : Hid (∀ x ∈ l, LayersOK 1048576 x) := hok
  have hlm' : (l.length : Int) ≤ 9223372036854775807 := by simp [maxLen] at hlm; omega
  clear hc hS hN hok hlm
  by_cases h20 : l.length ≤ 20
  · have h20' : ¬ ((20 : Int) < (l.length : Int)) := by omega
    go_enter Tryz.func31, Tryz.ntmps31
    go_wp2_with fail
    go_loopw [3] (fun i3 wr => ∃ (k : Nat), i3 = .int .i64 (k : Int) ∧ k ≤ l.length ∧ (∀ i (h : i < l.length), i < k → layerB nameB (l.take i) l[i] = true) ∧ Below w.heap.size w wr) (fun i3 _ => l.length - (intOf i3).toNat)
    case atStart => exact ⟨0, rfl, by omega, fun i _ h => by omega, Below.refl _ _⟩
    case round =>
      obtain ⟨k, rfl, hk, hall, hb⟩ := hrel
      have HA : Hid (∀ i (h : i < l.length), i < k → layerB nameB (l.take i) l[i] = true) := hall
      clear hall
      by_cases hkn : k < l.length
      · have hkn' : (k : Int) < (l.length : Int) := by omega
        obtain ⟨b, off, rfl, hbS, hcell⟩ := HC.out (by omega)
        have hbw := HS.out b hbS
        obtain ⟨c0, c1, nv, t1, t2⟩ := hcell k hkn
        have d0 := (hb.cell (p := ⟨b, off + k * 3, none⟩) hbw).trans c0
        have d1 := (hb.cell (p := ⟨b, off + k * 3 + 1, none⟩) hbw).trans c1
        have d2 := (hb.cell (p := ⟨b, off + k * 3 + 2, none⟩) hbw).trans t1
        have hbad := fun (h : layerB nameB (l.take k) l[k] = false) => layers_bad hkn h
        have hgood := fun (h : layerB nameB (l.take k) l[k] = true) (i : Nat) (hi : i < l.length) (hik : i < k + 1) => (show layerB nameB (l.take i) l[i] = true from by
          by_cases e : i = k
          · subst e; exact h
          · exact HA.out i hi (by omega))
        have hokx := HOK.out l[k] (List.getElem_mem hkn)
        have HCELL : Hid _ := hcell
        obtain ⟨x, hx⟩ : ∃ x, l[k] = x := ⟨_, rfl⟩
        rw [hx] at d0 d1 hbad hgood t2 hokx
        obtain ⟨xn, xr, es⟩ := x
        dsimp only at d0 d1 t2
        have HBAD : Hid (layerB nameB (l.take k) ⟨xn, xr, es⟩ = false → layersB nameB l = false) := hbad
        have HGOOD : Hid (layerB nameB (l.take k) ⟨xn, xr, es⟩ = true → ∀ (i : Nat) (hi : i < l.length), i < k + 1 → layerB nameB (l.take i) l[i] = true) := hgood
        have hesl : (es.length : Int) ≤ 1048576 := hokx.2.1
        have HOE : Hid (∀ y ∈ es, EntrysOK 1048576 y) := hokx.2.2
        obtain ⟨ea, ec, hnv⟩ := t2.shape
        subst hnv
        have HES : Hid (EntrysAt S w (.slice ea es.length ec) es) := t2
        have cn := HN.out xn
        obtain ⟨F, hF⟩ : ∃ F, nameB xn = F := ⟨_, rfl⟩
        rw [hF] at cn
        have HF : Hid (nameB xn = F) := hF
        clear hx hF hbad hgood hokx t1 t2 c0 c1 hcell
        have hbA : Blk (wr.alloc (.cells #[.string xn, .int .i64 xr, .slice ea es.length ec] 42)) wr.heap.size 42 #[.string xn, .int .i64 xr, .slice ea es.length ec] := heap_alloc_last wr _
        have HBA : Hid (Blk (wr.alloc (.cells #[.string xn, .int .i64 xr, .slice ea es.length ec] 42)) wr.heap.size 42 #[.string xn, .int .i64 xr, .slice ea es.length ec]) := hbA
        have hbw1 := hb.alloc hb.size (.cells #[.string xn, .int .i64 xr, .slice ea es.length ec] 42)
        clear hbA
        cases F
        · go_wp2_with (go_at_call 33; go_must (refine (cn _).mono ?_; rintro e w1 ⟨rfl, hb1⟩))
          go_ret
          refine ⟨?_, good_below hbw1 hb1⟩
          rw [HBAD.out (by unfold layerB; rw [HF.out]; rfl)]; rfl
        · by_cases h100 : es.length ≤ 100
          · have h100' : ¬ ((100 : Int) < (es.length : Int)) := by omega
            obtain ⟨g, hg⟩ : ∃ g, wr.heap.size = g := ⟨_, rfl⟩
            rw [hg] at HBA
            go_upto_region 9 with (go_at_call 33; go_must (refine (cn _).mono ?_; rintro e wA ⟨rfl, hb1⟩; have hbk := Blk.below HBA.out hb1; have e0 := hbk.cell 0; have e2 := hbk.cell 2; simp at e0 e2))
            have hbwA := good_below hbw1 hb1
            have HBK : Hid (Blk wA g 42 #[.string xn, .int .i64 xr, .slice ea es.length ec]) := hbk
            clear hbk hb1 hbw1 HBA cn hg e0 e2
            go_wp2_with fail
            go_loopw [5] (fun i5 wx => ∃ (j : Nat), i5 = .int .i64 (j : Int) ∧ j ≤ k ∧ (∀ i (h : i < l.length), i < j → (l[i].name.toList == xn.toList) = false) ∧ Below wA.heap.size wA wx) (fun i5 _ => k - (intOf i5).toNat)
            case atStart => exact ⟨0, rfl, by omega, fun i _ h => by omega, Below.refl _ _⟩
            case round =>
              obtain ⟨j, rfl, hj, hno, hB⟩ := hrel
              have HNO : Hid (∀ i (h : i < l.length), i < j → (l[i].name.toList == xn.toList) = false) := hno
              clear hno
              have hbk := Blk.below HBK.out hB
              have e0 := hbk.cell 0
              have e2 := hbk.cell 2
              simp at e0 e2
              have hbwx := good_below hbwA hB
              clear hbk
              by_cases hjk : j < k
              · have hjk' : (j : Int) < (k : Int) := by omega
                have hjl : j < l.length := by omega
                have hjl' : (j : Int) < (l.length : Int) := by omega
                obtain ⟨c0, _⟩ := HCELL.out j hjl
                have q0 := (hbwx.cell (p := ⟨b, off + j * 3, none⟩) hbw).trans c0
                obtain ⟨y, hy⟩ : ∃ y, l[j].name = y := ⟨_, rfl⟩
                rw [hy] at q0
                have HY : Hid (l[j].name = y) := hy
                clear hy c0
                cases hcmp : (y.toList == xn.toList)
                · go_upto_region 12 with fail
                  go_quiet (fail)
                  go_wp2_with fail
                  refine ⟨⟨j + 1, rfl, by omega, fun i hi hik => ?_, bel_drewN hB nq⟩, by simp [intOf]; omega⟩
                  by_cases e : i = j
                  · subst e; rw [HY.out]; exact hcmp
                  · exact HNO.out i hi (by omega)
                · go_upto_region 12 with fail
                  go_quiet (fail)
                  go_wp2_with fail
                  go_ret
                  refine ⟨?_, bel_drewN hbwx nq⟩
                  have hbd : layerB nameB (l.take k) ⟨xn, xr, es⟩ = false := by
                    unfold layerB
                    rw [take_any (f := fun q : Layer => q.name.toList == xn.toList) hjk hjl (by rw [HY.out]; exact hcmp)]
                    simp
                  rw [HBAD.out hbd]; rfl
              · obtain rfl : j = k := by omega
                have hjk' : ¬ ((j : Int) < (j : Int)) := by omega
                obtain ⟨wB, hwB⟩ : ∃ wB, wB = wr := ⟨_, rfl⟩
                subst hwB
                have HNA : Hid ((l.take j).any (fun q : Layer => q.name.toList == xn.toList) = false) := (show (l.take j).any (fun q : Layer => q.name.toList == xn.toList) = false from take_none (fun i hi hik => HNO.out i hi hik))
                have HBK2 : Hid (Blk wB g 42 #[.string xn, .int .i64 xr, .slice ea es.length ec]) := Blk.below HBK.out hB
                clear hB HNO hbwA HBK e0 e2
                go_wp2_with fail
                go_loopw [6] (fun i6 wx => ∃ (m : Nat), i6 = .int .i64 (m : Int) ∧ m ≤ es.length ∧ (∀ i (h : i < es.length), i < m → entryB nameB (es.take i) es[i] = true) ∧ Below wB.heap.size wB wx) (fun i6 _ => es.length - (intOf i6).toNat)
                case atStart => exact ⟨0, rfl, by omega, fun i _ h => by omega, Below.refl _ _⟩
                case round =>
                  obtain ⟨m, rfl, hm, hen, hB⟩ := hrel
                  have HEN : Hid (∀ i (h : i < es.length), i < m → entryB nameB (es.take i) es[i] = true) := hen
                  clear hen
                  have hbk := Blk.below HBK2.out hB
                  have e2 := hbk.cell 2
                  simp at e2
                  have hbwy := good_below hbwx hB
                  by_cases hmn : m < es.length
                  · have hmn' : (m : Int) < (es.length : Int) := by omega
                    obtain ⟨_, ea', ec', huv, huc⟩ := HES.out
                    simp only [Value.slice.injEq] at huv
                    obtain ⟨rfl, -, rfl⟩ := huv
                    obtain ⟨eb, eo, rfl, heS, hecell⟩ := huc (by omega)
                    have hew := HS.out eb heS
                    obtain ⟨p0, p1⟩ := hecell m hmn
                    have q0 := (hbwy.cell (p := ⟨eb, eo + m * 2, none⟩) hew).trans p0
                    have q1 := (hbwy.cell (p := ⟨eb, eo + m * 2 + 1, none⟩) hew).trans p1
                    have heo := HOE.out es[m] (List.getElem_mem hmn)
                    have hebad := fun (h : entryB nameB (es.take m) es[m] = false) => entries_bad hmn h
                    have hegood := fun (h : entryB nameB (es.take m) es[m] = true) (i : Nat) (hi : i < es.length) (hik : i < m + 1) => (show entryB nameB (es.take i) es[i] = true from by
                      by_cases e : i = m
                      · subst e; exact h
                      · exact HEN.out i hi (by omega))
                    have HEC : Hid _ := hecell
                    obtain ⟨y, hy⟩ : ∃ y, es[m] = y := ⟨_, rfl⟩
                    rw [hy] at q0 q1 heo hebad hegood
                    obtain ⟨yp, yt⟩ := y
                    unfold EntrysOK at heo
                    dsimp only at q0 q1 heo
                    have HEB : Hid (entryB nameB (es.take m) ⟨yp, yt⟩ = false → entriesB nameB es = false) := hebad
                    have HEG : Hid (entryB nameB (es.take m) ⟨yp, yt⟩ = true → ∀ (i : Nat) (hi : i < es.length), i < m + 1 → entryB nameB (es.take i) es[i] = true) := hegood
                    have hyp : (yp.size : Int) ≤ 1048576 := heo.1
                    have hyt : (yt.size : Int) ≤ 1048576 := heo.2
                    have cp := specPath HN.out yp (by simp [maxLen]; omega) wr
                    obtain ⟨G, hG⟩ : ∃ G, pathB nameB yp = G := ⟨_, rfl⟩
                    rw [hG] at cp
                    have HG : Hid (pathB nameB yp = G) := hG
                    have HYE : Hid (es[m] = ⟨yp, yt⟩) := hy
                    clear hy hG hebad hegood heo p0 p1 hecell huc
                    cases G
                    · go_wp2_with (go_at_call 56; go_must (refine cp.mono ?_; rintro e w1 ⟨rfl, hb1⟩))
                      go_ret
                      refine ⟨?_, good_below hbwy hb1⟩
                      have hbd : layerB nameB (l.take j) ⟨xn, xr, es⟩ = false := by
                        unfold layerB
                        rw [HEB.out (by unfold entryB; rw [HG.out]; rfl)]
                        simp
                      rw [HBAD.out hbd]; rfl
                    · by_cases h200 : yt.size ≤ 200
                      · have h200' : ¬ ((200 : Int) < (yt.size : Int)) := by omega
                        go_upto_region 19 with (go_at_call 56; go_must (refine cp.mono ?_; rintro e w1 ⟨rfl, hb1⟩; have hbk1 := Blk.below hbk hb1; have e2' := hbk1.cell 2; simp at e2'; have hbw1 := good_below hbwy hb1; have q0' := (hb1.cell (p := ⟨eb, eo + m * 2, none⟩) (Nat.lt_of_lt_of_le hew hbwy.size)).trans q0; have q1' := (hb1.cell (p := ⟨eb, eo + m * 2 + 1, none⟩) (Nat.lt_of_lt_of_le hew hbwy.size)).trans q1))
                        have hBm := good_below hB hb1
                        have HBK3 : Hid (Blk w1 g 42 #[.string xn, .int .i64 xr, .slice (some ⟨eb, eo, none⟩) es.length ec]) := hbk1
                        clear hbk hbk1 e2 e2' q0 q1 q0' q1' cp hb1
                        go_wp2_with fail
                        go_loopw [7] (fun i7 wx => ∃ (j2 : Nat), i7 = .int .i64 (j2 : Int) ∧ j2 ≤ m ∧ (∀ i (h : i < es.length), i < j2 → (es[i].path.toList == yp.toList) = false) ∧ Below w1.heap.size w1 wx) (fun i7 _ => m - (intOf i7).toNat)
                        case atStart => exact ⟨0, rfl, by omega, fun i _ h => by omega, Below.refl _ _⟩
                        case round =>
                          obtain ⟨j2, rfl, hj2, hno2, hB1⟩ := hrel
                          have HNO2 : Hid (∀ i (h : i < es.length), i < j2 → (es[i].path.toList == yp.toList) = false) := hno2
                          clear hno2
                          have hbk := Blk.below HBK3.out hB1
                          have e2 := hbk.cell 2
                          simp at e2
                          have hbwz := good_below hbw1 hB1
                          clear hbk
                          by_cases hjm : j2 < m
                          · have hjm' : (j2 : Int) < (m : Int) := by omega
                            have hje : j2 < es.length := by omega
                            have hje' : (j2 : Int) < (es.length : Int) := by omega
                            obtain ⟨p0, _⟩ := HEC.out j2 hje
                            obtain ⟨p2, _⟩ := HEC.out m hmn
                            have q0 := (hbwz.cell (p := ⟨eb, eo + j2 * 2, none⟩) hew).trans p0
                            have q2 := (hbwz.cell (p := ⟨eb, eo + m * 2, none⟩) hew).trans p2
                            rw [HYE.out] at q2
                            obtain ⟨z, hz⟩ : ∃ z, es[j2].path = z := ⟨_, rfl⟩
                            rw [hz] at q0
                            have HZ : Hid (es[j2].path = z) := hz
                            dsimp only at q2
                            clear hz p0 p2
                            cases hcmp : (z.toList == yp.toList)
                            · go_upto_region 22 with fail
                              go_quiet (fail)
                              go_wp2_with fail
                              refine ⟨⟨j2 + 1, rfl, by omega, fun i hi hik => ?_, bel_drewN hB1 nq⟩, by simp [intOf]; omega⟩
                              by_cases e : i = j2
                              · subst e; rw [HZ.out]; exact hcmp
                              · exact HNO2.out i hi (by omega)
                            · go_upto_region 22 with fail
                              go_quiet (fail)
                              go_wp2_with fail
                              go_ret
                              refine ⟨?_, bel_drewN hbwz nq⟩
                              have hbd : layerB nameB (l.take j) ⟨xn, xr, es⟩ = false := by
                                unfold layerB
                                rw [HEB.out]
                                · simp
                                · unfold entryB
                                  rw [take_any (f := fun q : Entry => q.path.toList == yp.toList) hjm hje (by rw [HZ.out]; exact hcmp)]
                                  simp
                              rw [HBAD.out hbd]; rfl
                          · obtain rfl : j2 = m := by omega
                            have hjm' : ¬ ((j2 : Int) < (j2 : Int)) := by omega
                            go_wp2_with fail
                            refine ⟨⟨j2 + 1, rfl, by omega, HEG.out ?_, good_below hBm hB1⟩, by simp [intOf]; omega⟩
                            unfold entryB
                            rw [HG.out, decide_eq_true h200, take_none (f := fun q : Entry => q.path.toList == yp.toList) (fun i hi hik => HNO2.out i hi hik)]
                            rfl
                      · have h200' : (200 : Int) < (yt.size : Int) := by omega
                        go_wp2_with (go_at_call 56; go_must (refine cp.mono ?_; rintro e w1 ⟨rfl, hb1⟩; have hbk1 := Blk.below hbk hb1; have e2' := hbk1.cell 2; simp at e2'; have q1' := (hb1.cell (p := ⟨eb, eo + m * 2 + 1, none⟩) (Nat.lt_of_lt_of_le hew hbwy.size)).trans q1))
                        go_ret
                        refine ⟨?_, good_below hbwy hb1⟩
                        have hbd : layerB nameB (l.take j) ⟨xn, xr, es⟩ = false := by
                          unfold layerB
                          rw [HEB.out (by unfold entryB; rw [decide_eq_false h200]; simp)]
                          simp
                        rw [HBAD.out hbd]; rfl
                  · obtain rfl : m = es.length := by omega
                    have hmn' : ¬ ((es.length : Int) < (es.length : Int)) := by omega
                    go_wp2_with fail
                    refine ⟨⟨j + 1, rfl, by omega, HGOOD.out ?_, hbwy⟩, by simp [intOf]; omega⟩
                    unfold layerB
                    rw [HF.out, decide_eq_true h100, HNA.out]
                    have : entriesB nameB es = true := by
                      unfold entriesB
                      exact range_all (f := entryB nameB) (fun i hi => HEN.out i hi hi)
                    rw [this]
                    rfl
          · have h100' : (100 : Int) < (es.length : Int) := by omega
            go_wp2_with (go_at_call 33; go_must (refine (cn _).mono ?_; rintro e w1 ⟨rfl, hb1⟩; have hbk := Blk.below HBA.out hb1; have e2 := hbk.cell 2; simp at e2))
            go_ret
            refine ⟨?_, good_below hbw1 hb1⟩
            rw [HBAD.out (by unfold layerB; rw [decide_eq_false h100]; simp)]; rfl
      · obtain rfl : k = l.length := by omega
        have hkn' : ¬ ((l.length : Int) < (l.length : Int)) := by omega
        go_wp2_with fail
        go_ret
        refine ⟨?_, hb⟩
        unfold layersB
        rw [decide_eq_true h20, range_all (f := layerB nameB) (fun i hi => HA.out i hi hi)]
        rfl
  · have h20' : (20 : Int) < (l.length : Int) := by omega
    go_enter Tryz.func31, Tryz.ntmps31
    go_wp2_with fail
    go_ret
    refine ⟨?_, Below.refl _ _⟩
    unfold layersB
    rw [decide_eq_false h20]
    rfl
end Go.Proofs.YtcbabajfdihcdaaGreatDoor
