/-
  What a text is by a demand: the contracts of impl's number and fit. Right rules: the contracts of impl's isRight and areRules. Right rules: the contract of impl's areRules. A map of demands. What impl's Watch answers: its walk. What impl's bookOf answers: its walk. What impl's Lookup answers: its walk. No statement of the seat is proved here.
-/
import Derived.Test.YtdlopjimheaekaaGreatDoorZj9
namespace Go.Proofs.YtdlopjimheaekaaGreatDoor
open Go.ChangeShapes Go.WideShapes Go.ChangeAt Go.RowKit
set_option linter.unusedVariables false
set_option linter.unusedSimpArgs false

set_option maxRecDepth 100000 in
theorem implBtw (r lo hi : Int) (w : World) : Calls Tryz.prog 50 #[.int .i64 r, .int .i64 lo, .int .i64 hi] w fun e w' => e = .returned (.bool (decide (lo ≤ r) && decide (r ≤ hi))) ∧ w' = w := by
  go_enter Tryz.func50, Tryz.ntmps50
  go_wp2_with fail
  all_goals
    go_ret
    refine ⟨congrArg (fun b => Ending.returned (Value.bool b)) ?_, rfl⟩
    simp
    try omega
theorem implOne (b : Bool) (w : World) : Calls Tryz.prog 121 #[.bool b] w fun e w' => e = .returned (.int .i64 (if b then 1 else 0)) ∧ w' = w := by
  cases b
  · go_enter Tryz.func121, Tryz.ntmps121
    go_wp2_with fail
    go_ret
    exact ⟨rfl, rfl⟩
  · go_enter Tryz.func121, Tryz.ntmps121
    go_wp2_with fail
    go_ret
    exact ⟨rfl, rfl⟩
set_option maxRecDepth 100000 in
set_option maxHeartbeats 1000000 in
theorem implIndexT {S : Nat → Prop} {l : List ByteArray} {v : Value} {w : World} (hS : ∀ b, S b → b < w.heap.size) (h : TxtsAt S w v l) (t : ByteArray) :
    Calls Tryz.prog 122 #[v, .string t] w fun e w' => e = .returned (.int .i64 (ruleN (chO l t))) ∧ w' = w := by
  obtain ⟨hlm, a, cap, rfl, hc⟩ := h
  have HC : Hid _ := hc
  have hlm' : (l.length : Int) ≤ 9223372036854775807 := by simp [maxLen] at hlm; omega
  clear hc hlm
  go_enter Tryz.func122, Tryz.ntmps122
  go_wp2_with fail
  go_loopw [8] (fun i8 wr => ∃ k : Nat, i8 = .int .i64 (k : Int) ∧ k ≤ l.length ∧ (∀ i (h : i < l.length), i < k → (l[i].toList == t.toList) = false) ∧ wr = w) (fun i8 _ => l.length - (intOf i8).toNat)
  case atStart => exact ⟨0, rfl, by omega, fun i _ h => by omega, rfl⟩
  case round =>
    obtain ⟨k, rfl, hk, hno, rfl⟩ := hrel
    have HN : Hid (∀ i (h : i < l.length), i < k → (l[i].toList == t.toList) = false) := hno
    clear hno
    by_cases hkn : k < l.length
    · have hkn' : (k : Int) < (l.length : Int) := by omega
      obtain ⟨b, off, rfl, hbS, hcell⟩ := HC.out (by omega)
      have d0 := hcell k hkn
      have hht := fun h1 => ch_hit (t := t) hkn HN.out h1
      have hnn : (l[k].toList == t.toList) = false → ∀ i (h : i < l.length), i < k + 1 → (l[i].toList == t.toList) = false := fun h0 i hi hik => by
        by_cases e : i = k
        · subst e; exact h0
        · exact HN.out i hi (by omega)
      obtain ⟨x, hx⟩ : ∃ x, l[k] = x := ⟨_, rfl⟩
      rw [hx] at d0 hht hnn
      have HHT : Hid ((x.toList == t.toList) = true → chO l t = some k) := hht
      have HNN : Hid ((x.toList == t.toList) = false → ∀ i (h : i < l.length), i < k + 1 → (l[i].toList == t.toList) = false) := hnn
      clear hx hht hnn hcell
      cases hq : (x.toList == t.toList)
      · have hq2 : (t.toList == x.toList) = false := by rw [Bool.beq_comm]; exact hq
        go_wp2_with fail
        exact ⟨⟨k + 1, by go_num, by omega, HNN.out hq, by trivial⟩, by simp [intOf]; omega⟩
      · have hq2 : (t.toList == x.toList) = true := by rw [Bool.beq_comm]; exact hq
        go_wp2_with fail
        go_ret
        exact ⟨by rw [HHT.out hq]; rfl, rfl⟩
    · obtain rfl : k = l.length := by omega
      have hkn' : ¬ ((l.length : Int) < (l.length : Int)) := by omega
      go_wp2_with fail
      go_ret
      exact ⟨by rw [ch_miss (fun i hi => HN.out i hi hi)]; rfl, rfl⟩
/-- What a demand's number answers. -/
def numN (r : Rule) (t : ByteArray) : Int := if r.kind = 4 then ruleN (chO r.choices t) else (formO r t).getD 0
def dVal (r : Rule) (cv : Value) : Value := .agg #[.string r.path, .string r.path, .int .i64 r.kind, .int .i64 r.min', .int .i64 r.max', cv, .bool r.must, .string r.default']
set_option maxRecDepth 100000 in
set_option maxHeartbeats 4000000 in
theorem implForm {S : Nat → Prop} (r : Rule) (cv : Value) (w : World) (hS : ∀ b, S b → b < w.heap.size) (hch : TxtsAt S w cv r.choices) (t : ByteArray) (ht : t.size ≤ 65536) :
    Calls Tryz.prog 100 #[dVal r cv, .string t] w fun e w' => e = .returned (.tuple #[.int .i64 (numN r t), .bool (formO r t).isSome]) ∧ Below w.heap.size w w' := by
  have hw1 : ∀ o, Below w.heap.size w (w.alloc o) := fun o => (Below.refl _ w).alloc (Nat.le_refl _) _
  have cN := fun w => implNumber t ht w
  have cS := fun w => implSpan t ht w
  have cO := fun b w => implOne b w
  have cI := fun o => implIndexT (w := w.alloc o) (fun b hb => Nat.lt_of_lt_of_le (hS b hb) (hw1 o).size) (hch.keep (cells_below hS (hw1 o))) t
  have hts : (t.size : Int) ≤ 65536 := by omega
  have hnn : numN r t = if r.kind = 4 then ruleN (chO r.choices t) else (formO r t).getD 0 := rfl
  have hfo : formO r t = if r.kind = 1 then (if numB t then some (numV t) else none) else if r.kind = 2 then (if yesB t then some 1 else if noB t then some 0 else none) else if r.kind = 3 then some (t.size : Int) else if r.kind = 4 then Option.map (fun (i : Nat) => (i : Int)) (chO r.choices t) else (if spanB t then some (spanV t) else none) := rfl
  have hbk : Blk (w.alloc (.cells #[.string r.path, .string r.path, .int .i64 r.kind, .int .i64 r.min', .int .i64 r.max', cv, .bool r.must, .string r.default'] 86)) w.heap.size 86 #[.string r.path, .string r.path, .int .i64 r.kind, .int .i64 r.min', .int .i64 r.max', cv, .bool r.must, .string r.default'] := heap_alloc_last w _
  unfold dVal
  obtain ⟨NN, hNN⟩ : ∃ NN, numN r t = NN := ⟨_, rfl⟩
  obtain ⟨FO, hFO⟩ : ∃ FO, formO r t = FO := ⟨_, rfl⟩
  rw [hNN, hFO] at hnn
  rw [hFO] at hfo
  rw [hNN, hFO]
  clear hNN hFO
  obtain ⟨rp, rk, rmi, rma, rc, rm, rd⟩ := r
  dsimp only at hnn hfo hch hbk cI ⊢
  have q2 := hbk.cell 2
  have q5 := hbk.cell 5
  simp at q2 q5
  clear hS hch hbk
  by_cases k1 : rk = 1
  · subst k1
    rw [if_pos rfl] at hfo
    rw [if_neg (by decide)] at hnn
    have hv : numB t = false → numV t = 0 := fun h => by unfold numV; rw [h]; rfl
    obtain ⟨V, hV⟩ : ∃ V, numV t = V := ⟨_, rfl⟩
    obtain ⟨B, hB⟩ : ∃ B, numB t = B := ⟨_, rfl⟩
    rw [hV, hB] at cN hfo hv
    clear hV hB cS cO cI q5
    cases B
    · have hv0 := hv rfl
      rw [if_neg (by simp)] at hfo
      subst hfo
      subst hnn
      subst hv0
      clear hv
      go_enter Tryz.func100, Tryz.ntmps100
      go_wp2_with (go_at_call 120; go_must (refine (cN _).mono ?_; rintro e w2 ⟨rfl, hb2⟩))
      go_ret2
      exact ⟨rfl, good_below (hw1 _) hb2⟩
    · rw [if_pos rfl] at hfo
      subst hfo
      subst hnn
      clear hv
      go_enter Tryz.func100, Tryz.ntmps100
      go_wp2_with (go_at_call 120; go_must (refine (cN _).mono ?_; rintro e w2 ⟨rfl, hb2⟩))
      go_ret2
      exact ⟨rfl, good_below (hw1 _) hb2⟩
  have b1 : ((rk : Int) == 1) = false := by rw [beq_eq_false_iff_ne]; exact k1
  rw [if_neg k1] at hfo
  by_cases k2 : rk = 2
  · subst k2
    rw [if_pos rfl] at hfo
    rw [if_neg (by decide)] at hnn
    unfold yesB noB at hfo
    clear cN cS cI q5
    cases y1 : (t.toList == [121, 101, 115])
    case true =>
      rw [y1, if_pos rfl] at hfo
      subst hfo
      subst hnn
      go_enter Tryz.func100, Tryz.ntmps100
      go_wp2_with (go_at_call 121; go_must (refine (cO _ _).mono ?_; rintro e w2 ⟨rfl, rfl⟩))
      go_ret2
      exact ⟨rfl, hw1 _⟩
    rw [y1, if_neg (by simp)] at hfo
    cases y2 : (t.toList == [110, 111])
    case true =>
      rw [y2, if_pos rfl] at hfo
      subst hfo
      subst hnn
      go_enter Tryz.func100, Tryz.ntmps100
      go_wp2_with (go_at_call 121; go_must (refine (cO _ _).mono ?_; rintro e w2 ⟨rfl, rfl⟩))
      go_ret2
      exact ⟨rfl, hw1 _⟩
    rw [y2, if_neg (by simp)] at hfo
    subst hfo
    subst hnn
    go_enter Tryz.func100, Tryz.ntmps100
    go_wp2_with (go_at_call 121; go_must (refine (cO _ _).mono ?_; rintro e w2 ⟨rfl, rfl⟩))
    go_ret2
    exact ⟨rfl, hw1 _⟩
  have b2 : ((rk : Int) == 2) = false := by rw [beq_eq_false_iff_ne]; exact k2
  rw [if_neg k2] at hfo
  by_cases k3 : rk = 3
  · subst k3
    rw [if_pos rfl] at hfo
    rw [if_neg (by decide)] at hnn
    subst hfo
    subst hnn
    clear cN cS cI q5 cO
    go_enter Tryz.func100, Tryz.ntmps100
    go_wp2_with fail
    go_ret2
    exact ⟨rfl, hw1 _⟩
  have b3 : ((rk : Int) == 3) = false := by rw [beq_eq_false_iff_ne]; exact k3
  rw [if_neg k3] at hfo
  by_cases k4 : rk = 4
  · subst k4
    rw [if_pos rfl] at hfo
    rw [if_pos rfl] at hnn
    obtain ⟨CO, hCO⟩ : ∃ CO, chO rc t = CO := ⟨_, rfl⟩
    rw [hCO] at hfo hnn cI
    clear cN cS cO hCO
    cases CO with
    | none =>
      subst hfo
      subst hnn
      unfold ruleN at cI
      go_enter Tryz.func100, Tryz.ntmps100
      go_wp2_with (go_at_call 122; go_must (refine (cI _).mono ?_; rintro e w2 ⟨rfl, rfl⟩))
      go_ret2
      exact ⟨rfl, hw1 _⟩
    | some i =>
      subst hfo
      subst hnn
      unfold ruleN at cI
      go_enter Tryz.func100, Tryz.ntmps100
      go_wp2_with (go_at_call 122; go_must (refine (cI _).mono ?_; rintro e w2 ⟨rfl, rfl⟩))
      go_ret2
      exact ⟨by simp [ruleN], hw1 _⟩
  have b4 : ((rk : Int) == 4) = false := by rw [beq_eq_false_iff_ne]; exact k4
  rw [if_neg k4] at hfo hnn
  have hv : spanB t = false → spanV t = 0 := fun h => by
    unfold spanB at h
    unfold spanV
    cases hs : spanO t with
    | none => rfl
    | some x => rw [hs] at h; cases h
  obtain ⟨V, hV⟩ : ∃ V, spanV t = V := ⟨_, rfl⟩
  obtain ⟨B, hB⟩ : ∃ B, spanB t = B := ⟨_, rfl⟩
  rw [hV, hB] at cS hfo hv
  clear hV hB cN cO cI q5
  cases B
  · have hv0 := hv rfl
    rw [if_neg (by simp)] at hfo
    subst hfo
    subst hnn
    subst hv0
    clear hv
    go_enter Tryz.func100, Tryz.ntmps100
    go_wp2_with (go_at_call 123; go_must (refine (cS _).mono ?_; rintro e w2 ⟨rfl, hb2⟩))
    go_ret2
    exact ⟨rfl, good_below (hw1 _) hb2⟩
  · rw [if_pos rfl] at hfo
    subst hfo
    subst hnn
    clear hv
    go_enter Tryz.func100, Tryz.ntmps100
    go_wp2_with (go_at_call 123; go_must (refine (cS _).mono ?_; rintro e w2 ⟨rfl, hb2⟩))
    go_ret2
    exact ⟨rfl, good_below (hw1 _) hb2⟩
set_option maxRecDepth 100000 in
set_option maxHeartbeats 4000000 in
theorem implFit {S : Nat → Prop} (r : Rule) (cv : Value) (w : World) (hS : ∀ b, S b → b < w.heap.size) (hch : TxtsAt S w cv r.choices) (t : ByteArray) (ht : t.size ≤ 65536) :
    Calls Tryz.prog 78 #[dVal r cv, .string t] w fun e w' => e = .returned (.tuple #[.int .i64 (fitP r t).1, .int .i64 (fitP r t).2]) ∧ Below w.heap.size w w' := by
  have hw1 : ∀ o, Below w.heap.size w (w.alloc o) := fun o => (Below.refl _ w).alloc (Nat.le_refl _) _
  have cF := fun o => implForm r cv (w.alloc o) (fun b hb => Nat.lt_of_lt_of_le (hS b hb) (hw1 o).size) (hch.keep (cells_below hS (hw1 o))) t ht
  have hbk : Blk (w.alloc (.cells #[.string r.path, .string r.path, .int .i64 r.kind, .int .i64 r.min', .int .i64 r.max', cv, .bool r.must, .string r.default'] 86)) w.heap.size 86 #[.string r.path, .string r.path, .int .i64 r.kind, .int .i64 r.min', .int .i64 r.max', cv, .bool r.must, .string r.default'] := heap_alloc_last w _
  have hfp : fitP r t = fitO (boundB r) r.min' r.max' (formO r t) := rfl
  have hnn : numN r t = if r.kind = 4 then ruleN (chO r.choices t) else (formO r t).getD 0 := rfl
  have hf4 : r.kind = 4 → formO r t = Option.map (fun (i : Nat) => (i : Int)) (chO r.choices t) := fun h => by
    unfold formO
    rw [h]
    rfl
  have hns : ∀ v, formO r t = some v → numN r t = v := fun v hv => by
    rw [hnn]
    by_cases h4 : r.kind = 4
    · rw [if_pos h4]
      rw [hf4 h4] at hv
      cases hc : chO r.choices t with
      | none => rw [hc] at hv; cases hv
      | some i => rw [hc] at hv; cases hv; rfl
    · rw [if_neg h4, hv]; rfl
  have hbb : boundB r = (!(r.kind == 2) && !(r.kind == 4)) := rfl
  unfold dVal at cF ⊢
  obtain ⟨NN, hNN⟩ : ∃ NN, numN r t = NN := ⟨_, rfl⟩
  obtain ⟨FO, hFO⟩ : ∃ FO, formO r t = FO := ⟨_, rfl⟩
  obtain ⟨PV, hPV⟩ : ∃ PV, fitP r t = PV := ⟨_, rfl⟩
  obtain ⟨BB, hBB⟩ : ∃ BB, boundB r = BB := ⟨_, rfl⟩
  rw [hNN, hFO] at cF
  rw [hPV, hFO, hBB] at hfp
  rw [hNN, hFO] at hns
  rw [hBB] at hbb
  rw [hPV]
  clear hNN hFO hPV hBB hnn hf4
  obtain ⟨rp, rk, rmi, rma, rc, rm, rd⟩ := r
  dsimp only at hfp hns hbb hch hbk cF ⊢
  have HBB : Hid (BB = (!(rk == 2) && !(rk == 4))) := hbb
  have HFP : Hid (PV = fitO BB rmi rma FO) := hfp
  have HNS : Hid (∀ v, FO = some v → NN = v) := hns
  have q0 := hbk.cell 0
  have q1 := hbk.cell 1
  have q2 := hbk.cell 2
  have q3 := hbk.cell 3
  have q4 := hbk.cell 4
  have q5 := hbk.cell 5
  have q6 := hbk.cell 6
  have q7 := hbk.cell 7
  simp at q0 q1 q2 q3 q4 q5 q6 q7
  have hkp : ∀ w2, Below (w.alloc (.cells #[.string rp, .string rp, .int .i64 rk, .int .i64 rmi, .int .i64 rma, cv, .bool rm, .string rd] 86)).heap.size (w.alloc (.cells #[.string rp, .string rp, .int .i64 rk, .int .i64 rmi, .int .i64 rma, cv, .bool rm, .string rd] 86)) w2 → w2.cell? ⟨w.heap.size, 2, none⟩ = some (.int .i64 rk) ∧ w2.cell? ⟨w.heap.size, 3, none⟩ = some (.int .i64 rmi) ∧ w2.cell? ⟨w.heap.size, 4, none⟩ = some (.int .i64 rma) := fun w2 hb2 => by
    have h := Blk.below hbk hb2
    exact ⟨h.cell 2, h.cell 3, h.cell 4⟩
  have HKP : Hid (∀ w2, Below (w.alloc (.cells #[.string rp, .string rp, .int .i64 rk, .int .i64 rmi, .int .i64 rma, cv, .bool rm, .string rd] 86)).heap.size (w.alloc (.cells #[.string rp, .string rp, .int .i64 rk, .int .i64 rmi, .int .i64 rma, cv, .bool rm, .string rd] 86)) w2 → w2.cell? ⟨w.heap.size, 2, none⟩ = some (.int .i64 rk) ∧ w2.cell? ⟨w.heap.size, 3, none⟩ = some (.int .i64 rmi) ∧ w2.cell? ⟨w.heap.size, 4, none⟩ = some (.int .i64 rma)) := hkp
  have cB := fun w => implBtw NN rmi rma w
  obtain ⟨BT, hBT⟩ : ∃ BT, (decide (rmi ≤ NN) && decide (NN ≤ rma)) = BT := ⟨_, rfl⟩
  rw [hBT] at cB
  have HBT : Hid ((decide (rmi ≤ NN) && decide (NN ≤ rma)) = BT) := hBT
  clear hS hch hbk hkp hfp hns hbb hBT
  have hk2 : rk = 2 ∨ ((rk == 2) = false ∧ (rk != 2) = true) := by
    by_cases h : rk = 2
    · exact .inl h
    · exact .inr ⟨by rw [beq_eq_false_iff_ne]; exact h, by simpa using h⟩
  have hk4 : rk = 4 ∨ ((rk == 4) = false ∧ (rk != 4) = true) := by
    by_cases h : rk = 4
    · exact .inl h
    · exact .inr ⟨by rw [beq_eq_false_iff_ne]; exact h, by simpa using h⟩
  cases FO with
  | none =>
    have hp := HFP.out
    rw [fitO_none] at hp
    subst hp
    rcases hk2 with rfl | ⟨k2, n2⟩
    · go_enter Tryz.func78, Tryz.ntmps78
      go_wp2_with (first | (go_at_call 100; go_must (refine (cF _).mono ?_; rintro e w2 ⟨rfl, hb2⟩; have p2 := (HKP.out _ hb2).1; have p3 := (HKP.out _ hb2).2.1; have p4 := (HKP.out _ hb2).2.2)) | (go_at_call 50; go_must (refine (cB _).mono ?_; rintro e w3 ⟨rfl, rfl⟩)))
      go_ret2
      exact ⟨rfl, good_below (hw1 _) hb2⟩
    · rcases hk4 with rfl | ⟨k4, n4⟩
      · go_enter Tryz.func78, Tryz.ntmps78
        go_wp2_with (first | (go_at_call 100; go_must (refine (cF _).mono ?_; rintro e w2 ⟨rfl, hb2⟩; have p2 := (HKP.out _ hb2).1; have p3 := (HKP.out _ hb2).2.1; have p4 := (HKP.out _ hb2).2.2)) | (go_at_call 50; go_must (refine (cB _).mono ?_; rintro e w3 ⟨rfl, rfl⟩)))
        go_ret2
        exact ⟨rfl, good_below (hw1 _) hb2⟩
      · go_enter Tryz.func78, Tryz.ntmps78
        go_wp2_with (first | (go_at_call 100; go_must (refine (cF _).mono ?_; rintro e w2 ⟨rfl, hb2⟩; have p2 := (HKP.out _ hb2).1; have p3 := (HKP.out _ hb2).2.1; have p4 := (HKP.out _ hb2).2.2)) | (go_at_call 50; go_must (refine (cB _).mono ?_; rintro e w3 ⟨rfl, rfl⟩)))
        go_ret2
        exact ⟨rfl, good_below (hw1 _) hb2⟩
  | some v =>
    have hv := HNS.out v rfl
    subst hv
    have hp := HFP.out
    rw [fitO_some] at hp
    rcases hk2 with rfl | ⟨k2, n2⟩
    · have hb : BB = false := by rw [HBB.out]; rfl
      rw [hb, Bool.false_and, if_neg (by simp)] at hp
      subst hp
      go_enter Tryz.func78, Tryz.ntmps78
      go_wp2_with (first | (go_at_call 100; go_must (refine (cF _).mono ?_; rintro e w2 ⟨rfl, hb2⟩; have p2 := (HKP.out _ hb2).1; have p3 := (HKP.out _ hb2).2.1; have p4 := (HKP.out _ hb2).2.2)) | (go_at_call 50; go_must (refine (cB _).mono ?_; rintro e w3 ⟨rfl, rfl⟩)))
      go_ret2
      exact ⟨rfl, good_below (hw1 _) hb2⟩
    rcases hk4 with rfl | ⟨k4, n4⟩
    · have hb : BB = false := by rw [HBB.out]; simp
      rw [hb, Bool.false_and, if_neg (by simp)] at hp
      subst hp
      go_enter Tryz.func78, Tryz.ntmps78
      go_wp2_with (first | (go_at_call 100; go_must (refine (cF _).mono ?_; rintro e w2 ⟨rfl, hb2⟩; have p2 := (HKP.out _ hb2).1; have p3 := (HKP.out _ hb2).2.1; have p4 := (HKP.out _ hb2).2.2)) | (go_at_call 50; go_must (refine (cB _).mono ?_; rintro e w3 ⟨rfl, rfl⟩)))
      go_ret2
      exact ⟨rfl, good_below (hw1 _) hb2⟩
    have hb : BB = true := by rw [HBB.out, k2, k4]; rfl
    rw [hb, Bool.true_and] at hp
    have hbt : (decide (NN < rmi) || decide (rma < NN)) = !BT := by
      rw [← HBT.out, Bool.eq_iff_iff]
      simp only [Bool.or_eq_true, decide_eq_true_eq, Bool.not_eq_true', Bool.and_eq_false_iff, decide_eq_false_iff_not]
      omega
    rw [hbt] at hp
    clear hb hbt
    cases BT
    · rw [if_pos (by rfl)] at hp
      subst hp
      go_enter Tryz.func78, Tryz.ntmps78
      go_wp2_with (first | (go_at_call 100; go_must (refine (cF _).mono ?_; rintro e w2 ⟨rfl, hb2⟩; have p2 := (HKP.out _ hb2).1; have p3 := (HKP.out _ hb2).2.1; have p4 := (HKP.out _ hb2).2.2)) | (go_at_call 50; go_must (refine (cB _).mono ?_; rintro e w3 ⟨rfl, rfl⟩)))
      go_ret2
      exact ⟨rfl, good_below (hw1 _) hb2⟩
    · rw [if_neg (by simp)] at hp
      subst hp
      go_enter Tryz.func78, Tryz.ntmps78
      go_wp2_with (first | (go_at_call 100; go_must (refine (cF _).mono ?_; rintro e w2 ⟨rfl, hb2⟩; have p2 := (HKP.out _ hb2).1; have p3 := (HKP.out _ hb2).2.1; have p4 := (HKP.out _ hb2).2.2)) | (go_at_call 50; go_must (refine (cB _).mono ?_; rintro e w3 ⟨rfl, rfl⟩)))
      go_ret2
      exact ⟨rfl, good_below (hw1 _) hb2⟩
end Go.Proofs.YtdlopjimheaekaaGreatDoor

namespace Go.Proofs.YtdlopjimheaekaaGreatDoor
open Go.ChangeShapes Go.WideShapes Go.ChangeAt Go.RowKit
set_option linter.unusedVariables false
set_option linter.unusedSimpArgs false

def longB (s : ByteArray) : Bool := !decide (s.size ≤ 200)
def meetB (p q : ByteArray) : Bool := withinB p q || withinB q p
set_option maxRecDepth 100000 in
set_option maxHeartbeats 1000000 in
theorem implIndexL (ss : List ByteArray) (a : Option Addr) (cap : Nat) (w : World) (hlen : ss.length ≤ 1000000) (hz : ∀ s ∈ ss, s.size ≤ 1048576) (hc : 0 < ss.length → ∃ g o, a = some ⟨g, o, none⟩ ∧ g < w.heap.size ∧ ∀ j (hj : j < ss.length), w.cell? ⟨g, o + j, none⟩ = some (.string ss[j])) :
    Calls Tryz.prog 79 #[.slice a ss.length cap, .func (.func 77) #[] #[]] w fun e w' => (∃ r : Int, e = .returned (.int .i64 r) ∧ decide (0 ≤ r) = ss.any longB) ∧ Below w.heap.size w w' := by
  have HC : Hid (0 < ss.length → ∃ g o, a = some ⟨g, o, none⟩ ∧ g < w.heap.size ∧ ∀ j (hj : j < ss.length), w.cell? ⟨g, o + j, none⟩ = some (.string ss[j])) := hc
  have HZ : Hid (∀ s ∈ ss, s.size ≤ 1048576) := hz
  have hlen' : (ss.length : Int) ≤ 1000000 := by omega
  clear hc hz
  go_enter Tryz.func79, Tryz.ntmps79
  go_wp2_with fail
  go_loopw [8] (fun i8 wr => ∃ (k : Nat), i8 = .int .i64 (k : Int) ∧ k ≤ ss.length ∧ (ss.take k).any longB = false ∧ Below w.heap.size w wr) (fun i8 _ => ss.length - (intOf i8).toNat)
  case atStart => exact ⟨0, rfl, by omega, by simp, Below.refl _ _⟩
  case round =>
    obtain ⟨k, rfl, hk, hany, hb⟩ := hrel
    have HA : Hid ((ss.take k).any longB = false) := hany
    clear hany
    by_cases hkn : k < ss.length
    · have hkn' : (k : Int) < (ss.length : Int) := by omega
      obtain ⟨g, o, rfl, hg, hcell⟩ := HC.out (by omega)
      have x1 := hcell k hkn
      have z1 := HZ.out ss[k] (List.getElem_mem hkn)
      obtain ⟨x, hx⟩ : ∃ x, ss[k] = x := ⟨_, rfl⟩
      have HX : Hid (ss[k] = x) := hx
      rw [hx] at x1 z1
      clear hx hcell
      have d1 := (hb.cell (p := ⟨g, o + k, none⟩) hg).trans x1
      have cn := implLong x z1 wr
      obtain ⟨B1, hB1⟩ : ∃ B1, longB x = B1 := ⟨_, rfl⟩
      change Calls _ _ _ _ (fun e w' => e = .returned (.bool (longB x)) ∧ _) at cn
      rw [hB1] at cn
      have HB1 : Hid (longB x = B1) := hB1
      clear hB1
      cases B1
      · go_wp2_with (go_at_call 77; go_must (refine cn.mono ?_; rintro e w1 ⟨rfl, rfl⟩; have hb1 : Below w1.heap.size w1 w1 := Below.refl _ _))
        exact ⟨⟨k + 1, rfl, by omega, any_takeW ss _ k hkn HA.out (by rw [HX.out]; exact HB1.out), good_below hb hb1⟩, by simp [intOf]; omega⟩
      · go_wp2_with (go_at_call 77; go_must (refine cn.mono ?_; rintro e w1 ⟨rfl, rfl⟩; have hb1 : Below w1.heap.size w1 w1 := Below.refl _ _))
        go_ret
        refine ⟨⟨_, rfl, ?_⟩, good_below hb hb1⟩
        rw [List.any_eq_true.2 ⟨ss[k], List.getElem_mem hkn, by rw [HX.out]; exact HB1.out⟩]
        simp
    · have hkn' : ¬ ((k : Int) < (ss.length : Int)) := by omega
      have hA := HA.out
      rw [List.take_of_length_le (by omega)] at hA
      go_wp2_with fail
      go_ret
      refine ⟨⟨_, rfl, ?_⟩, hb⟩
      first
        | (rw [hA]; rfl)
        | omega
set_option maxRecDepth 100000 in
theorem implContainsL (ss : List ByteArray) (a : Option Addr) (cap : Nat) (w : World) (hlen : ss.length ≤ 1000000) (hz : ∀ s ∈ ss, s.size ≤ 1048576) (hc : 0 < ss.length → ∃ g o, a = some ⟨g, o, none⟩ ∧ g < w.heap.size ∧ ∀ j (hj : j < ss.length), w.cell? ⟨g, o + j, none⟩ = some (.string ss[j])) :
    Calls Tryz.prog 44 #[.slice a ss.length cap, .func (.func 77) #[] #[]] w fun e w' => e = .returned (.bool (ss.any longB)) ∧ Below w.heap.size w w' := by
  have c := implIndexL ss a cap w hlen hz hc
  clear hc hz
  go_enter Tryz.func44, Tryz.ntmps44
  go_wp2_with (go_at_call 79; go_must (refine c.mono ?_; rintro e w1 ⟨⟨r, rfl, hr⟩, hb1⟩))
  go_ret
  refine ⟨congrArg (fun b => Ending.returned (Value.bool b)) ?_, hb1⟩
  rfl
set_option maxRecDepth 100000 in
set_option maxHeartbeats 1000000 in
theorem implIndexM (p : ByteArray) (hp : p.size ≤ 1048576) (ss : List ByteArray) (a : Option Addr) (cap : Nat) (w : World) (hlen : ss.length ≤ 1000000) (hz : ∀ s ∈ ss, s.size ≤ 1048576) (hc : 0 < ss.length → ∃ g o, a = some ⟨g, o, none⟩ ∧ g < w.heap.size ∧ ∀ j (hj : j < ss.length), w.cell? ⟨g, o + j, none⟩ = some (.string ss[j])) :
    Calls Tryz.prog 79 #[.slice a ss.length cap, .func (.func 45) #[.agg #[.string p]] #[]] w fun e w' => (∃ r : Int, e = .returned (.int .i64 r) ∧ decide (0 ≤ r) = ss.any (meetB p)) ∧ Below w.heap.size w w' := by
  have HC : Hid (0 < ss.length → ∃ g o, a = some ⟨g, o, none⟩ ∧ g < w.heap.size ∧ ∀ j (hj : j < ss.length), w.cell? ⟨g, o + j, none⟩ = some (.string ss[j])) := hc
  have HZ : Hid (∀ s ∈ ss, s.size ≤ 1048576) := hz
  have hlen' : (ss.length : Int) ≤ 1000000 := by omega
  clear hc hz
  go_enter Tryz.func79, Tryz.ntmps79
  go_wp2_with fail
  go_loopw [8] (fun i8 wr => ∃ (k : Nat), i8 = .int .i64 (k : Int) ∧ k ≤ ss.length ∧ (ss.take k).any (meetB p) = false ∧ Below w.heap.size w wr) (fun i8 _ => ss.length - (intOf i8).toNat)
  case atStart => exact ⟨0, rfl, by omega, by simp, Below.refl _ _⟩
  case round =>
    obtain ⟨k, rfl, hk, hany, hb⟩ := hrel
    have HA : Hid ((ss.take k).any (meetB p) = false) := hany
    clear hany
    by_cases hkn : k < ss.length
    · have hkn' : (k : Int) < (ss.length : Int) := by omega
      obtain ⟨g, o, rfl, hg, hcell⟩ := HC.out (by omega)
      have x1 := hcell k hkn
      have z1 := HZ.out ss[k] (List.getElem_mem hkn)
      obtain ⟨x, hx⟩ : ∃ x, ss[k] = x := ⟨_, rfl⟩
      have HX : Hid (ss[k] = x) := hx
      rw [hx] at x1 z1
      clear hx hcell
      have d1 := (hb.cell (p := ⟨g, o + k, none⟩) hg).trans x1
      have cn := implMeets p x hp z1 wr
      obtain ⟨B1, hB1⟩ : ∃ B1, meetB p x = B1 := ⟨_, rfl⟩
      change Calls _ _ _ _ (fun e w' => e = .returned (.bool (meetB p x)) ∧ _) at cn
      rw [hB1] at cn
      have HB1 : Hid (meetB p x = B1) := hB1
      clear hB1
      cases B1
      · go_wp2_with (go_at_call 45; go_must (refine cn.mono ?_; rintro e w1 ⟨rfl, hb1⟩))
        exact ⟨⟨k + 1, rfl, by omega, any_takeW ss _ k hkn HA.out (by rw [HX.out]; exact HB1.out), good_below hb hb1⟩, by simp [intOf]; omega⟩
      · go_wp2_with (go_at_call 45; go_must (refine cn.mono ?_; rintro e w1 ⟨rfl, hb1⟩))
        go_ret
        refine ⟨⟨_, rfl, ?_⟩, good_below hb hb1⟩
        rw [List.any_eq_true.2 ⟨ss[k], List.getElem_mem hkn, by rw [HX.out]; exact HB1.out⟩]
        simp
    · have hkn' : ¬ ((k : Int) < (ss.length : Int)) := by omega
      have hA := HA.out
      rw [List.take_of_length_le (by omega)] at hA
      go_wp2_with fail
      go_ret
      refine ⟨⟨_, rfl, ?_⟩, hb⟩
      first
        | (rw [hA]; rfl)
        | omega
set_option maxRecDepth 100000 in
theorem implContainsM (p : ByteArray) (hp : p.size ≤ 1048576) (ss : List ByteArray) (a : Option Addr) (cap : Nat) (w : World) (hlen : ss.length ≤ 1000000) (hz : ∀ s ∈ ss, s.size ≤ 1048576) (hc : 0 < ss.length → ∃ g o, a = some ⟨g, o, none⟩ ∧ g < w.heap.size ∧ ∀ j (hj : j < ss.length), w.cell? ⟨g, o + j, none⟩ = some (.string ss[j])) :
    Calls Tryz.prog 44 #[.slice a ss.length cap, .func (.func 45) #[.agg #[.string p]] #[]] w fun e w' => e = .returned (.bool (ss.any (meetB p))) ∧ Below w.heap.size w w' := by
  have c := implIndexM p hp ss a cap w hlen hz hc
  clear hc hz
  go_enter Tryz.func44, Tryz.ntmps44
  go_wp2_with (go_at_call 79; go_must (refine c.mono ?_; rintro e w1 ⟨⟨r, rfl, hr⟩, hb1⟩))
  go_ret
  refine ⟨congrArg (fun b => Ending.returned (Value.bool b)) ?_, hb1⟩
  rfl
def rightB (r : Rule) : Bool := ruleB0 r && !(r.choices.any longB) && defB r
set_option maxRecDepth 100000 in
set_option maxHeartbeats 4000000 in
theorem implRight {S : Nat → Prop} (r : Rule) (cv : Value) (w : World) (hS : ∀ b, S b → b < w.heap.size) (hch : TxtsAt S w cv r.choices) (hok : RulesOK 1048576 r) (hT : ∀ W, Below w.heap.size w W → Lib.Utf8Tabs 0 1 W) :
    Calls Tryz.prog 43 #[dVal r cv] w fun e w' => e = .returned (.bool (rightB r)) ∧ Below w.heap.size w w' := by
  have hw1 : ∀ o, Below w.heap.size w (w.alloc o) := fun o => (Below.refl _ w).alloc (Nat.le_refl _) _
  unfold RulesOK at hok
  have cp := fun o => implIsPath r.path (by omega) (w.alloc o) (hT _ (hw1 o))
  have cB := fun w => implBtw r.kind 1 5 w
  have cL := fun w => implLong r.default' (by omega) w
  have cC := fun W (hW : Below w.heap.size w W) => implFit r cv W (fun b hb => Nat.lt_of_lt_of_le (hS b hb) hW.size) (hch.keep (cells_below hS hW)) r.default'
  obtain ⟨a, cap, hcv⟩ := hch.shape
  have hcc := fun W (hW : Below w.heap.size w W) => (hcv ▸ hch : TxtsAt S w (.slice a r.choices.length cap) r.choices)
  have cA := fun (hl20 : r.choices.length ≤ 20) W (hW : Below w.heap.size w W) => implContainsL r.choices a cap W (by omega) (fun s hs => by have := hok.2.2.2 s hs; unfold TxtsOK at this; omega) (fun h0 => by
    have h := hcc W hW
    obtain ⟨_, ta, tc, htv, hcell⟩ := h
    simp only [Value.slice.injEq] at htv
    obtain ⟨rfl, -, rfl⟩ := htv
    obtain ⟨b, off, rfl, hbS, hcell⟩ := hcell h0
    exact ⟨b, off, rfl, Nat.lt_of_lt_of_le (hS b hbS) hW.size, fun j hj => (hW.cell (p := ⟨b, off + j, none⟩) (hS b hbS)).trans (hcell j hj)⟩)
  have hrb : rightB r = (ruleB0 r && !(r.choices.any longB) && defB r) := rfl
  have hr0 : ruleB0 r = (pathB nameOK r.path && decide (1 ≤ r.kind) && decide (r.kind ≤ 5) && decide (r.choices.length ≤ 20) && decide (r.default'.size ≤ 200)) := rfl
  have hdb : defB r = ((r.default'.toList == []) || ((fitP r r.default').2 == 0)) := rfl
  subst hcv
  unfold dVal at cC ⊢
  obtain ⟨AL, hAL⟩ : ∃ AL, r.choices.any longB = AL := ⟨_, rfl⟩
  obtain ⟨FV, hFV⟩ : ∃ FV, fitP r r.default' = FV := ⟨_, rfl⟩
  obtain ⟨F, hF⟩ : ∃ F, pathB nameOK r.path = F := ⟨_, rfl⟩
  obtain ⟨RB, hRB⟩ : ∃ RB, rightB r = RB := ⟨_, rfl⟩
  obtain ⟨BT, hBT⟩ : ∃ BT, (decide (1 ≤ r.kind) && decide (r.kind ≤ 5)) = BT := ⟨_, rfl⟩
  rw [hFV] at cC hdb
  rw [hF] at cp hr0
  rw [hBT] at cB
  rw [Bool.and_assoc F, hBT] at hr0
  rw [hRB, hAL, hr0, hdb] at hrb
  rw [hAL] at cA
  rw [hRB]
  clear hFV hF hRB hBT hAL hr0 hdb
  obtain ⟨f1, f2⟩ := FV
  obtain ⟨rp, rk, rmi, rma, rc, rm, rd⟩ := r
  dsimp only at cp cB cL cC cA hrb hok hcc ⊢
  have HRB : Hid (RB = (F && BT && decide (rc.length ≤ 20) && decide (rd.size ≤ 200) && !AL && (rd.toList == [] || f2 == 0))) := hrb
  have hbk : Blk (w.alloc (.cells #[.string rp, .string rp, .int .i64 rk, .int .i64 rmi, .int .i64 rma, .slice a rc.length cap, .bool rm, .string rd] 86)) w.heap.size 86 #[.string rp, .string rp, .int .i64 rk, .int .i64 rmi, .int .i64 rma, .slice a rc.length cap, .bool rm, .string rd] := heap_alloc_last w _
  have HBK : Hid (Blk (w.alloc (.cells #[.string rp, .string rp, .int .i64 rk, .int .i64 rmi, .int .i64 rma, .slice a rc.length cap, .bool rm, .string rd] 86)) w.heap.size 86 #[.string rp, .string rp, .int .i64 rk, .int .i64 rmi, .int .i64 rma, .slice a rc.length cap, .bool rm, .string rd]) := hbk
  have hkp : ∀ w2, Below (w.alloc (.cells #[.string rp, .string rp, .int .i64 rk, .int .i64 rmi, .int .i64 rma, .slice a rc.length cap, .bool rm, .string rd] 86)).heap.size (w.alloc (.cells #[.string rp, .string rp, .int .i64 rk, .int .i64 rmi, .int .i64 rma, .slice a rc.length cap, .bool rm, .string rd] 86)) w2 → w2.cell? ⟨w.heap.size, 0, none⟩ = some (.string rp) ∧ w2.cell? ⟨w.heap.size, 1, none⟩ = some (.string rp) ∧ w2.cell? ⟨w.heap.size, 2, none⟩ = some (.int .i64 rk) ∧ w2.cell? ⟨w.heap.size, 3, none⟩ = some (.int .i64 rmi) ∧ w2.cell? ⟨w.heap.size, 4, none⟩ = some (.int .i64 rma) ∧ w2.cell? ⟨w.heap.size, 5, none⟩ = some (.slice a rc.length cap) ∧ w2.cell? ⟨w.heap.size, 6, none⟩ = some (.bool rm) ∧ w2.cell? ⟨w.heap.size, 7, none⟩ = some (.string rd) := fun w2 hb2 => by
    have h := Blk.below HBK.out hb2
    exact ⟨h.cell 0, h.cell 1, h.cell 2, h.cell 3, h.cell 4, h.cell 5, h.cell 6, h.cell 7⟩
  have HKP : Hid (∀ w2, Below (w.alloc (.cells #[.string rp, .string rp, .int .i64 rk, .int .i64 rmi, .int .i64 rma, .slice a rc.length cap, .bool rm, .string rd] 86)).heap.size (w.alloc (.cells #[.string rp, .string rp, .int .i64 rk, .int .i64 rmi, .int .i64 rma, .slice a rc.length cap, .bool rm, .string rd] 86)) w2 → w2.cell? ⟨w.heap.size, 0, none⟩ = some (.string rp) ∧ w2.cell? ⟨w.heap.size, 1, none⟩ = some (.string rp) ∧ w2.cell? ⟨w.heap.size, 2, none⟩ = some (.int .i64 rk) ∧ w2.cell? ⟨w.heap.size, 3, none⟩ = some (.int .i64 rmi) ∧ w2.cell? ⟨w.heap.size, 4, none⟩ = some (.int .i64 rma) ∧ w2.cell? ⟨w.heap.size, 5, none⟩ = some (.slice a rc.length cap) ∧ w2.cell? ⟨w.heap.size, 6, none⟩ = some (.bool rm) ∧ w2.cell? ⟨w.heap.size, 7, none⟩ = some (.string rd)) := hkp
  have hlc : (rc.length : Int) ≤ 1048576 := by omega
  clear hrb hbk hkp hS hch hcc hT
  cases F
  case false =>
    have hr := HRB.out
    simp only [Bool.false_and] at hr
    subst hr
    go_enter Tryz.func43, Tryz.ntmps43
    go_wp2_with (go_at_call 76; go_must (refine (cp _).mono ?_; rintro e w2 ⟨rfl, hb2⟩; have hb2' := good_below (hw1 _) hb2; have g0 := (HKP.out _ hb2).1; have g1 := (HKP.out _ hb2).2.1; have g2 := (HKP.out _ hb2).2.2.1; have g3 := (HKP.out _ hb2).2.2.2.1; have g4 := (HKP.out _ hb2).2.2.2.2.1; have g5 := (HKP.out _ hb2).2.2.2.2.2.1; have g6 := (HKP.out _ hb2).2.2.2.2.2.2.1; have g7 := (HKP.out _ hb2).2.2.2.2.2.2.2))
    go_ret
    exact ⟨rfl, good_below (hw1 _) hb2⟩
  cases BT
  case false =>
    have hr := HRB.out
    simp only [Bool.false_and, Bool.and_false] at hr
    subst hr
    go_enter Tryz.func43, Tryz.ntmps43
    go_wp2_with (first | (go_at_call 76; go_must (refine (cp _).mono ?_; rintro e w2 ⟨rfl, hb2⟩; have hb2' := good_below (hw1 _) hb2; have g0 := (HKP.out _ hb2).1; have g1 := (HKP.out _ hb2).2.1; have g2 := (HKP.out _ hb2).2.2.1; have g3 := (HKP.out _ hb2).2.2.2.1; have g4 := (HKP.out _ hb2).2.2.2.2.1; have g5 := (HKP.out _ hb2).2.2.2.2.2.1; have g6 := (HKP.out _ hb2).2.2.2.2.2.2.1; have g7 := (HKP.out _ hb2).2.2.2.2.2.2.2)) | (go_at_call 50; go_must (refine (cB _).mono ?_; rintro e w3 ⟨rfl, rfl⟩)))
    go_ret
    exact ⟨rfl, good_below (hw1 _) hb2⟩
  by_cases h20 : rc.length ≤ 20
  case neg =>
    have h20' : (20 : Int) < (rc.length : Int) := by omega
    have hr := HRB.out
    rw [decide_eq_false h20] at hr
    simp only [Bool.false_and, Bool.and_false] at hr
    subst hr
    go_enter Tryz.func43, Tryz.ntmps43
    go_wp2_with (first | (go_at_call 76; go_must (refine (cp _).mono ?_; rintro e w2 ⟨rfl, hb2⟩; have hb2' := good_below (hw1 _) hb2; have g0 := (HKP.out _ hb2).1; have g1 := (HKP.out _ hb2).2.1; have g2 := (HKP.out _ hb2).2.2.1; have g3 := (HKP.out _ hb2).2.2.2.1; have g4 := (HKP.out _ hb2).2.2.2.2.1; have g5 := (HKP.out _ hb2).2.2.2.2.2.1; have g6 := (HKP.out _ hb2).2.2.2.2.2.2.1; have g7 := (HKP.out _ hb2).2.2.2.2.2.2.2)) | (go_at_call 50; go_must (refine (cB _).mono ?_; rintro e w3 ⟨rfl, rfl⟩)))
    go_ret
    exact ⟨rfl, good_below (hw1 _) hb2⟩
  have h20' : ¬ ((20 : Int) < (rc.length : Int)) := by omega
  have cA' := cA h20
  by_cases h200 : rd.size ≤ 200
  case neg =>
    have hr := HRB.out
    rw [decide_eq_false h200] at hr
    simp only [Bool.false_and, Bool.and_false] at hr
    subst hr
    rw [decide_eq_false h200] at cL
    go_enter Tryz.func43, Tryz.ntmps43
    go_wp2_with (first | (go_at_call 76; go_must (refine (cp _).mono ?_; rintro e w2 ⟨rfl, hb2⟩; have hb2' := good_below (hw1 _) hb2; have g0 := (HKP.out _ hb2).1; have g1 := (HKP.out _ hb2).2.1; have g2 := (HKP.out _ hb2).2.2.1; have g3 := (HKP.out _ hb2).2.2.2.1; have g4 := (HKP.out _ hb2).2.2.2.2.1; have g5 := (HKP.out _ hb2).2.2.2.2.2.1; have g6 := (HKP.out _ hb2).2.2.2.2.2.2.1; have g7 := (HKP.out _ hb2).2.2.2.2.2.2.2)) | (go_at_call 50; go_must (refine (cB _).mono ?_; rintro e w3 ⟨rfl, rfl⟩)) | (go_at_call 77; go_must (refine (cL _).mono ?_; rintro e w4 ⟨rfl, rfl⟩)))
    go_ret
    exact ⟨rfl, good_below (hw1 _) hb2⟩
  rw [decide_eq_true h200] at cL
  cases AL
  case true =>
    have hr := HRB.out
    simp only [Bool.not_true, Bool.false_and, Bool.and_false] at hr
    subst hr
    go_enter Tryz.func43, Tryz.ntmps43
    go_wp2_with (first | (go_at_call 76; go_must (refine (cp _).mono ?_; rintro e w2 ⟨rfl, hb2⟩; have hb2' := good_below (hw1 _) hb2; have g0 := (HKP.out _ hb2).1; have g1 := (HKP.out _ hb2).2.1; have g2 := (HKP.out _ hb2).2.2.1; have g3 := (HKP.out _ hb2).2.2.2.1; have g4 := (HKP.out _ hb2).2.2.2.2.1; have g5 := (HKP.out _ hb2).2.2.2.2.2.1; have g6 := (HKP.out _ hb2).2.2.2.2.2.2.1; have g7 := (HKP.out _ hb2).2.2.2.2.2.2.2)) | (go_at_call 50; go_must (refine (cB _).mono ?_; rintro e w3 ⟨rfl, rfl⟩)) | (go_at_call 77; go_must (refine (cL _).mono ?_; rintro e w4 ⟨rfl, rfl⟩)) | (go_at_call 44; go_must (refine (cA' _ hb2').mono ?_; rintro e w5 ⟨rfl, hb5⟩; have hb5' := good_below hb2' hb5; have hbx := hb2.trans (hb5.mono hb2.size); clear g0 g1 g2 g3 g4 g5 g6 g7; have g0 := (HKP.out _ hbx).1; have g1 := (HKP.out _ hbx).2.1; have g2 := (HKP.out _ hbx).2.2.1; have g3 := (HKP.out _ hbx).2.2.2.1; have g4 := (HKP.out _ hbx).2.2.2.2.1; have g5 := (HKP.out _ hbx).2.2.2.2.2.1; have g6 := (HKP.out _ hbx).2.2.2.2.2.2.1; have g7 := (HKP.out _ hbx).2.2.2.2.2.2.2)))
    go_ret
    exact ⟨rfl, good_below hb2' hb5⟩
  have hr := HRB.out
  rw [decide_eq_true h200, decide_eq_true h20] at hr
  simp only [Bool.true_and, Bool.and_true, Bool.not_false] at hr
  have HR : Hid (RB = (rd.toList == [] || f2 == 0)) := hr
  have cC' := fun W hW => cC W hW (by omega)
  clear hr cC cA
  cases hd : (rd.toList == [])
  · cases hf : (f2 == 0)
    · have hr := HR.out
      rw [hd, hf] at hr
      subst hr
      go_enter Tryz.func43, Tryz.ntmps43
      go_wp2_with (first | (go_at_call 76; go_must (refine (cp _).mono ?_; rintro e w2 ⟨rfl, hb2⟩; have hb2' := good_below (hw1 _) hb2; have g0 := (HKP.out _ hb2).1; have g1 := (HKP.out _ hb2).2.1; have g2 := (HKP.out _ hb2).2.2.1; have g3 := (HKP.out _ hb2).2.2.2.1; have g4 := (HKP.out _ hb2).2.2.2.2.1; have g5 := (HKP.out _ hb2).2.2.2.2.2.1; have g6 := (HKP.out _ hb2).2.2.2.2.2.2.1; have g7 := (HKP.out _ hb2).2.2.2.2.2.2.2)) | (go_at_call 50; go_must (refine (cB _).mono ?_; rintro e w3 ⟨rfl, rfl⟩)) | (go_at_call 77; go_must (refine (cL _).mono ?_; rintro e w4 ⟨rfl, rfl⟩)) | (go_at_call 44; go_must (refine (cA' _ hb2').mono ?_; rintro e w5 ⟨rfl, hb5⟩; have hb5' := good_below hb2' hb5; have hbx := hb2.trans (hb5.mono hb2.size); clear g0 g1 g2 g3 g4 g5 g6 g7; have g0 := (HKP.out _ hbx).1; have g1 := (HKP.out _ hbx).2.1; have g2 := (HKP.out _ hbx).2.2.1; have g3 := (HKP.out _ hbx).2.2.2.1; have g4 := (HKP.out _ hbx).2.2.2.2.1; have g5 := (HKP.out _ hbx).2.2.2.2.2.1; have g6 := (HKP.out _ hbx).2.2.2.2.2.2.1; have g7 := (HKP.out _ hbx).2.2.2.2.2.2.2)) | (go_at_call 78; go_must (refine (cC' _ hb5').mono ?_; rintro e w6 ⟨rfl, hb6⟩; have hby := hbx.trans (hb6.mono hbx.size); clear g0 g1 g2 g3 g4 g5 g6 g7; have g0 := (HKP.out _ hby).1; have g1 := (HKP.out _ hby).2.1; have g2 := (HKP.out _ hby).2.2.1; have g3 := (HKP.out _ hby).2.2.2.1; have g4 := (HKP.out _ hby).2.2.2.2.1; have g5 := (HKP.out _ hby).2.2.2.2.2.1; have g6 := (HKP.out _ hby).2.2.2.2.2.2.1; have g7 := (HKP.out _ hby).2.2.2.2.2.2.2)))
      go_ret
      exact ⟨rfl, good_below hb5' hb6⟩
    · have hr := HR.out
      rw [hd, hf] at hr
      subst hr
      go_enter Tryz.func43, Tryz.ntmps43
      go_wp2_with (first | (go_at_call 76; go_must (refine (cp _).mono ?_; rintro e w2 ⟨rfl, hb2⟩; have hb2' := good_below (hw1 _) hb2; have g0 := (HKP.out _ hb2).1; have g1 := (HKP.out _ hb2).2.1; have g2 := (HKP.out _ hb2).2.2.1; have g3 := (HKP.out _ hb2).2.2.2.1; have g4 := (HKP.out _ hb2).2.2.2.2.1; have g5 := (HKP.out _ hb2).2.2.2.2.2.1; have g6 := (HKP.out _ hb2).2.2.2.2.2.2.1; have g7 := (HKP.out _ hb2).2.2.2.2.2.2.2)) | (go_at_call 50; go_must (refine (cB _).mono ?_; rintro e w3 ⟨rfl, rfl⟩)) | (go_at_call 77; go_must (refine (cL _).mono ?_; rintro e w4 ⟨rfl, rfl⟩)) | (go_at_call 44; go_must (refine (cA' _ hb2').mono ?_; rintro e w5 ⟨rfl, hb5⟩; have hb5' := good_below hb2' hb5; have hbx := hb2.trans (hb5.mono hb2.size); clear g0 g1 g2 g3 g4 g5 g6 g7; have g0 := (HKP.out _ hbx).1; have g1 := (HKP.out _ hbx).2.1; have g2 := (HKP.out _ hbx).2.2.1; have g3 := (HKP.out _ hbx).2.2.2.1; have g4 := (HKP.out _ hbx).2.2.2.2.1; have g5 := (HKP.out _ hbx).2.2.2.2.2.1; have g6 := (HKP.out _ hbx).2.2.2.2.2.2.1; have g7 := (HKP.out _ hbx).2.2.2.2.2.2.2)) | (go_at_call 78; go_must (refine (cC' _ hb5').mono ?_; rintro e w6 ⟨rfl, hb6⟩; have hby := hbx.trans (hb6.mono hbx.size); clear g0 g1 g2 g3 g4 g5 g6 g7; have g0 := (HKP.out _ hby).1; have g1 := (HKP.out _ hby).2.1; have g2 := (HKP.out _ hby).2.2.1; have g3 := (HKP.out _ hby).2.2.2.1; have g4 := (HKP.out _ hby).2.2.2.2.1; have g5 := (HKP.out _ hby).2.2.2.2.2.1; have g6 := (HKP.out _ hby).2.2.2.2.2.2.1; have g7 := (HKP.out _ hby).2.2.2.2.2.2.2)))
      go_ret
      exact ⟨rfl, good_below hb5' hb6⟩
  · have hr := HR.out
    rw [hd, Bool.true_or] at hr
    subst hr
    go_enter Tryz.func43, Tryz.ntmps43
    go_wp2_with (first | (go_at_call 76; go_must (refine (cp _).mono ?_; rintro e w2 ⟨rfl, hb2⟩; have hb2' := good_below (hw1 _) hb2; have g0 := (HKP.out _ hb2).1; have g1 := (HKP.out _ hb2).2.1; have g2 := (HKP.out _ hb2).2.2.1; have g3 := (HKP.out _ hb2).2.2.2.1; have g4 := (HKP.out _ hb2).2.2.2.2.1; have g5 := (HKP.out _ hb2).2.2.2.2.2.1; have g6 := (HKP.out _ hb2).2.2.2.2.2.2.1; have g7 := (HKP.out _ hb2).2.2.2.2.2.2.2)) | (go_at_call 50; go_must (refine (cB _).mono ?_; rintro e w3 ⟨rfl, rfl⟩)) | (go_at_call 77; go_must (refine (cL _).mono ?_; rintro e w4 ⟨rfl, rfl⟩)) | (go_at_call 44; go_must (refine (cA' _ hb2').mono ?_; rintro e w5 ⟨rfl, hb5⟩; have hb5' := good_below hb2' hb5; have hbx := hb2.trans (hb5.mono hb2.size); clear g0 g1 g2 g3 g4 g5 g6 g7; have g0 := (HKP.out _ hbx).1; have g1 := (HKP.out _ hbx).2.1; have g2 := (HKP.out _ hbx).2.2.1; have g3 := (HKP.out _ hbx).2.2.2.1; have g4 := (HKP.out _ hbx).2.2.2.2.1; have g5 := (HKP.out _ hbx).2.2.2.2.2.1; have g6 := (HKP.out _ hbx).2.2.2.2.2.2.1; have g7 := (HKP.out _ hbx).2.2.2.2.2.2.2)) | (go_at_call 78; go_must (refine (cC' _ hb5').mono ?_; rintro e w6 ⟨rfl, hb6⟩; have hby := hbx.trans (hb6.mono hbx.size); clear g0 g1 g2 g3 g4 g5 g6 g7; have g0 := (HKP.out _ hby).1; have g1 := (HKP.out _ hby).2.1; have g2 := (HKP.out _ hby).2.2.1; have g3 := (HKP.out _ hby).2.2.2.1; have g4 := (HKP.out _ hby).2.2.2.2.1; have g5 := (HKP.out _ hby).2.2.2.2.2.1; have g6 := (HKP.out _ hby).2.2.2.2.2.2.1; have g7 := (HKP.out _ hby).2.2.2.2.2.2.2)))
    go_ret
    exact ⟨rfl, good_below hb5' hb6⟩
end Go.Proofs.YtdlopjimheaekaaGreatDoor

namespace Go.Proofs.YtdlopjimheaekaaGreatDoor
open Go.ChangeShapes Go.WideShapes Go.ChangeAt Go.RowKit
set_option linter.unusedVariables false
set_option linter.unusedSimpArgs false

/-- A rule as impl asks it: right, and none of those ahead of it is met. -/
def Good (l : List Rule) (i : Nat) (hi : i < l.length) : Prop := rightB l[i] = true ∧ ((l.map Rule.path).take i).any (meetB l[i].path) = false
theorem right_iff (r : Rule) : rightB r = true ↔ ruleB0 r = true ∧ (∀ c ∈ r.choices, c.size ≤ 200) ∧ defB r = true := by
  unfold rightB
  simp only [Bool.and_eq_true, Bool.not_eq_true', List.any_eq_false, longB, Bool.not_eq_true, decide_eq_true_eq, Bool.not_eq_false']
  constructor
  · rintro ⟨⟨h1, h2⟩, h3⟩
    exact ⟨h1, fun c hc => by simpa using h2 c hc, h3⟩
  · rintro ⟨h1, h2, h3⟩
    exact ⟨⟨h1, fun c hc => by simpa using h2 c hc⟩, h3⟩
theorem meets_iff (l : List Rule) (i : Nat) (hi : i < l.length) : ((l.map Rule.path).take i).any (meetB l[i].path) = false ↔ ∀ j (hj : j < i), withinB l[i].path l[j].path = false ∧ withinB l[j].path l[i].path = false := by
  rw [List.any_eq_false]
  constructor
  · intro h j hj
    have := h (l[j].path) (by
      rw [List.mem_take_iff_getElem]
      exact ⟨j, by simp; omega, by simp⟩)
    unfold meetB at this
    simpa using this
  · intro h x hx
    rw [List.mem_take_iff_getElem] at hx
    obtain ⟨j, hj, rfl⟩ := hx
    simp at hj
    have := h j (by omega)
    unfold meetB
    simp [this.1, this.2]
theorem good_no {l : List Rule} {i : Nat} (hi : i < l.length) (h : ¬ Good l i hi) : rulesB l = false := by
  by_cases hr : rightB l[i] = true
  · have hm : ¬ (((l.map Rule.path).take i).any (meetB l[i].path) = false) := fun e => h ⟨hr, e⟩
    rw [meets_iff] at hm
    have : ∃ j, ∃ hj : j < i, ¬ (withinB l[i].path l[j].path = false ∧ withinB l[j].path l[i].path = false) := by
      refine Classical.byContradiction (fun hn => hm (fun j hj => ?_))
      exact Classical.byContradiction (fun hq => hn ⟨j, hj, hq⟩)
    obtain ⟨j, hj, hq⟩ := this
    by_cases h1 : withinB l[i].path l[j].path = false
    · have h2 : ¬ (withinB l[j].path l[i].path = false) := fun e => hq ⟨h1, e⟩
      exact rules_no (i := j) (by omega) (fun e => h2 (e.2.2.1 i hi (by omega)))
    · exact rules_no hi (fun e => h1 (e.2.2.1 j (by omega) (by omega)))
  · exact rules_no hi (fun e => hr ((right_iff _).2 ⟨e.1, e.2.1, e.2.2.2⟩))
theorem good_yes {l : List Rule} (h : l.length ≤ 100) (h2 : ∀ i (hi : i < l.length), Good l i hi) : rulesB l = true := by
  refine rules_yes h (fun i hi => ?_)
  obtain ⟨r1, r2, r3⟩ := (right_iff _).1 (h2 i hi).1
  refine ⟨r1, r2, fun k hk hne => ?_, r3⟩
  rcases Nat.lt_or_ge k i with q | q
  · exact ((meets_iff l i hi).1 (h2 i hi).2 k q).1
  · exact ((meets_iff l k hk).1 (h2 k hk).2 i (by omega)).2
set_option maxRecDepth 100000 in
set_option maxHeartbeats 16000000 in
theorem implRules {S : Nat → Prop} {l : List Rule} {v : Value} {w : World} (hS : ∀ b, S b → b < w.heap.size) (h : RulesAt S w v l) (hok : ∀ x ∈ l, RulesOK 1048576 x) (hT : ∀ W, Below w.heap.size w W → Lib.Utf8Tabs 0 1 W) :
    Calls Tryz.prog 19 #[v] w fun e w' => e = .returned (.bool (rulesB l)) ∧ Below w.heap.size w w' := by
  obtain ⟨hlm, a, cap, rfl, hc⟩ := h
  have HC : Hid _ := hc
  have HS : Hid (∀ b, S b → b < w.heap.size) := hS
  have HT : Hid (∀ W, Below w.heap.size w W → Lib.Utf8Tabs 0 1 W) := hT
  have HOK : Hid (∀ x ∈ l, RulesOK 1048576 x) := hok
  have hlm' : (l.length : Int) ≤ 9223372036854775807 := by simp [maxLen] at hlm; omega
  clear hc hS hlm hok hT
  by_cases hl : l.length ≤ 100
  case neg =>
    have hl' : (100 : Int) < (l.length : Int) := by omega
    rw [rules_long hl]
    go_enter Tryz.func19, Tryz.ntmps19
    go_wp2_with fail
    go_ret
    exact ⟨rfl, Below.refl _ _⟩
  have hl' : ¬ ((100 : Int) < (l.length : Int)) := by omega
  have hyes := fun h2 => good_yes hl h2
  have hno := fun i hi h => good_no (l := l) (i := i) hi h
  obtain ⟨RB, hRB⟩ : ∃ RB, rulesB l = RB := ⟨_, rfl⟩
  rw [hRB] at hyes hno ⊢
  have HYES : Hid ((∀ i (hi : i < l.length), Good l i hi) → RB = true) := hyes
  have HNO : Hid (∀ i (hi : i < l.length), ¬ Good l i hi → RB = false) := hno
  clear hyes hno hRB
  go_enter Tryz.func19, Tryz.ntmps19
  go_wp2_with fail
  go_loopw [3, 12] (fun i3 i12 wr => ∃ (k : Nat) (pa : Option Addr) (pc : Nat), i12 = .int .i64 (k : Int) ∧ i3 = .slice pa k pc ∧ k ≤ l.length ∧ OwnTxts w.heap.size wr (.slice pa k pc) ((l.map Rule.path).take k) ∧ (∀ i (hi : i < l.length), i < k → Good l i hi) ∧ Below w.heap.size w wr) (fun _ i12 _ => l.length - (intOf i12).toNat)
  case atStart => exact ⟨0, none, 0, rfl, rfl, by omega, OwnTxts.nil _ _, fun i _ h => by omega, Below.refl _ _⟩
  case round =>
    obtain ⟨k, pa, pc, rfl, rfl, hk, hown, hall, hb⟩ := hrel
    have HOW : Hid (OwnTxts w.heap.size wr (.slice pa k pc) ((l.map Rule.path).take k)) := hown
    have HALL : Hid (∀ i (hi : i < l.length), i < k → Good l i hi) := hall
    have HB : Hid (Below w.heap.size w wr) := hb
    have hbs := hb.size
    clear hall hown
    by_cases hkn : k < l.length
    case neg =>
      obtain rfl : k = l.length := by omega
      have hkn' : ¬ ((l.length : Int) < (l.length : Int)) := by omega
      have hr := HYES.out (fun i hi => HALL.out i hi hi)
      subst hr
      go_wp2_with fail
      go_ret
      exact ⟨rfl, hb⟩
    have hkn' : (k : Int) < (l.length : Int) := by omega
    obtain ⟨b, off, rfl, hbS, hcell⟩ := HC.out (by omega)
    have hbw := HS.out b hbS
    obtain ⟨c0, c1, c2, c3, c5, c6, nv, c4, hnv⟩ := hcell k hkn
    have d0 := (hb.cell (p := ⟨b, off + k * 7, none⟩) hbw).trans c0
    have d1 := (hb.cell (p := ⟨b, off + k * 7 + 1, none⟩) hbw).trans c1
    have d2 := (hb.cell (p := ⟨b, off + k * 7 + 2, none⟩) hbw).trans c2
    have d3 := (hb.cell (p := ⟨b, off + k * 7 + 3, none⟩) hbw).trans c3
    have d4 := (hb.cell (p := ⟨b, off + k * 7 + 4, none⟩) hbw).trans c4
    have d5 := (hb.cell (p := ⟨b, off + k * 7 + 5, none⟩) hbw).trans c5
    have d6 := (hb.cell (p := ⟨b, off + k * 7 + 6, none⟩) hbw).trans c6
    have hokx := HOK.out l[k] (List.getElem_mem hkn)
    have hbad := fun h => HNO.out k hkn h
    have hstep : Good l k hkn → ∀ i (hi : i < l.length), i < k + 1 → Good l i hi := fun h0 i hi hik => by
      by_cases e : i = k
      · subst e; exact h0
      · exact HALL.out i hi (by omega)
    have hra : Good l k hkn ↔ (rightB l[k] = true ∧ ((l.map Rule.path).take k).any (meetB l[k].path) = false) := Iff.rfl
    have htk : (l.map Rule.path).take (k + 1) = (l.map Rule.path).take k ++ [l[k].path] := by
      rw [List.take_succ_eq_append_getElem (by simpa using hkn)]
      simp
    have htz : ∀ q ∈ (l.map Rule.path).take k, q.size ≤ 1048576 := fun q hq => by
      obtain ⟨x, hx, rfl⟩ := List.mem_map.1 (List.mem_of_mem_take hq)
      have := HOK.out x hx
      unfold RulesOK at this
      omega
    obtain ⟨x, hx⟩ : ∃ x, l[k] = x := ⟨_, rfl⟩
    rw [hx] at d0 d1 d2 d3 d5 d6 hnv hokx hra htk
    have hokp : x.path.size ≤ 1048576 := by have := hokx; unfold RulesOK at this; omega
    have hbr : ∀ W, Below w.heap.size w W → Calls Tryz.prog 43 #[dVal x nv] W fun e w' => e = .returned (.bool (rightB x)) ∧ Below W.heap.size W w' := fun W hW =>
      implRight x nv W (fun b hb => Nat.lt_of_lt_of_le (HS.out b hb) hW.size) (hnv.keep (cells_below HS.out hW)) hokx (fun W' hW' => HT.out W' (good_below hW hW'))
    obtain ⟨za, zc, hzv⟩ := hnv.shape
    subst hzv
    unfold dVal at hbr
    obtain ⟨RT, hRT⟩ : ∃ RT, rightB x = RT := ⟨_, rfl⟩
    rw [hRT] at hbr hra
    obtain ⟨MT, hMT⟩ : ∃ MT, ((l.map Rule.path).take k).any (meetB x.path) = MT := ⟨_, rfl⟩
    rw [hMT] at hra
    have HMT : Hid (((l.map Rule.path).take k).any (meetB x.path) = MT) := hMT
    obtain ⟨xp, xk, xi, xa, xc, xm, xd⟩ := x
    dsimp only at d0 d1 d2 d3 d5 d6 hnv hbr htk hokp HMT
    have HBAD : Hid (¬ (RT = true ∧ MT = false) → RB = false) := fun h => hbad (fun e => h (hra.1 e))
    have HSTEP : Hid (RT = true ∧ MT = false → ∀ i (hi : i < l.length), i < k + 1 → Good l i hi) := fun h => hstep (hra.2 h)
    have HTK : Hid ((l.map Rule.path).take (k + 1) = (l.map Rule.path).take k ++ [xp]) := htk
    have HTZ : Hid (∀ q ∈ (l.map Rule.path).take k, q.size ≤ 1048576) := htz
    clear hcell c0 c1 c2 c3 c4 c5 c6 hbad hstep hra hRT hMT hx htk htz hokx hnv
    have hk1 : ∀ W o1 o2, W = (wr.alloc o1).alloc o2 → Below wr.heap.size wr W := fun W o1 o2 e => by subst e; exact ((Below.refl _ wr).alloc (Nat.le_refl _) _).alloc (by simp) _
    go_upto_region 8 with fail
    obtain ⟨wA, hwA⟩ : ∃ wA, (wr.alloc (.cells #[.string xp, .int .i64 xk, .int .i64 xi, .int .i64 xa, .slice za xc.length zc, .bool xm, .string xd] 68)).alloc (.cells #[.string xp, .string xp, .int .i64 xk, .int .i64 xi, .int .i64 xa, .slice za xc.length zc, .bool xm, .string xd] 86) = wA := ⟨_, rfl⟩
    have hbA : Below wr.heap.size wr wA := hk1 _ _ _ hwA.symm
    have hb5 : Blk wA wr.heap.size 68 #[.string xp, .int .i64 xk, .int .i64 xi, .int .i64 xa, .slice za xc.length zc, .bool xm, .string xd] := by
      rw [← hwA]
      exact Blk.below (heap_alloc_last wr _) ((Below.refl _ _).alloc (Nat.le_refl _) _)
    have hb6 : Blk wA (wr.heap.size + 1) 86 #[.string xp, .string xp, .int .i64 xk, .int .i64 xi, .int .i64 xa, .slice za xc.length zc, .bool xm, .string xd] := by
      rw [← hwA]
      have := heap_alloc_last (wr.alloc (.cells #[.string xp, .int .i64 xk, .int .i64 xi, .int .i64 xa, .slice za xc.length zc, .bool xm, .string xd] 68)) (.cells #[.string xp, .string xp, .int .i64 xk, .int .i64 xi, .int .i64 xa, .slice za xc.length zc, .bool xm, .string xd] 86)
      rwa [World.size_alloc] at this
    rw [hwA]
    obtain ⟨gx, hgx⟩ : ∃ gx, wr.heap.size = gx := ⟨_, rfl⟩
    rw [hgx] at hb5 hb6 ⊢
    have HB5 : Hid (Blk wA gx 68 #[.string xp, .int .i64 xk, .int .i64 xi, .int .i64 xa, .slice za xc.length zc, .bool xm, .string xd]) := hb5
    have HB6 : Hid (Blk wA (gx + 1) 86 #[.string xp, .string xp, .int .i64 xk, .int .i64 xi, .int .i64 xa, .slice za xc.length zc, .bool xm, .string xd]) := hb6
    have HBA : Hid (Below wr.heap.size wr wA) := hbA
    have q0 := hb6.cell 0
    have q1 := hb6.cell 1
    have q2 := hb6.cell 2
    have q3 := hb6.cell 3
    have q4 := hb6.cell 4
    have q5 := hb6.cell 5
    have q6 := hb6.cell 6
    have q7 := hb6.cell 7
    simp at q0 q1 q2 q3 q4 q5 q6 q7
    have hln : ((l.map Rule.path).take k).length = k := by simp; omega
    have cm := fun W (hW : Below wr.heap.size wr W) => implContainsM xp hokp ((l.map Rule.path).take k) pa pc W (by rw [hln]; omega) HTZ.out (fun h0 => by
      obtain ⟨ta, tc, htv, -, hcl⟩ := (OwnTxts.below HOW.out hW).value
      rw [hln] at htv
      simp only [Value.slice.injEq] at htv
      obtain ⟨rfl, -, rfl⟩ := htv
      obtain ⟨g, rfl, -, hg, hcl⟩ := hcl h0
      exact ⟨g, 0, rfl, hg, fun j hj => by simpa using hcl j hj⟩)
    rw [hln, HMT.out] at cm
    have hbA' := good_below HB.out hbA
    have cr := hbr wA hbA'
    clear d0 d1 d2 d3 d4 d5 d6 hb hbA hb5 hb6 hbr hk1 hwA
    cases RT
    case false =>
      have hr := HBAD.out (by simp)
      subst hr
      go_wp2_with (go_at_call 43; go_must (refine cr.mono ?_; rintro e w2 ⟨rfl, hb2⟩))
      go_ret
      exact ⟨rfl, good_below hbA' hb2⟩
    cases MT
    case true =>
      have hr := HBAD.out (by simp)
      subst hr
      go_wp2_with (first
        | (go_at_call 43; go_must (refine cr.mono ?_; rintro e w2 ⟨rfl, hb2⟩; have e0 := (Blk.below HB6.out hb2).cell 0; simp at e0; have hb2' := good_below HBA.out hb2))
        | (go_at_call 44; go_must (refine (cm _ hb2').mono ?_; rintro e w3 ⟨rfl, hb3⟩)))
      go_ret
      exact ⟨rfl, good_below (good_below hbA' hb2) hb3⟩
    go_wp2_with (first
      | (go_at_call 43; go_must (refine cr.mono ?_; rintro e w2 ⟨rfl, hb2⟩; have e0 := (Blk.below HB6.out hb2).cell 0; simp at e0; have hb2' := good_below HBA.out hb2))
      | (go_at_call 44; go_must (refine (cm _ hb2').mono ?_; rintro e w3 ⟨rfl, hb3⟩; have hb3' := good_below hb2' hb3; have f0 := (Blk.below HB5.out (hb2.trans (hb3.mono hb2.size))).cell 0; simp at f0; have how3 := OwnTxts.below HOW.out hb3'; have hs3 := hb3'.size))
      | (at_builtin; go_must (refine wpList_appendTxts rfl (.tmp 31) (.tmp 34) rfl w.heap.size (.slice pa k pc) ((l.map Rule.path).take k) rfl (OwnTxts.below how3 ((Below.refl _ w3).alloc (Nat.le_refl _) _)) _ [xp] rfl (TxtsAt.newAt _ xp _ (by simp)) (by simp <;> omega) (by simp only [World.size_alloc]; omega) ?_; intro v9 w9 hown9 hB9 hgr9 hnil9; obtain ⟨a9, c9, e9, -⟩ := hown9.value; have hl9 : ((l.map Rule.path).take k ++ [xp]).length = k + 1 := (by simp <;> omega); rw [hl9] at e9; subst e9)))
    have hbw3 := good_below HB.out hb3'
    exact ⟨⟨k + 1, a9, c9, by go_num, rfl, by omega, by rw [HTK.out]; exact hown9, HSTEP.out (by simp), (hbw3.alloc hbw3.size _).trans hB9⟩, by simp [intOf]; omega⟩
end Go.Proofs.YtdlopjimheaekaaGreatDoor

namespace Go.Proofs.YtdlopjimheaekaaGreatDoor
open Go.ChangeShapes Go.WideShapes Go.ChangeAt Go.RowKit Go.Maps
set_option linter.unusedVariables false
set_option linter.unusedSimpArgs false

open Classical in
/-- A demand as an element of a map, held as it is. -/
noncomputable def heldD (v : Value) : Option (DataW Value × List MemPlace) := if ∃ r a n c, v = dVal r (.slice a n c) then some (.held v, []) else none
theorem heldD_mk (r : Rule) (a : Option Addr) (n c : Nat) : heldD (dVal r (.slice a n c)) = some (.held (dVal r (.slice a n c)), []) := by
  unfold heldD; rw [if_pos ⟨r, a, n, c, rfl⟩]
theorem heldD_inv {v : Value} {y : DataW Value × List MemPlace} (h : heldD v = some y) : y = (.held v, []) := by
  unfold heldD at h
  split at h
  · cases h; rfl
  · cases h
/-- D holds f. -/
def RepD (D : DataW Value) (f : ByteArray → Option Value) : Prop := ∀ p, (∀ v, f p = some v → ∀ z, D.atKey (textKey p) z = .held v) ∧ (f p = none → has D (textKey p) = false)
theorem RepD.put {D : DataW Value} {f : ByteArray → Option Value} (h : RepD D f) (hm : IsMap D) (q : ByteArray) (v : Value) : RepD (D.put (textKey q) (.held v)) (fun p => if p = q then Option.some v else f p) := by
  intro p
  by_cases e : p = q
  · subst e
    simp only [if_true]
    exact ⟨fun t ht z => (by cases ht; exact atKey_put_same hm (textKey_key _) _ _), fun hn => (by cases hn)⟩
  · have hne : textKey p ≠ textKey q := fun h => e (textKey_inj h)
    simp only [if_neg e]
    refine ⟨fun s hs z => ?_, fun hn => ?_⟩
    · rw [atKey_put_other hne]; exact (h p).1 s hs z
    · rw [has_put_other hne]; exact (h p).2 hn
/-- The map in block b holds f. -/
def MapD (w : World) (b n : Nat) (f : ByteArray → Option Value) : Prop := ∃ D, w.ownsMap Tryz.prog 9 heldD b n D ∧ RepD D f
theorem MapD.made (w : World) : MapD (w.alloc (.map #[] 0)) w.heap.size 0 (fun _ => none) :=
  ⟨.map [], World.ownsMap_made _ _ _ _, fun p => ⟨fun s hs => (by cases hs), fun _ => rfl⟩⟩
theorem MapD.lt {w : World} {b n : Nat} {f : ByteArray → Option Value} (h : MapD w b n f) : b < w.heap.size := by
  obtain ⟨D, h, _⟩ := h; exact h.lt
theorem MapD.below {w w' : World} {b n : Nat} {f : ByteArray → Option Value} (h : MapD w b n f) (hb : Below w.heap.size w w') : MapD w' b n f := by
  have hl := h.lt
  obtain ⟨D, ⟨es, clock, hbk, F, hs, hD⟩, hr⟩ := h
  exact ⟨D, ⟨es, clock, (hb.block b hl).trans hbk, F, hs, hD⟩, hr⟩
def zeroR : Rule := ⟨⟨#[]⟩, 0, 0, 0, [], false, ⟨#[]⟩⟩
/-- What is read at a path, and whether it is there. -/
theorem MapD.look {w : World} {b n : Nat} {f : ByteArray → Option Value} (h : MapD w b n f) {p : ByteArray} (hp : p.size ≤ 1048576) :
    (Instr.lookup 93 (.map (some b)) (.string p) true).run Tryz.prog w = .ok (.tuple #[(f p).getD (dVal zeroR (.slice none 0 0)), .bool (f p).isSome]) w := by
  obtain ⟨D, hown, hrep⟩ := h
  have hkey : keyOf Tryz.prog 9 (.string p) = some (textKey p) := key9 (by simp [maxLen]; omega)
  obtain ⟨v, ps, hrun, hRv⟩ := hown.look_ok law9 Tryz.underlying93 (Tryz.zeroValue86 w) (heldD_mk zeroR none 0 0) hkey
  have hv := heldD_inv hRv
  simp only [Prod.mk.injEq] at hv
  cases hf : f p with
  | none =>
    have hn := (hrep p).2 hf
    rw [atKey_of_not_has hn] at hv
    rw [hn] at hrun
    rw [← DataW.held.inj hv.1] at hrun
    exact hrun
  | some v0 =>
    have h1 := (hrep p).1 v0 hf
    rw [h1] at hv
    rw [has_true_of_atKey h1] at hrun
    rw [← DataW.held.inj hv.1] at hrun
    exact hrun
theorem MapS.lookOk {w : World} {b n : Nat} {out : List Setting} (h : MapS w b n out) {p : ByteArray} (hp : p.size ≤ 1048576) :
    (Instr.lookup 95 (.map (some b)) (.string p) true).run Tryz.prog w = .ok (.tuple #[.agg #[.string (setOf out p).path, .string (setOf out p).text, .string (setOf out p).from'], .bool (lookS out p).isSome]) w := by
  obtain ⟨D, f, hown, hrep, hof⟩ := h
  have hkey : keyOf Tryz.prog 9 (.string p) = some (textKey p) := key9 (by simp [maxLen]; omega)
  obtain ⟨v, ps, hrun, hRv⟩ := hown.look_ok law9 Tryz.underlying95 (Tryz.zeroValue131 w) (heldS_mk ⟨⟨#[]⟩, ⟨#[]⟩, ⟨#[]⟩⟩) hkey
  obtain ⟨s, rfl, hs⟩ := heldS_inv hRv
  simp only [Prod.mk.injEq] at hs
  have hsl := lookS_is hof p
  have hset : setOf out p = s := by
    unfold setOf
    rw [hsl]
    cases hf : f p with
    | none =>
      rw [atKey_of_not_has ((hrep p).2 hf)] at hs
      exact sVal_inj (DataW.held.inj hs.1)
    | some t =>
      rw [(hrep p).1 t hf] at hs
      exact sVal_inj (DataW.held.inj hs.1)
  rw [hset, hsl, ← hrep.has]
  exact hrun
/-- What the rules ahead of k lay at a path. -/
def bookK (l : List Rule) (cv : Nat → Value) : Nat → ByteArray → Option Value
  | 0, _ => none
  | k + 1, p => match l[k]? with
    | some r => if p = r.path then some (dVal r (cv k)) else bookK l cv k p
    | none => bookK l cv k p
theorem bookK_none {l : List Rule} {cv : Nat → Value} {p : ByteArray} : ∀ k, (∀ i (hi : i < l.length), i < k → l[i].path ≠ p) → bookK l cv k p = none
  | 0, _ => rfl
  | k + 1, h => by
    unfold bookK
    have ih := bookK_none (cv := cv) k (fun i hi hik => h i hi (by omega))
    split
    · rename_i r hr
      have hk := (List.getElem?_eq_some_iff.1 hr)
      obtain ⟨hk, rfl⟩ := hk
      rw [if_neg (fun e => h k hk (by omega) e.symm)]
      exact ih
    · exact ih
theorem bookK_some {l : List Rule} {cv : Nat → Value} {p : ByteArray} {j : Nat} (hj : j < l.length) (hp : l[j].path = p) (hu : ∀ i (hi : i < l.length), i ≠ j → l[i].path ≠ p) : ∀ k, j < k → bookK l cv k p = some (dVal l[j] (cv j))
  | 0, h => by omega
  | k + 1, h => by
    unfold bookK
    by_cases e : j = k
    · subst e
      rw [List.getElem?_eq_getElem hj]
      simp only [hp, if_true]
    · have ih := bookK_some (cv := cv) hj hp hu k (by omega)
      split
      · rename_i r hr
        obtain ⟨hk, rfl⟩ := List.getElem?_eq_some_iff.1 hr
        rw [if_neg (fun e' => hu k hk (by omega) e'.symm)]
        exact ih
      · exact ih
open Classical in
/-- The rules' map is their list. -/
theorem book_rule {l : List Rule} (h : rulesB l = true) (cv : Nat → Value) (p : ByteArray) : bookK l cv l.length p = match ruleO l p with
    | some k => (l[k]?).map (fun r => dVal r (cv k))
    | none => none := by
  have hap : ∀ i (hi : i < l.length), RuleAt l i hi := by
    unfold rulesB at h
    exact (of_decide_eq_true h).2
  cases hr : ruleO l p with
  | none =>
    refine bookK_none _ (fun i hi _ e => ?_)
    unfold ruleO at hr
    rw [List.findIdx?_eq_none_iff] at hr
    have := hr l[i] (List.getElem_mem hi)
    rw [e] at this
    simp at this
  | some k =>
    have hk := rule_lt hr
    unfold ruleO at hr
    rw [List.findIdx?_eq_some_iff_getElem] at hr
    obtain ⟨_, h1, _⟩ := hr
    have hp : l[k].path = p := by rw [beq_bytes, decide_eq_true_eq] at h1; exact h1
    simp only [List.getElem?_eq_getElem hk, Option.map_some]
    refine bookK_some hk hp (fun i hi hne e => ?_) _ hk
    have := (hap k hk).2.2.1 i hi hne
    rw [hp, e] at this
    unfold withinB at this
    simp at this
end Go.Proofs.YtdlopjimheaekaaGreatDoor

namespace Go.Proofs.YtdlopjimheaekaaGreatDoor
open Go.ChangeShapes Go.WideShapes Go.ChangeAt Go.RowKit Go.Maps
set_option linter.unusedVariables false

theorem long_int (a b c : Nat) : (decide ((4096 : Int) < (a : Int)) || decide ((4096 : Int) < (b : Int)) || decide ((4096 : Int) < (c : Int))) = (decide (4096 < a) || decide (4096 < b) || decide (4096 < c)) := by
  rw [Bool.eq_iff_iff]
  simp only [decide_eq_true_eq, Bool.or_eq_true]
  omega
theorem txts_cells {S : Nat → Prop} {w : World} {a : Option Addr} {n cap : Nat} {l : List ByteArray} (h : TxtsAt S w (.slice a n cap) l) (hS : ∀ b, S b → b < w.heap.size) : 0 < l.length → ∃ g o, a = some ⟨g, o, none⟩ ∧ g < w.heap.size ∧ ∀ j (hj : j < l.length), w.cell? ⟨g, o + j, none⟩ = some (.string l[j]) := fun h0 => by
  obtain ⟨_, ta, tc, htv, hcell⟩ := h
  simp only [Value.slice.injEq] at htv
  obtain ⟨rfl, -, rfl⟩ := htv
  obtain ⟨b, off, rfl, hbS, hcell⟩ := hcell h0
  exact ⟨b, off, rfl, hS b hbS, hcell⟩
theorem MapS.looks {W : Nat → World} {b m : Nat} {out : List Setting} (h : ∀ n, MapS (W n) b m out) {p : ByteArray} (hp : p.size ≤ 1048576) :
    ∃ x y : ByteArray, ∀ n, (Instr.lookup 95 (.map (some b)) (.string p) false).run Tryz.prog (W n) = .ok (.agg #[.string x, .string (textOf out p), .string y]) (W n) :=
  ⟨_, _, fun n => (h n).look hp⟩
theorem run_text (x y z : ByteArray) (w : World) : (Instr.field 131 (.agg #[.string x, .string y, .string z]) 1).run Tryz.prog w = .ok (.string y) w := by kernel_rfl
end Go.Proofs.YtdlopjimheaekaaGreatDoor

namespace Go.Proofs.YtdlopjimheaekaaGreatDoor
open Go.ChangeShapes Go.WideShapes Go.ChangeAt Go.RowKit Go.Maps
set_option linter.unusedVariables false
set_option linter.unusedSimpArgs false

set_option maxRecDepth 100000 in
theorem implMax2 (a b : Int) (g : Nat) (w : World) (h0 : w.cell? ⟨g, 0, none⟩ = some (.int .i64 a)) (h1 : w.cell? ⟨g, 1, none⟩ = some (.int .i64 b)) : Calls Tryz.prog 42 #[.slice (some ⟨g, 0, none⟩) 2 2] w fun e w' => (∃ m : Int, e = .returned (.int .i64 m) ∧ decide (4096 < m) = (decide (4096 < a) || decide (4096 < b))) ∧ w' = w := by
  go_enter Tryz.func42, Tryz.ntmps42
  go_wp2
  refine wp_loop_rounds 2 ?_
  rw [rounds_succ]
  go_wp2
  rw [rounds_succ]
  go_wp2
  go_ret
  refine ⟨⟨_, rfl, ?_⟩, rfl⟩
  rw [Bool.eq_iff_iff]
  simp only [decide_eq_true_eq, Bool.or_eq_true]
  omega
set_option maxRecDepth 100000 in
theorem implLong2 (a b : Int) (g : Nat) (w : World) (h0 : w.cell? ⟨g, 0, none⟩ = some (.int .i64 a)) (h1 : w.cell? ⟨g, 1, none⟩ = some (.int .i64 b)) : Calls Tryz.prog 18 #[.slice (some ⟨g, 0, none⟩) 2 2] w fun e w' => e = .returned (.bool (decide (4096 < a) || decide (4096 < b))) ∧ w' = w := by
  have cm := implMax2 a b g w h0 h1
  go_enter Tryz.func18, Tryz.ntmps18
  go_wp2_with (go_at_call 42; go_must (refine cm.mono ?_; rintro e w1 ⟨⟨m, rfl, hm⟩, rfl⟩))
  go_ret
  exact ⟨rfl, rfl⟩
theorem two_newI (w : World) (a b : Int) (g : Nat) (hg : g = w.heap.size) : (w.alloc (.cells #[.int .i64 a, .int .i64 b] 3)).cell? ⟨g, 0, none⟩ = some (.int .i64 a) ∧ (w.alloc (.cells #[.int .i64 a, .int .i64 b] 3)).cell? ⟨g, 1, none⟩ = some (.int .i64 b) := by
  subst hg
  have h : Blk (w.alloc (.cells #[.int .i64 a, .int .i64 b] 3)) w.heap.size 3 #[.int .i64 a, .int .i64 b] := heap_alloc_last w _
  exact ⟨h.cell 0, h.cell 1⟩
theorem MapD.kept {w w' : World} {b n : Nat} {f : ByteArray → Option Value} {row : Option Nat} (h : MapD w b n f) (hg : w.grownBy w' row) (hne : some b ≠ row) : MapD w' b n f := by
  obtain ⟨D, hown, hr⟩ := h
  exact ⟨D, hown.kept hg hne, hr⟩
theorem MapD.step {w' : World} {b n k : Nat} {D : DataW Value} {l : List Rule} {cv : Nat → Value} {x : Rule} (hk : k < l.length) (hx : l[k] = x) (hown : w'.ownsMap Tryz.prog 9 heldD b n (D.put (textKey x.path) (.held (dVal x (cv k))))) (hm : IsMap D) (hr : RepD D (bookK l cv k)) : MapD w' b n (bookK l cv (k + 1)) := by
  have h1 := hr.put hm x.path (dVal x (cv k))
  have e : (fun p => if p = x.path then Option.some (dVal x (cv k)) else bookK l cv k p) = bookK l cv (k + 1) := by
    funext p
    subst hx
    show _ = (match l[k]? with
      | some r => if p = r.path then some (dVal r (cv k)) else bookK l cv k p
      | none => bookK l cv k p)
    rw [List.getElem?_eq_getElem hk]
  rw [e] at h1
  exact ⟨_, hown, h1⟩
/-- The rules' rows, with the slices of choices by a function. -/
theorem rules_cv {S : Nat → Prop} {w : World} {v : Value} {l : List Rule} (h : RulesAt S w v l) : ∃ a cap, ∃ cv : Nat → Value, v = .slice a l.length cap ∧ (∀ k (hk : k < l.length), TxtsAt S w (cv k) l[k].choices) ∧ (0 < l.length → ∃ b off, a = some ⟨b, off, none⟩ ∧ S b ∧
    ∀ i (h : i < l.length), w.cell? ⟨b, off + i * 7, none⟩ = some (.string l[i].path) ∧ w.cell? ⟨b, off + i * 7 + 1, none⟩ = some (.int .i64 l[i].kind) ∧ w.cell? ⟨b, off + i * 7 + 2, none⟩ = some (.int .i64 l[i].min') ∧ w.cell? ⟨b, off + i * 7 + 3, none⟩ = some (.int .i64 l[i].max') ∧ w.cell? ⟨b, off + i * 7 + 5, none⟩ = some (.bool l[i].must) ∧ w.cell? ⟨b, off + i * 7 + 6, none⟩ = some (.string l[i].default') ∧ w.cell? ⟨b, off + i * 7 + 4, none⟩ = some (cv i)) := by
  classical
  obtain ⟨_, a, cap, rfl, hc⟩ := h
  by_cases h0 : 0 < l.length
  · obtain ⟨b, off, rfl, hbS, hcell⟩ := hc h0
    have hex : ∀ i (hi : i < l.length), ∃ nv, w.cell? ⟨b, off + i * 7 + 4, none⟩ = some nv ∧ TxtsAt S w nv l[i].choices := fun i hi => (hcell i hi).2.2.2.2.2.2
    refine ⟨_, cap, fun i => if hi : i < l.length then Classical.choose (hex i hi) else .nilFunc, rfl, fun k hk => ?_, fun _ => ⟨b, off, rfl, hbS, fun i hi => ?_⟩⟩
    · dsimp only
      rw [dif_pos hk]
      exact (Classical.choose_spec (hex k hk)).2
    · obtain ⟨c0, c1, c2, c3, c5, c6, _⟩ := hcell i hi
      refine ⟨c0, c1, c2, c3, c5, c6, ?_⟩
      dsimp only
      rw [dif_pos hi]
      exact (Classical.choose_spec (hex i hi)).1
  · exact ⟨a, cap, fun _ => .nilFunc, rfl, fun k hk => absurd hk (by omega), fun h => absurd h h0⟩
open Classical in
theorem rules_all {l : List Rule} (h : rulesB l = true) : l.length ≤ 100 ∧ ∀ i (hi : i < l.length), RuleAt l i hi := by
  unfold rulesB at h
  exact of_decide_eq_true h
noncomputable def bookC (l0 : List Rule) (l1 : List Layer) : Int := if 4096 < l0.length ∨ 4096 < l1.length then 2 else if rulesB l0 && layersB nameOK l1 then 0 else 1
/-- What a book holds. -/
def BookOut (S : Nat → Prop) (l0 : List Rule) (l1 : List Layer) (B : Nat) (w' : World) (sv : Value) : Prop :=
  (¬ (bookC l0 l1 = 0) ∧ sv = .agg #[.map none, .map none]) ∨ (bookC l0 l1 = 0 ∧ ∃ bd bm nd nm, ∃ cv : Nat → Value, sv = .agg #[.map (some bd), .map (some bm)] ∧ MapD w' bd nd (bookK l0 cv l0.length) ∧ MapS w' bm nm (laidF (overP l1)) ∧ (∀ k (hk : k < l0.length), TxtsAt S w' (cv k) l0[k].choices) ∧ nd ≤ 100 ∧ nm ≤ 2000 ∧ B ≤ bd ∧ B ≤ bm)
theorem long2_int (a b : Nat) : (decide ((4096 : Int) < (a : Int)) || decide ((4096 : Int) < (b : Int))) = decide (4096 < a ∨ 4096 < b) := by
  rw [Bool.eq_iff_iff]
  simp only [decide_eq_true_eq, Bool.or_eq_true]
  omega
set_option maxRecDepth 100000 in
set_option maxHeartbeats 16000000 in
theorem implBook {S : Nat → Prop} {l0 : List Rule} {l1 : List Layer} {v0 v1 : Value} {w : World} (hS : ∀ b, S b → b < w.heap.size) (h0 : RulesAt S w v0 l0) (hl0 : l0.length ≤ 1048576) (hok0 : ∀ x ∈ l0, RulesOK 1048576 x) (h1 : LayersAt S w v1 l1) (hl1 : l1.length ≤ 1048576) (hok1 : ∀ x ∈ l1, LayersOK 1048576 x) (hT : ∀ W, Below w.heap.size w W → Lib.Utf8Tabs 0 1 W) :
    Calls Tryz.prog 51 #[v0, v1] w fun e w' => (∃ sv, e = .returned (.tuple #[sv, .int .i64 (bookC l0 l1)]) ∧ BookOut S l0 l1 w.heap.size w' sv) ∧ Below w.heap.size w w' := by
  obtain ⟨a1, cap1, hv1⟩ := h1.shape
  have m0 : (l0.length : Int) ≤ 1048576 := by omega
  have m1 : (l1.length : Int) ≤ 1048576 := by omega
  have hbA : Below w.heap.size w ((w.alloc (.cells #[.map none, .map none] 97)).alloc (.cells #[.int .i64 (l0.length : Int), .int .i64 (l1.length : Int)] 3)) := ((Below.refl _ w).alloc (Nat.le_refl _) _).alloc (by simp) _
  have hk0 : Blk ((w.alloc (.cells #[.map none, .map none] 97)).alloc (.cells #[.int .i64 (l0.length : Int), .int .i64 (l1.length : Int)] 3)) w.heap.size 97 #[.map none, .map none] := Blk.below (show Blk (w.alloc (.cells #[.map none, .map none] 97)) w.heap.size 97 _ from heap_alloc_last w _) ((Below.refl _ _).alloc (Nat.le_refl _) _)
  obtain ⟨t0, t1⟩ := two_newI (w.alloc (.cells #[.map none, .map none] 97)) (l0.length : Int) (l1.length : Int) (w.heap.size + 1) (by simp)
  have cl2 := implLong2 (l0.length : Int) (l1.length : Int) (w.heap.size + 1) _ t0 t1
  rw [long2_int] at cl2
  have cl : Calls Tryz.prog 18 #[.slice (some ⟨w.heap.size + 1, 0, none⟩) 2 2] ((w.alloc (.cells #[.map none, .map none] 97)).alloc (.cells #[.int .i64 (l0.length : Int), .int .i64 (l1.length : Int)] 3)) fun e w' => e = .returned (.bool (decide (4096 < l0.length ∨ 4096 < l1.length))) ∧ Below w.heap.size w w' ∧ Blk w' w.heap.size 97 #[.map none, .map none] :=
    cl2.mono fun e w' ⟨he, hw⟩ => ⟨he, by rw [hw]; exact hbA, by rw [hw]; exact hk0⟩
  clear cl2 t0 t1 hbA hk0
  have c0 := fun W (hW : Below w.heap.size w W) => implRules (w := W) (fun b hb => Nat.lt_of_lt_of_le (hS b hb) hW.size) (h0.keep (cells_below hS hW)) hok0 (fun W' hW' => hT W' (good_below hW hW'))
  have c1 := fun W (hW : Below w.heap.size w W) => implLayers (w := W) (fun b hb => Nat.lt_of_lt_of_le (hS b hb) hW.size) (h1.keep (cells_below hS hW)) hok1 (hT _ hW)
  have HS : Hid (∀ b, S b → b < w.heap.size) := hS
  by_cases hlw : 4096 < l0.length ∨ 4096 < l1.length
  · have hc : bookC l0 l1 = 2 := by unfold bookC; rw [if_pos hlw]
    rw [decide_eq_true hlw] at cl
    have HC : Hid (bookC l0 l1 = 2) := hc
    rw [hc]
    obtain ⟨a0, cap0, hv0⟩ := h0.shape
    subst hv0 hv1
    clear h0 h1 hok0 hok1 hS hT c0 c1 hlw hc
    go_enter Tryz.func51, Tryz.ntmps51
    go_wp2_with (go_at_call 18; go_must (refine cl.mono ?_; rintro e w1 ⟨rfl, hb1, hk1⟩; have f0 := hk1.fro 0; have f1 := hk1.fro 1; have r0 := hk1.cell 0; have r1 := hk1.cell 1; simp at r0 r1))
    have s1 := (hk1.set 0 (.map none)).set 1 (.map none)
    have u0 := s1.cell 0
    have u1 := s1.cell 1
    simp at u0 u1
    refine bodyPost_ret (v := .tuple #[.agg #[.map none, .map none], .int .i64 2]) (by rw [results_cell_tmp Tryz.results51]; simp [go_sem, u0, u1]) rfl ⟨⟨_, rfl, .inl ⟨by rw [HC.out]; decide, rfl⟩⟩, (hb1.setCell (Nat.le_refl _) _).setCell (Nat.le_refl _) _⟩
  rw [decide_eq_false hlw] at cl
  have hcd : bookC l0 l1 = if rulesB l0 && layersB nameOK l1 then 0 else 1 := by unfold bookC; rw [if_neg hlw]
  cases hA : rulesB l0
  · have hc : bookC l0 l1 = 1 := by rw [hcd, hA]; rfl
    have HC : Hid (bookC l0 l1 = 1) := hc
    rw [hc]
    rw [hA] at c0
    obtain ⟨a0, cap0, hv0⟩ := h0.shape
    subst hv0 hv1
    clear h0 h1 hok0 hok1 hS hT c1 hlw hc hcd hA
    go_enter Tryz.func51, Tryz.ntmps51
    go_wp2_with (first
      | (go_at_call 18; go_must (refine cl.mono ?_; rintro e w1 ⟨rfl, hb1, hk1⟩))
      | (go_at_call 19; go_must (refine (c0 _ hb1).mono ?_; rintro e w2 ⟨rfl, hb2⟩; have hk2 := hk1.below hb2; have f0 := hk2.fro 0; have f1 := hk2.fro 1; have r0 := hk2.cell 0; have r1 := hk2.cell 1; simp at r0 r1)))
    have s1 := (hk2.set 0 (.map none)).set 1 (.map none)
    have u0 := s1.cell 0
    have u1 := s1.cell 1
    simp at u0 u1
    refine bodyPost_ret (v := .tuple #[.agg #[.map none, .map none], .int .i64 1]) (by rw [results_cell_tmp Tryz.results51]; simp [go_sem, u0, u1]) rfl ⟨⟨_, rfl, .inl ⟨by rw [HC.out]; decide, rfl⟩⟩, ((good_below hb1 hb2).setCell (Nat.le_refl _) _).setCell (Nat.le_refl _) _⟩
  rw [hA] at c0
  cases hB : layersB nameOK l1
  · have hc : bookC l0 l1 = 1 := by rw [hcd, hA, hB]; rfl
    have HC : Hid (bookC l0 l1 = 1) := hc
    rw [hc]
    rw [hB] at c1
    obtain ⟨a0, cap0, hv0⟩ := h0.shape
    subst hv0 hv1
    clear h0 h1 hok0 hok1 hS hT hlw hc hcd hA hB
    go_enter Tryz.func51, Tryz.ntmps51
    go_wp2_with (first
      | (go_at_call 18; go_must (refine cl.mono ?_; rintro e w1 ⟨rfl, hb1, hk1⟩))
      | (go_at_call 19; go_must (refine (c0 _ hb1).mono ?_; rintro e w2 ⟨rfl, hb2⟩; have hk2 := hk1.below hb2; have hb2' := good_below hb1 hb2))
      | (go_at_call 20; go_must (refine (c1 _ hb2').mono ?_; rintro e w3 ⟨rfl, hb3⟩; have hk3 := hk2.below hb3; have f0 := hk3.fro 0; have f1 := hk3.fro 1; have r0 := hk3.cell 0; have r1 := hk3.cell 1; simp at r0 r1)))
    have s1 := (hk3.set 0 (.map none)).set 1 (.map none)
    have u0 := s1.cell 0
    have u1 := s1.cell 1
    simp at u0 u1
    refine bodyPost_ret (v := .tuple #[.agg #[.map none, .map none], .int .i64 1]) (by rw [results_cell_tmp Tryz.results51]; simp [go_sem, u0, u1]) rfl ⟨⟨_, rfl, .inl ⟨by rw [HC.out]; decide, rfl⟩⟩, ((good_below hb2' hb3).setCell (Nat.le_refl _) _).setCell (Nat.le_refl _) _⟩
  rw [hB] at c1
  have hc : bookC l0 l1 = 0 := by rw [hcd, hA, hB]; rfl
  have HC : Hid (bookC l0 l1 = 0) := hc
  rw [hc]
  have hl100 : l0.length ≤ 100 := (rules_all hA).1
  have hl100' : (l0.length : Int) ≤ 100 := by omega
  have hpz : ∀ x ∈ l0, x.path.size ≤ 1048576 := fun x hx => by have := hok0 x hx; unfold RulesOK at this; omega
  have HPZ : Hid (∀ x ∈ l0, x.path.size ≤ 1048576) := hpz
  have cm := fun W (hW : Below w.heap.size w W) => implMergedR (w := W) (fun b hb => Nat.lt_of_lt_of_le (hS b hb) hW.size) (h1.keep (cells_below hS hW)) hB
  obtain ⟨O, hO⟩ : ∃ O, laidF (overP l1) = O := ⟨_, rfl⟩
  rw [hO] at cm
  have HO : Hid (laidF (overP l1) = O) := hO
  obtain ⟨a0, cap0, cv, hv0, hcv, hrow⟩ := rules_cv h0
  have HCV : Hid (∀ k (hk : k < l0.length), TxtsAt S w (cv k) l0[k].choices) := hcv
  have HROW : Hid _ := hrow
  have hmm := @run_makeMap Tryz.prog
  subst hv0 hv1
  clear h0 h1 hok0 hok1 hS hT hlw hc hcd hA hB hO hcv hrow hpz
  go_enter Tryz.func51, Tryz.ntmps51
  go_wp2_with (first
    | (go_at_call 18; go_must (refine cl.mono ?_; rintro e w1 ⟨rfl, hb1, hk1⟩))
    | (go_at_call 19; go_must (refine (c0 _ hb1).mono ?_; rintro e w2 ⟨rfl, hb2⟩; have hk2 := hk1.below hb2; have hb2' := good_below hb1 hb2))
    | (go_at_call 20; go_must (refine (c1 _ hb2').mono ?_; rintro e w3 ⟨rfl, hb3⟩; have hk3 := hk2.below hb3; have hb3' := good_below hb2' hb3; have hbm := hb3'.alloc hb3'.size (.map #[] 0); have md := MapD.made w3))
    | (go_at_call 87; go_must (refine (cm _ hbm).mono ?_; rintro e w5 ⟨⟨bm, nm, rfl, hms, hbb, hnm⟩, hb5⟩; have md5 := md.below hb5)))
  have hlt3 : w.heap.size < w3.heap.size := hk3.lt
  have hb35 : Below w3.heap.size w3 w5 := good_below ((Below.refl _ w3).alloc (Nat.le_refl _) _) hb5
  have hsz5 := hb5.size
  simp only [World.size_alloc] at hsz5 hbb
  have hbmlt := hms.lt
  obtain ⟨W0, hW0⟩ : ∃ W0, w5.alloc (.cells #[.map (some w3.heap.size), .map (some bm)] 97) = W0 := ⟨_, rfl⟩
  have hbW0 : Below w5.heap.size w5 W0 := by rw [← hW0]; exact (Below.refl _ w5).alloc (Nat.le_refl _) _
  have k1 : Blk W0 w5.heap.size 97 #[.map (some w3.heap.size), .map (some bm)] := by rw [← hW0]; exact heap_alloc_last w5 _
  have HK1 : Hid (Blk W0 w5.heap.size 97 #[.map (some w3.heap.size), .map (some bm)]) := k1
  have HMD : Hid (MapD W0 w3.heap.size 0 (bookK l0 cv 0)) := (md5.below hbW0)
  have HMS : Hid (MapS W0 bm nm O) := hms.below hbW0
  have HB0 : Hid (Below w3.heap.size w3 W0) := good_below hb35 hbW0
  have HB3 : Hid (Below w.heap.size w w3) := hb3'
  have HK3 : Hid (Blk w3 w.heap.size 97 #[.map none, .map none]) := hk3
  have HW0 : Hid (w5.alloc (.cells #[.map (some w3.heap.size), .map (some bm)] 97) = W0) := hW0
  clear k1 hbW0 hW0 md md5 hms hb35 hb5 hk1 hk2 hk3 hb1 hb2 hb2' hb3 hb3' hbm cl c0 c1 cm
  go_loopw [31] (fun i31 wr => ∃ (k : Nat), i31 = .int .i64 (k : Int) ∧ k ≤ l0.length ∧ Blk wr w5.heap.size 97 #[.map (some w3.heap.size), .map (some bm)] ∧ MapD wr w3.heap.size k (bookK l0 cv k) ∧ MapS wr bm nm O ∧ Below w3.heap.size w3 wr) (fun i31 _ => l0.length - (intOf i31).toNat)
  case atStart =>
    rw [HW0.out]
    exact ⟨0, rfl, by omega, HK1.out, HMD.out, HMS.out, HB0.out⟩
  case round =>
    obtain ⟨k, rfl, hk, hbx, hmd, hms, hb⟩ := hrel
    have hbw := good_below HB3.out hb
    have hs3 := hb.size
    by_cases hkn : k < l0.length
    · have hkn' : (k : Int) < (l0.length : Int) := by omega
      obtain ⟨b, off, rfl, hbS, hcell⟩ := HROW.out (by omega)
      obtain ⟨x0, x1, x2, x3, x5, x6, x4⟩ := hcell k hkn
      have hbl := HS.out b hbS
      have d0 := (hbw.cell (p := ⟨b, off + k * 7, none⟩) hbl).trans x0
      have d1 := (hbw.cell (p := ⟨b, off + k * 7 + 1, none⟩) hbl).trans x1
      have d2 := (hbw.cell (p := ⟨b, off + k * 7 + 2, none⟩) hbl).trans x2
      have d3 := (hbw.cell (p := ⟨b, off + k * 7 + 3, none⟩) hbl).trans x3
      have d4 := (hbw.cell (p := ⟨b, off + k * 7 + 4, none⟩) hbl).trans x4
      have d5 := (hbw.cell (p := ⟨b, off + k * 7 + 5, none⟩) hbl).trans x5
      have d6 := (hbw.cell (p := ⟨b, off + k * 7 + 6, none⟩) hbl).trans x6
      have hz := HPZ.out l0[k] (List.getElem_mem hkn)
      obtain ⟨za, zc, hzv⟩ := (HCV.out k hkn).shape
      have hstep := fun (W : World) (D : DataW Value) (x : Rule) (hx : l0[k] = x) => MapD.step (w' := W) (b := w3.heap.size) (n := k + 1) (D := D) (cv := cv) hkn hx
      obtain ⟨x, hx⟩ : ∃ x, l0[k] = x := ⟨_, rfl⟩
      have hstep2 := fun W D => hstep W D x hx
      rw [hx] at d0 d1 d2 d3 d5 d6 hz hzv
      rw [hzv] at d4
      rw [hzv] at hstep2
      obtain ⟨xp, xk, xi, xa, xc, xm, xd⟩ := x
      dsimp only at d0 d1 d2 d3 d4 d5 d6 hz hstep2
      unfold dVal at hstep2
      dsimp only at hstep2
      obtain ⟨D, hown, hrep⟩ := hmd
      have bA : Below wr.heap.size wr (wr.alloc (.cells #[.string xp, .int .i64 xk, .int .i64 xi, .int .i64 xa, .slice za xc.length zc, .bool xm, .string xd] 68)) := (Below.refl _ wr).alloc (Nat.le_refl _) _
      have kA : Blk (wr.alloc (.cells #[.string xp, .int .i64 xk, .int .i64 xi, .int .i64 xa, .slice za xc.length zc, .bool xm, .string xd] 68)) wr.heap.size 68 #[.string xp, .int .i64 xk, .int .i64 xi, .int .i64 xa, .slice za xc.length zc, .bool xm, .string xd] := heap_alloc_last wr _
      have e0 := (hbx.below bA).cell 0
      simp at e0
      have HOWA : Hid ((wr.alloc (.cells #[.string xp, .int .i64 xk, .int .i64 xi, .int .i64 xa, .slice za xc.length zc, .bool xm, .string xd] 68)).ownsMap Tryz.prog 9 heldD w3.heap.size k D) := hown.kept (World.grownBy_alloc wr _ none) (by simp)
      have HBXA : Hid (Blk (wr.alloc (.cells #[.string xp, .int .i64 xk, .int .i64 xi, .int .i64 xa, .slice za xc.length zc, .bool xm, .string xd] 68)) w5.heap.size 97 #[.map (some w3.heap.size), .map (some bm)]) := hbx.below bA
      have HMSA : Hid (MapS (wr.alloc (.cells #[.string xp, .int .i64 xk, .int .i64 xi, .int .i64 xa, .slice za xc.length zc, .bool xm, .string xd] 68)) bm nm O) := hms.below bA
      have HBA : Hid (Below w3.heap.size w3 (wr.alloc (.cells #[.string xp, .int .i64 xk, .int .i64 xi, .int .i64 xa, .slice za xc.length zc, .bool xm, .string xd] 68))) := good_below hb bA
      have HREP : Hid (RepD D (bookK l0 cv k)) := hrep
      have hkey : keyOf Tryz.prog 9 (.string xp) = some (textKey xp) := key9 (by simp [maxLen]; omega)
      have HST2 : Hid _ := hstep2
      have hsA : (wr.alloc (.cells #[.string xp, .int .i64 xk, .int .i64 xi, .int .i64 xa, .slice za xc.length zc, .bool xm, .string xd] 68)).heap.size = wr.heap.size + 1 := by simp
      clear hstep hstep2 hx hcell x0 x1 x2 x3 x4 x5 x6 hown hrep hbx hms bA kA hzv
      go_wp2_with (first
        | (at_mapUpdate; go_must (refine wpList_mapUpdate_own _ rfl _ _ _ 93 rfl 9 86 law9 Tryz.underlying93 _ w3.heap.size k _ rfl HOWA.out (by simp [maxLen]; omega) _ _ (textKey xp) rfl rfl hkey (.held (dVal ⟨xp, xk, xi, xa, xc, xm, xd⟩ (.slice za xc.length zc))) [] (heldD_mk ⟨xp, xk, xi, xa, xc, xm, xd⟩ za xc.length zc) ?_; intro w7 hown7 hg7)))
      have b7 := HBA.out.grown hg7 HBA.out.size (fun j hj => by cases hj; exact Nat.le_refl _)
      refine ⟨⟨k + 1, by go_num, by omega, HBXA.out.kept hg7 (by simp; omega), HST2.out _ _ hown7 HOWA.out.isMap HREP.out, HMSA.out.kept hg7 (by simp; omega), b7⟩, by simp [intOf]; omega⟩
    · obtain rfl : k = l0.length := by omega
      have hkn' : ¬ ((l0.length : Int) < (l0.length : Int)) := by omega
      have e0 := hbx.cell 0
      have e1 := hbx.cell 1
      simp at e0 e1
      have hk9 := HK3.out.below hb
      have f0 := hk9.fro 0
      have f1 := hk9.fro 1
      have r0 := hk9.cell 0
      have r1 := hk9.cell 1
      simp at r0 r1
      have HBX : Hid _ := hbx
      have HMD2 : Hid (MapD wr w3.heap.size l0.length (bookK l0 cv l0.length)) := hmd
      have HMS2 : Hid (MapS wr bm nm O) := hms
      have HK9 : Hid (Blk wr w.heap.size 97 #[.map none, .map none]) := hk9
      clear hbx hmd hms hk9
      go_wp2_with fail
      have s1 := (HK9.out.set 0 (.map (some w3.heap.size))).set 1 (.map (some bm))
      have u0 := s1.cell 0
      have u1 := s1.cell 1
      simp at u0 u1
      have g1 := set_grown wr w.heap.size 0 (.map (some w3.heap.size))
      have g2 := set_grown (wr.setCell ⟨w.heap.size, 0, none⟩ (.map (some w3.heap.size))) w.heap.size 1 (.map (some bm))
      have hbF := (hbw.setCell (p := ⟨w.heap.size, 0, none⟩) (Nat.le_refl _) (.map (some w3.heap.size))).setCell (p := ⟨w.heap.size, 1, none⟩) (Nat.le_refl _) (.map (some bm))
      have mdF := (HMD2.out.kept g1 (by simp; omega)).kept g2 (by simp; omega)
      have msF := (HMS2.out.kept g1 (by simp; omega)).kept g2 (by simp; omega)
      refine bodyPost_ret (v := .tuple #[.agg #[.map (some w3.heap.size), .map (some bm)], .int .i64 0]) (by rw [results_cell_tmp Tryz.results51]; simp [go_sem, u0, u1]) rfl ⟨⟨_, rfl, .inr ⟨HC.out, w3.heap.size, bm, _, nm, cv, rfl, mdF, by rw [HO.out]; exact msF, fun j hj => (HCV.out j hj).keep (cells_below HS.out hbF), by omega, by omega, by omega, by omega⟩⟩, hbF⟩
end Go.Proofs.YtdlopjimheaekaaGreatDoor

namespace Go.Proofs.YtdlopjimheaekaaGreatDoor
open Go.ChangeShapes Go.WideShapes Go.ChangeAt Go.RowKit Go.Maps
set_option linter.unusedVariables false
set_option linter.unusedSimpArgs false

theorem laySteps_word (nm : ByteArray) : ∀ (es : List Entry) (out : List Setting), (∀ e ∈ es, e.text.size ≤ 200) → (∀ o ∈ out, o.text.size ≤ 200) → ∀ o ∈ es.foldl (layStep nm) out, o.text.size ≤ 200
  | [], out, _, h => h
  | e :: es, out, he, h => by
    rw [List.foldl_cons]
    exact laySteps_word nm es _ (fun y hy => he y (List.mem_cons_of_mem _ hy)) (layStep_mem (P := fun o => o.text.size ≤ 200) h (he e (List.mem_cons_self ..)))
theorem laidFold_word : ∀ (l : List Layer) (out : List Setting), (∀ x ∈ l, ∀ e ∈ x.entries, e.text.size ≤ 200) → (∀ o ∈ out, o.text.size ≤ 200) → ∀ o ∈ l.foldl layLayer out, o.text.size ≤ 200
  | [], out, _, h => h
  | x :: l, out, hx, h => by
    rw [List.foldl_cons]
    exact laidFold_word l _ (fun y hy => hx y (List.mem_cons_of_mem _ hy)) (laySteps_word x.name x.entries out (hx x (List.mem_cons_self ..)) h)
theorem layers_word {l : List Layer} (h : layersB nameOK l = true) : ∀ x ∈ l, ∀ e ∈ x.entries, e.text.size ≤ 200 := by
  have h20 : l.length ≤ 20 := (layers_fine h).1
  rw [layers_split nameOK l h20] at h
  simp only [Bool.and_eq_true, Bool.not_eq_true'] at h
  intro x hx e he
  have hx2 := List.all_eq_true.1 h.1 x hx
  simp only [Bool.and_eq_true, decide_eq_true_eq] at hx2
  have he2 := hx2.2
  rw [entries_split] at he2
  simp only [Bool.and_eq_true] at he2
  have := List.all_eq_true.1 he2.1 e he
  exact of_decide_eq_true this
theorem laid_word {l : List Layer} (h : layersB nameOK l = true) : ∀ o ∈ laidF (overP l), o.text.size ≤ 200 :=
  laidFold_word (overP l) [] (fun x hx => layers_word h x (overP_mem hx)) (fun o ho => by cases ho)
theorem bookC_cases (l0 : List Rule) (l1 : List Layer) : bookC l0 l1 = 2 ∨ bookC l0 l1 = 1 ∨ (bookC l0 l1 = 0 ∧ rulesB l0 = true ∧ layersB nameOK l1 = true) := by
  unfold bookC
  by_cases h : 4096 < l0.length ∨ 4096 < l1.length
  · rw [if_pos h]; exact .inl rfl
  · rw [if_neg h]
    cases hA : rulesB l0 <;> cases hB : layersB nameOK l1 <;> simp
end Go.Proofs.YtdlopjimheaekaaGreatDoor
