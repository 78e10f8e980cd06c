/-
  What the program's hear does. No statement of the seat is proved here.
-/
import Derived.Test.YtbpijollcjdkhaaDoorL7
import Derived.Test.YtbpijollcjdkhaaDoorK9
namespace Go.Proofs.YtbpijollcjdkhaaDoor
open Go.ChangeShapes Go.WideShapes Go.ChangeAt Go.RowKit
set_option linter.unusedVariables false
set_option linter.unusedSimpArgs false

section
variable {S : Nat → Prop} {B : Nat} {l : List Step} {a : Option Addr} {cap g gp : Nat} {rv : Value} {reps : List Int} {dv cv : Value} {w0 w : World} {s : Sg}
def overB (s : Sg) : Bool := decide (s.st ≠ 1) && decide (s.st ≠ 2)
set_option maxRecDepth 100000 in
theorem implOver (h : RunI S B l a cap g gp rv reps dv cv w0 w s) :
    Calls Tryd.prog 54 #[.pointer (some ⟨g, 0, none⟩)] w fun e w' => e = .returned (.bool (overB s)) ∧ w' = w := by
  have c1 := h.blk.cell 1
  simp at c1
  unfold overB
  obtain ⟨st, hst⟩ : ∃ st, s.st = st := ⟨_, rfl⟩
  rw [hst] at c1 ⊢
  clear h hst
  by_cases h1 : st = 1
  · subst h1
    go_enter Tryd.func54, Tryd.ntmps54
    go_wp2_with fail
    go_ret
    exact ⟨by simp, rfl⟩
  · have h1' : (st != 1) = true := by simp [h1]
    go_enter Tryd.func54, Tryd.ntmps54
    go_wp2_with fail
    go_ret
    refine ⟨?_, rfl⟩
    by_cases h2 : st = 2 <;> simp [h1, h2]
theorem eq_nil (w : World) : (binOp .eql 85 .nilFunc .nilFunc).run Tryd.prog w = .ok (.bool true) w := by kernel_rfl
theorem eq_func (f : Nat) (w : World) : (binOp .eql 85 (.func (.func f) #[] #[]) .nilFunc).run Tryd.prog w = .ok (.bool false) w := by kernel_rfl
theorem move_fits {x k : Int} (hk : k = 1 ∨ k = 2 ∨ k = 3 ∨ k = 4) (h : x ≠ wantI k) : moveV x k = .nilFunc := by
  unfold moveV
  unfold wantI at h
  rcases hk with rfl | rfl | rfl | rfl <;> simp at h ⊢ <;> omega
set_option maxRecDepth 100000 in
set_option maxHeartbeats 8000000 in
theorem implHear (h : RunI S B l a cap g gp rv reps dv cv w0 w s) (ms : ByteArray) (mk : Int) (hc : s.cmds.length ≤ 700000) :
    Calls Tryd.prog 27 #[.pointer (some ⟨g, 0, none⟩), .agg #[.string ms, .int .i64 mk]] w fun e w' => e = .returned (.int .i64 (codeS l s ⟨ms, mk⟩)) ∧ ∃ dv' cv', RunI S B l a cap g gp rv reps dv' cv' w0 w' (hearS l s ⟨ms, mk⟩) := by
  have hl : l.length ≤ 20 := h.saga.len.2
  have hl' : (l.length : Int) ≤ 20 := by omega
  have hA : Below w.heap.size w (w.alloc (.cells #[.string ms, .int .i64 mk] 53)) := (Below.refl _ w).alloc (Nat.le_refl _) _
  have kb : Blk (w.alloc (.cells #[.string ms, .int .i64 mk] 53)) w.heap.size 53 #[.string ms, .int .i64 mk] := heap_alloc_new w _
  have HRA := h.go hA
  have HC : Hid (s.cmds.length ≤ 700000) := hc
  obtain ⟨bx, hbx⟩ : ∃ bx, w.heap.size = bx := ⟨_, rfl⟩
  obtain ⟨C, hC⟩ : ∃ C, codeS l s ⟨ms, mk⟩ = C := ⟨_, rfl⟩
  obtain ⟨R, hR⟩ : ∃ R, hearS l s ⟨ms, mk⟩ = R := ⟨_, rfl⟩
  rw [hC, hR]
  have HCC : Hid (codeS l s ⟨ms, mk⟩ = C) := hC
  have HRC : Hid (hearS l s ⟨ms, mk⟩ = R) := hR
  clear h hc hA hC hR
  go_enter Tryd.func27, Tryd.ntmps27
  go_upto_region 1 with fail
  obtain ⟨wa, hwa⟩ : ∃ wa, w.alloc (.cells #[.string ms, .int .i64 mk] 53) = wa := ⟨_, rfl⟩
  rw [hwa] at HRA kb ⊢
  rw [hbx] at kb
  clear hwa hbx
  have cf := implFind HRA ms
  have pm := kb.cell 0
  simp at pm
  have HKB : Hid (Blk wa bx 53 #[.string ms, .int .i64 mk]) := kb
  have HR1 : Hid (RunI S B l a cap g gp rv reps dv cv w0 wa s) := HRA
  clear kb HRA
  by_cases hneg : findI (names l) ms < 0
  case pos =>
    obtain ⟨e1, e2⟩ := code_none (l := l) (s := s) (m := ⟨ms, mk⟩) hneg
    rw [HCC.out] at e1
    rw [HRC.out] at e2
    subst e1
    subst e2
    clear HCC HRC
    obtain ⟨fi, hfi⟩ : ∃ fi, findI (names l) ms = fi := ⟨_, rfl⟩
    rw [hfi] at hneg cf
    clear hfi
    go_wp2_with (go_at_call 52; go_must (refine cf.mono ?_; rintro e w1 ⟨rfl, hb1⟩))
    (try simp only [Exit.inBlock, Exit.then])
    go_ret
    exact ⟨rfl, dv, cv, HR1.out.go hb1⟩
  obtain ⟨hjl, hj⟩ := find_lt (Int.not_lt.1 hneg)
  have K1 := code_kind (l := l) (s := s) (m := ⟨ms, mk⟩) hneg
  have K2 := code_over (l := l) (s := s) (m := ⟨ms, mk⟩) hneg
  have K3 := code_not (l := l) (s := s) (m := ⟨ms, mk⟩) hneg
  have K4 := code_fits (l := l) (s := s) (m := ⟨ms, mk⟩) hneg
  rw [HCC.out, HRC.out] at K1 K2 K3 K4
  clear HCC HRC hneg
  dsimp only at K1 K2 K3 K4
  rw [← hj] at cf
  obtain ⟨j, hjj⟩ : ∃ j, numOf l ms = j := ⟨_, rfl⟩
  rw [hjj] at hjl K3 K4 cf
  clear hj hjj
  have hjl' : (j : Int) < (l.length : Int) := by omega
  have hj0 : ¬ ((j : Int) < 0) := by omega
  go_upto_region 4 with (go_at_call 52; go_must (refine cf.mono ?_; rintro e w1 ⟨rfl, hb1⟩))
  clear cf pm
  have H2 := HR1.out.go hb1
  have kb2 := Blk.below HKB.out hb1
  have k1 := kb2.cell 1
  simp at k1
  have HR2 : Hid (RunI S B l a cap g gp rv reps dv cv w0 w1 s) := H2
  have HKB2 : Hid (Blk w1 bx 53 #[.string ms, .int .i64 mk]) := kb2
  have cb := implBetween mk 1 4 w1
  clear HR1 HKB kb2 hb1
  by_cases hm : mk < 1 ∨ 4 < mk
  case pos =>
    obtain ⟨rfl, rfl⟩ := K1 hm
    have hbt : (decide (1 ≤ mk) && decide (mk ≤ 4)) = false := by
      rcases hm with h1 | h1
      · rw [decide_eq_false (by omega : ¬ 1 ≤ mk)]; rfl
      · rw [decide_eq_false (by omega : ¬ mk ≤ 4), Bool.and_false]
    rw [hbt] at cb
    clear K1 K2 K3 K4 H2 hbt
    go_wp2_with (go_at_call 49; go_must (refine cb.mono ?_; rintro e w2 ⟨rfl, hq⟩; obtain rfl := hq.symm; clear hq))
    (try simp only [Exit.inBlock, Exit.then])
    go_ret
    exact ⟨rfl, dv, cv, HR2.out⟩
  have hbt : (decide (1 ≤ mk) && decide (mk ≤ 4)) = true := by
    rw [decide_eq_true (by omega : 1 ≤ mk), decide_eq_true (by omega : mk ≤ 4)]; rfl
  rw [hbt] at cb
  have K2' := K2 hm
  have K3' := K3 hm
  have K4' := K4 hm
  have hmk : mk = 1 ∨ mk = 2 ∨ mk = 3 ∨ mk = 4 := by omega
  clear K1 K2 K3 K4 hbt hm
  go_upto_region 6 with (go_at_call 49; go_must (refine cb.mono ?_; rintro e w2 ⟨rfl, hq⟩; obtain rfl := hq.symm; clear hq))
  clear cb k1
  have hrg := H2.rng j
  obtain ⟨x, hx⟩ : ∃ x, isAt s j = x := ⟨_, rfl⟩
  rw [hx] at hrg K3' K4'
  have HX : Hid (isAt s j = x) := hx
  have hx5 : x = 0 ∨ x = 1 ∨ x = 2 ∨ x = 3 ∨ x = 4 := by omega
  have cm := fun N : GoodW (fun W => Below w1.heap.size w1 W) => implMoveOf x mk hx5 hmk N.W
  have p2 := fun N : GoodW (fun W => Below w1.heap.size w1 W) => (H2.go N.ok).blk.cell 2
  have p3 := fun N : GoodW (fun W => Below w1.heap.size w1 W) => ((H2.go N.ok).isCell j hjl).1
  have p1 := fun N : GoodW (fun W => Below w1.heap.size w1 W) => (Blk.below HKB2.out N.ok).cell 1
  simp only [hx] at p3
  simp at p1 p2
  haveI ne : Nonempty (GoodW (fun W => Below w1.heap.size w1 W)) := ⟨⟨_, Below.refl _ _⟩⟩
  obtain ⟨mv, hmv⟩ : ∃ mv, moveV x mk = mv := ⟨_, rfl⟩
  simp only [hmv] at cm
  have HMV : Hid (moveV x mk = mv) := hmv
  clear H2 hx hrg hmv
  refine wp_region_calm (fun W => Below w1.heap.size w1 W) (by kernel_rfl) (by kernel_rfl) (Below.refl _ _).drew ?_
  repeat (go_big_quiet_step ((go_at_call 53; exact Calls.calm _ (fun _ hb => good_below (GoodW.ok _) hb) (cm _))))
  refine wpQuiet_nil ?_
  rintro W2 ⟨⟨W3, hW3⟩, hWe⟩
  have hW2 : Below w1.heap.size w1 W2 := hWe ▸ hW3
  clear hWe hW3 cm p1 p2 p3 ne
  have H3 := HR2.out.go hW2
  have HR3 : Hid (RunI S B l a cap g gp rv reps dv cv w0 W2 s) := H3
  have cov := implOver H3
  obtain ⟨ov, hov⟩ : ∃ ov, overB s = ov := ⟨_, rfl⟩
  rw [hov] at cov
  clear HR2 HKB2 hW2
  cases ov
  case true =>
    have hst : s.st ≠ 1 ∧ s.st ≠ 2 := by unfold overB at hov; simpa using hov
    obtain ⟨rfl, rfl⟩ := K2' hst
    clear K2' K3' K4' hov hst H3
    go_wp2_with (go_at_call 54; go_must (refine cov.mono ?_; rintro e w3 ⟨rfl, hq⟩; obtain rfl := hq.symm; clear hq))
    go_ret
    exact ⟨rfl, dv, cv, HR3.out⟩
  have hst : ¬ (s.st ≠ 1 ∧ s.st ≠ 2) := by unfold overB at hov; intro hh; simp [hh.1, hh.2] at hov
  have hst' : s.st = 1 ∨ s.st = 2 := by omega
  have K3 := K3' hst
  have K4 := K4' hst
  clear K2' K3' K4' hov hst
  by_cases hne : x = wantI mk
  case neg =>
    obtain ⟨rfl, rfl⟩ := K3 hne
    have hmv := HMV.out
    rw [move_fits hmk hne] at hmv
    subst hmv
    clear K3 K4 H3
    have hqn := fun w => eq_nil w
    go_wp2_with (go_at_call 54; go_must (refine cov.mono ?_; rintro e w3 ⟨rfl, hq⟩; obtain rfl := hq.symm; clear hq))
    go_ret
    exact ⟨rfl, dv, cv, HR3.out⟩
  obtain ⟨rfl, hRR⟩ := K4 (by rw [hne]; simp)
  have HRR : Hid (R = goOnS l (moveS l s j mk)) := hRR
  have hin2 : x ≠ 2 := by rw [hne]; unfold wantI; split <;> omega
  have HNO : Hid (j ∉ s.done) := H3.ok.not (by rw [HX.out]; exact hin2)
  have HOM : Hid (Ok l (moveS l s j mk)) := H3.ok.move H3.saga.tries hjl mk (by rw [HX.out]; exact hin2)
  have HMC : Hid ((moveS l s j mk).cmds.length ≤ 800000) := by have := move_cmds l s j mk; have := HC.out; show _ ≤ _; omega
  have hcm : s.cmds.length ≤ 900000 := by have := HC.out; omega
  clear K3 K4 hRR hin2 H3
  have hmv := HMV.out
  rcases hmk with rfl | rfl | rfl | rfl <;> simp only [wantI] at hne <;> simp at hne <;> subst hne <;> simp [moveV] at hmv <;> subst hmv
  case inl =>
    have cmv := implFinish HR3.out j hjl HNO.out HOM.out hcm
    have hqf := fun f w => eq_func f w
    go_upto_region 10 with (first
      | (go_at_call 54; go_must (refine cov.mono ?_; rintro e w3 ⟨rfl, hq⟩; obtain rfl := hq.symm; clear hq))
      | (go_at_call 69; go_must (refine cmv.mono ?_; rintro e w4 ⟨rfl, dv4, cv4, H4⟩)))
    have co := implGoOn H4 HMC.out
    go_wp2_with (go_at_call 51; go_must (refine co.mono ?_; rintro e w5 ⟨rfl, dv5, cv5, H5⟩))
    go_ret
    refine ⟨rfl, dv5, cv5, ?_⟩
    rw [HRR.out]; exact H5
  case inr.inl =>
    have cmv := implFail HR3.out j hjl HNO.out HOM.out hcm
    have hqf := fun f w => eq_func f w
    go_upto_region 10 with (first
      | (go_at_call 54; go_must (refine cov.mono ?_; rintro e w3 ⟨rfl, hq⟩; obtain rfl := hq.symm; clear hq))
      | (go_at_call 70; go_must (refine cmv.mono ?_; rintro e w4 ⟨rfl, dv4, cv4, H4⟩)))
    have co := implGoOn H4 HMC.out
    go_wp2_with (go_at_call 51; go_must (refine co.mono ?_; rintro e w5 ⟨rfl, dv5, cv5, H5⟩))
    go_ret
    refine ⟨rfl, dv5, cv5, ?_⟩
    rw [HRR.out]; exact H5
  case inr.inr.inl =>
    have cmv := implTake3 HR3.out j hjl HNO.out HOM.out hcm
    have hqf := fun f w => eq_func f w
    go_upto_region 10 with (first
      | (go_at_call 54; go_must (refine cov.mono ?_; rintro e w3 ⟨rfl, hq⟩; obtain rfl := hq.symm; clear hq))
      | (go_at_call 71; go_must (refine cmv.mono ?_; rintro e w4 ⟨rfl, dv4, cv4, H4⟩)))
    have co := implGoOn H4 HMC.out
    go_wp2_with (go_at_call 51; go_must (refine co.mono ?_; rintro e w5 ⟨rfl, dv5, cv5, H5⟩))
    go_ret
    refine ⟨rfl, dv5, cv5, ?_⟩
    rw [HRR.out]; exact H5
  case inr.inr.inr =>
    have cmv := implStick HR3.out j hjl HNO.out HOM.out hcm
    have hqf := fun f w => eq_func f w
    go_upto_region 10 with (first
      | (go_at_call 54; go_must (refine cov.mono ?_; rintro e w3 ⟨rfl, hq⟩; obtain rfl := hq.symm; clear hq))
      | (go_at_call 72; go_must (refine cmv.mono ?_; rintro e w4 ⟨rfl, dv4, cv4, H4⟩)))
    have co := implGoOn H4 HMC.out
    go_wp2_with (go_at_call 51; go_must (refine co.mono ?_; rintro e w5 ⟨rfl, dv5, cv5, H5⟩))
    go_ret
    refine ⟨rfl, dv5, cv5, ?_⟩
    rw [HRR.out]; exact H5
end
end Go.Proofs.YtbpijollcjdkhaaDoor
