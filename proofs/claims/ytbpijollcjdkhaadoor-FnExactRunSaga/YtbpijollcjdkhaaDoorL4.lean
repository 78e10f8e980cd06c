/-
  What the program's goForward, goBack and goOn do. No statement of the seat is proved here.
-/
import Derived.Test.YtbpijollcjdkhaaDoorL3
namespace Go.Proofs.YtbpijollcjdkhaaDoor
open Go.ChangeShapes Go.WideShapes Go.ChangeAt Go.RowKit
set_option linter.unusedVariables false
set_option linter.unusedSimpArgs false

section
variable {S : Nat → Prop} {B : Nat} {l : List Step} {a : Option Addr} {cap g gp : Nat} {rv : Value} {reps : List Int} {dv cv : Value} {w0 w : World} {s : Sg}
set_option maxRecDepth 100000 in
set_option maxHeartbeats 4000000 in
theorem implForward (h : RunI S B l a cap g gp rv reps dv cv w0 w s) (hc : s.cmds.length ≤ 800000) :
    Calls Tryd.prog 65 #[.pointer (some ⟨g, 0, none⟩)] w fun e w' => e = .returned (.tuple #[]) ∧ ∃ cv', RunI S B l a cap g gp rv reps dv cv' w0 w' (fwd l s) := by
  have hl : l.length ≤ 20 := h.saga.len.2
  have hl' : (l.length : Int) ≤ 20 := by omega
  have hdl := done_len h.ok
  have c0 := h.blk.cell 0
  simp at c0
  have HR : Hid (RunI S B l a cap g gp rv reps dv cv w0 w s) := h
  have HC : Hid (s.cmds.length ≤ 800000) := hc
  clear h hc
  go_enter Tryd.func65, Tryd.ntmps65
  go_wp2_with fail
  go_loopw [8] (fun i8 wr => ∃ (k : Nat) (cv' : Value), i8 = .int .i64 (k : Int) ∧ k ≤ l.length ∧ RunI S B l a cap g gp rv reps dv cv' w0 wr (asks l s k)) (fun i8 _ => l.length - (intOf i8).toNat)
  case atStart => exact ⟨0, cv, rfl, by omega, HR.out⟩
  case round =>
    clear c0
    obtain ⟨k, cv', rfl, hk, hR⟩ := hrel
    by_cases hkn : k < l.length
    case neg =>
      obtain rfl : k = l.length := by omega
      have hkn' : ¬ ((l.length : Int) < (l.length : Int)) := by omega
      obtain ⟨da, dc, hdv, -⟩ := hR.done.natCells
      rw [asks_done] at hdv
      have c0 := hR.blk.cell 0
      have c3 := hR.blk.cell 3
      have c1 := hR.blk.cell 1
      have f1 := hR.blk.fro 1
      simp at c0 c1 c3
      rw [hdv] at c3
      by_cases hd : s.done.length = l.length
      · rw [hd] at c3
        have hfw : fwd l s = setSt (asks l s l.length) 3 := by unfold fwd; rw [asks_done, if_pos hd]
        have HFW : Hid (fwd l s = setSt (asks l s l.length) 3) := hfw
        have HH9 : Hid (∀ n, RunI S B l a cap g gp rv reps dv cv' w0 ((wr.drewN n).setCell ⟨g, 1, none⟩ (.int .i64 3)) (setSt (asks l s l.length) 3)) := fun n => (hR.drewN n).putSt 3
        clear hR hfw hd hdv
        go_upto_region 6 with fail
        go_quiet (fail)
        go_wp2_with fail
        go_end0
        refine ⟨rfl, cv', ?_⟩
        rw [HFW.out]; exact HH9.out _
      · have hd' : ¬ ((s.done.length : Int) = (l.length : Int)) := by omega
        have hfw : fwd l s = asks l s l.length := by unfold fwd; rw [asks_done, if_neg hd]
        have HFW : Hid (fwd l s = asks l s l.length) := hfw
        have HH9 : Hid (∀ n, RunI S B l a cap g gp rv reps dv cv' w0 (wr.drewN n) (asks l s l.length)) := fun n => hR.drewN n
        clear hR hfw hdv
        go_upto_region 6 with fail
        go_quiet (fail)
        go_wp2_with fail
        go_end0
        refine ⟨rfl, cv', ?_⟩
        rw [HFW.out]; exact HH9.out _
    have hkn' : (k : Int) < (l.length : Int) := by omega
    have hnx := asks_succ l s k
    have hcl := asks_cmds l s k
    obtain ⟨t, ht⟩ : ∃ t, asks l s k = t := ⟨_, rfl⟩
    rw [ht] at hR hnx hcl
    have HR2 : Hid (RunI S B l a cap g gp rv reps dv cv' w0 wr t) := hR
    have HCL : Hid (t.cmds.length ≤ 900000) := by have := HC.out; show _ ≤ _; omega
    have c2 := hR.blk.cell 2
    simp at c2
    have d1 := (hR.isCell k hkn).1
    have crd := implReady hR k hkn
    have haskB : askB l t k = (readyB l t k && decide (isAt t k = 0)) := rfl
    obtain ⟨iv, hiv⟩ : ∃ iv, isAt t k = iv := ⟨_, rfl⟩
    obtain ⟨R1, hR1⟩ : ∃ R1, readyB l t k = R1 := ⟨_, rfl⟩
    rw [hiv] at d1
    rw [hR1] at crd
    rw [hiv, hR1] at haskB
    clear hR ht hcl hR1
    by_cases hi0 : iv = 0
    case neg =>
      have hi0' : (iv == 0) = false := by simp [hi0]
      rw [decide_eq_false hi0, Bool.and_false] at haskB
      rw [ask_false haskB] at hnx
      have HNX : Hid (asks l s (k + 1) = t) := hnx
      clear hnx haskB crd hiv hi0
      go_wp2_with fail
      refine ⟨⟨k + 1, cv', rfl, by omega, ?_⟩, by simp [intOf]; omega⟩
      rw [HNX.out]; exact HR2.out
    subst hi0
    rw [decide_eq_true rfl, Bool.and_true] at haskB
    cases R1
    case false =>
      rw [ask_false haskB] at hnx
      have HNX : Hid (asks l s (k + 1) = t) := hnx
      clear hnx haskB hiv
      go_wp2_with (go_at_call 86; go_must (refine crd.mono ?_; rintro e w1 ⟨rfl, hb1⟩))
      refine ⟨⟨k + 1, cv', rfl, by omega, ?_⟩, by simp [intOf]; omega⟩
      rw [HNX.out]; exact HR2.out.go hb1
    case true =>
      have hnot : k ∉ t.done := HR2.out.ok.not (by omega)
      have HNX : Hid (asks l s (k + 1) = beg l t 1 1 k) := by rw [hnx, ask_true haskB]; rfl
      have HNOT : Hid (k ∉ t.done) := hnot
      clear hnx haskB hnot hiv
      go_upto_region 4 with (go_at_call 86; go_must (refine crd.mono ?_; rintro e w1 ⟨rfl, hb1⟩))
      have cb := implBegin (HR2.out.go hb1) 1 1 k hkn (by omega) (by omega) HNOT.out HCL.out
      clear crd c2 d1
      go_wp2_with (go_at_call 87; go_must (refine cb.mono ?_; rintro e w5 ⟨rfl, cv5, H5⟩))
      refine ⟨⟨k + 1, cv5, rfl, by omega, ?_⟩, by simp [intOf]; omega⟩
      rw [HNX.out]; exact H5
set_option maxRecDepth 100000 in
theorem implBusy1 (x y : Int) (w : World) :
    Calls Tryd.prog 99 #[.agg #[.int .i64 x, .int .i64 y]] w fun e w' => e = .returned (.bool (decide (x = 1) || decide (x = 3))) ∧ Below w.heap.size w w' := by
  have hb := (Below.refl _ w).alloc (Nat.le_refl _) (.cells #[.int .i64 x, .int .i64 y] 88)
  have HB : Hid _ := hb
  clear hb
  by_cases h1 : x = 1
  · subst h1
    go_enter Tryd.func99, Tryd.ntmps99
    go_wp2_with fail
    go_ret
    exact ⟨by simp, HB.out⟩
  · have h1' : (x == 1) = false := by simp [h1]
    have hd : decide (x = 1) = false := decide_eq_false h1
    rw [hd]
    go_enter Tryd.func99, Tryd.ntmps99
    go_wp2_with fail
    go_ret
    refine ⟨?_, HB.out⟩
    by_cases h3 : x = 3 <;> simp [h3]
theorem busy_any (s : Sg) : busy s = s.is.any (fun y => decide (y = 1) || decide (y = 3)) := by
  unfold busy anyB
  induction s.is with
  | nil => rfl
  | cons x xs ih =>
    simp only [List.any_cons]
    rw [← ih]
    cases decide (x = 1) <;> cases decide (x = 3) <;> cases xs.any (fun y => decide (y = 1)) <;> cases xs.any (fun y => decide (y = 3)) <;> rfl
set_option maxRecDepth 100000 in
set_option maxHeartbeats 2000000 in
theorem implIndexP (h : RunI S B l a cap g gp rv reps dv cv w0 w s) :
    Calls Tryd.prog 98 #[.slice (some ⟨gp, 0, none⟩) l.length l.length, .func (.func 99) #[] #[]] w fun e w' => (∃ r : Int, e = .returned (.int .i64 r) ∧ decide (0 ≤ r) = busy s) ∧ Below w.heap.size w w' := by
  have HR : Hid (RunI S B l a cap g gp rv reps dv cv w0 w s) := h
  have hl : l.length ≤ 20 := h.saga.len.2
  have hl' : (l.length : Int) ≤ 20 := by omega
  have hil := h.ok.il
  have HIL : Hid (s.is.length = l.length) := hil
  rw [busy_any]
  clear h hil
  go_enter Tryd.func98, Tryd.ntmps98
  go_wp2_with fail
  go_loopw [8] (fun i8 wr => ∃ (k : Nat), i8 = .int .i64 (k : Int) ∧ k ≤ l.length ∧ (s.is.take k).any (fun y => decide (y = 1) || decide (y = 3)) = false ∧ Below w.heap.size w wr) (fun i8 _ => l.length - (intOf i8).toNat)
  case atStart => exact ⟨0, rfl, by omega, by simp, Below.refl _ _⟩
  case round =>
    obtain ⟨k, rfl, hk, hany, hb⟩ := hrel
    have HA : Hid ((s.is.take k).any (fun y => decide (y = 1) || decide (y = 3)) = false) := hany
    clear hany
    by_cases hkn : k < l.length
    · have hkn' : (k : Int) < (l.length : Int) := by omega
      have hR := HR.out.go hb
      have d1 := (hR.isCell k hkn).1
      have d2 := (hR.trCell k hkn).1
      have hks : k < s.is.length := by rw [HIL.out]; exact hkn
      have hie := isAt_eq hks
      obtain ⟨x, hx⟩ : ∃ x, isAt s k = x := ⟨_, rfl⟩
      obtain ⟨y, hy⟩ : ∃ y, trAt s k = y := ⟨_, rfl⟩
      rw [hx] at d1 hie
      rw [hy] at d2
      have cx := implBusy1 x y wr
      have HX : Hid (x = s.is[k]) := hie
      have HBW : Hid (Below w.heap.size w wr) := hb
      clear hx hy hR hb hie
      obtain ⟨B1, hB1⟩ : ∃ B1, (decide (x = 1) || decide (x = 3)) = B1 := ⟨_, rfl⟩
      rw [hB1] at cx
      have HB1 : Hid ((decide (x = 1) || decide (x = 3)) = B1) := hB1
      clear hB1
      cases B1
      · go_wp2_with (go_at_call 99; go_must (refine cx.mono ?_; rintro e w1 ⟨rfl, hb1⟩))
        exact ⟨⟨k + 1, rfl, by omega, any_takeA s.is _ k hks HA.out (by rw [← HX.out]; exact HB1.out), good_below HBW.out hb1⟩, by simp [intOf]; omega⟩
      · go_wp2_with (go_at_call 99; go_must (refine cx.mono ?_; rintro e w1 ⟨rfl, hb1⟩))
        go_ret
        refine ⟨⟨_, rfl, ?_⟩, good_below HBW.out hb1⟩
        rw [List.any_eq_true.2 ⟨s.is[k], List.getElem_mem hks, by rw [← HX.out]; exact HB1.out⟩]
        simp
    · have hkn' : ¬ ((k : Int) < (l.length : Int)) := by omega
      have hA := HA.out
      rw [List.take_of_length_le (by rw [HIL.out]; omega)] at hA
      go_wp2_with fail
      go_ret
      refine ⟨⟨_, rfl, ?_⟩, hb⟩
      first
        | (rw [hA]; rfl)
        | omega
set_option maxRecDepth 100000 in
theorem implFirstBusy (h : RunI S B l a cap g gp rv reps dv cv w0 w s) :
    Calls Tryd.prog 88 #[.pointer (some ⟨g, 0, none⟩)] w fun e w' => (∃ r : Int, e = .returned (.int .i64 r) ∧ decide (0 ≤ r) = busy s) ∧ Below w.heap.size w w' := by
  have c := implIndexP h
  have c2 := h.blk.cell 2
  simp at c2
  clear h
  go_enter Tryd.func88, Tryd.ntmps88
  go_wp2_with (go_at_call 98; go_must (refine c.mono ?_; rintro e w1 ⟨⟨r, rfl, hr⟩, hb1⟩))
  go_ret
  exact ⟨⟨r, rfl, hr⟩, hb1⟩
end
end Go.Proofs.YtbpijollcjdkhaaDoor
