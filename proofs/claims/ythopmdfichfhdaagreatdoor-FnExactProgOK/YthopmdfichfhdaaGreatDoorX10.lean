/-
  Rows of numbers and rows of threads, held against one another by the program; threads that are too long. No statement of the seat is proved here.
-/
import Derived.Test.YthopmdfichfhdaaGreatDoorX9
namespace Go.Proofs.YthopmdfichfhdaaGreatDoor
open Go.ChangeShapes Go.WideShapes Go.ChangeAt Go.RowKit
set_option linter.unusedVariables false
set_option linter.unusedSimpArgs false

/-- slices.Equal over two rows of numbers. -/
theorem implEqualInt {l m : List Int} {v u : Value} (w : World) (h : NIn w v l) (k : NIn w u m) (hl : l.length ≤ 2000000) (hm : m.length ≤ 2000000) :
    Calls Tryz.prog 33 #[v, u] w fun e w' => e = .returned (.bool (holdsB (l = m))) ∧ Below w.heap.size w w' := by
  obtain ⟨a, c, rfl, f⟩ := h
  obtain ⟨a', c', rfl, g⟩ := k
  by_cases e : l.length = m.length
  · by_cases z : l.length = 0
    · obtain rfl : l = [] := List.eq_nil_of_length_eq_zero z
      obtain rfl : m = [] := List.eq_nil_of_length_eq_zero (by simpa using e.symm)
      refine (Tryz.slices_Equal_int_empty a a' c 0 c' w (by decide)).mono ?_
      rintro e w' ⟨rfl, rfl⟩
      exact ⟨by rw [holdsB_true rfl]; rfl, Below.refl _ _⟩
    · obtain ⟨b1, o1, rfl, _⟩ := f 0 (by omega)
      obtain ⟨b2, o2, rfl, _⟩ := g 0 (by omega)
      refine (Tryz.slices_Equal_int b1 o1 l.length c b2 o2 m.length c' l m w (Nat.le_refl _) (Nat.le_refl _) (by omega) (by omega) ?_ ?_).mono ?_
      · intro j hj
        obtain ⟨b, o, e, h⟩ := f j hj
        cases e
        exact h
      · intro j hj
        obtain ⟨b, o, e, h⟩ := g j hj
        cases e
        exact h
      · rintro e w' ⟨rfl, q, rfl⟩
        refine ⟨?_, bel_drewN (Below.refl _ _) _⟩
        rw [List.take_length, List.take_length]
        congr 2
        by_cases hlm : l = m
        · rw [holdsB_true hlm, hlm]; simp
        · rw [holdsB_false hlm]; simpa using hlm
  · refine (Tryz.slices_Equal_int_lens a a' l.length c m.length c' w e).mono ?_
    rintro e' w' ⟨rfl, rfl⟩
    refine ⟨?_, Below.refl _ _⟩
    rw [holdsB_false (fun h => e (by rw [h]))]
/-- A row of threads that came in. -/
def TIn (w : World) (v : Value) (thr : List (List Ins)) : Prop := ∃ a c, v = .slice a thr.length c ∧ ∀ j, j < thr.length → ∃ b o x, a = some ⟨b, o, none⟩ ∧ w.cell? ⟨b, o + j, none⟩ = some x ∧ CIn w x (thr.getD j [])
theorem TIn.below {w w' : World} {v : Value} {thr : List (List Ins)} (h : TIn w v thr) (hb : Below w.heap.size w w') : TIn w' v thr := by
  obtain ⟨a, c, e, hc⟩ := h
  refine ⟨a, c, e, fun j hj => ?_⟩
  obtain ⟨b, o, x, ea, hx, hv⟩ := hc j hj
  exact ⟨b, o, x, ea, (hb.cell (World.block_lt_of_cell? _ _ hx)).trans hx, hv.below hb⟩
theorem PIn.tin {w : World} {iv tv : Value} {ini : List Int} {thr : List (List Ins)} (h : PIn w iv tv ini thr) : TIn w tv thr := h.t
set_option maxRecDepth 100000 in
set_option maxHeartbeats 16000000 in
/-- slices.EqualFunc over two rows of threads. -/
theorem implEqualThr {l m : List (List Ins)} {v u : Value} (w : World) (h : TIn w v l) (k : TIn w u m) (hl : l.length ≤ 2000000) (hm : m.length ≤ 2000000) (hcl : ∀ c ∈ l, c.length ≤ 2000000) (hcm : ∀ c ∈ m, c.length ≤ 2000000) :
    Calls Tryz.prog 34 #[v, u, .func (.func 35) #[] #[]] w fun e w' => e = .returned (.bool (holdsB (l = m))) ∧ Below w.heap.size w w' := by
  have H1 : Hid (∀ W, Below w.heap.size w W → TIn W v l) := fun W hW => h.below hW
  have H2 : Hid (∀ W, Below w.heap.size w W → TIn W u m) := fun W hW => k.below hW
  have HL : Hid (∀ c ∈ l, c.length ≤ 2000000) := hcl
  have HM : Hid (∀ c ∈ m, c.length ≤ 2000000) := hcm
  obtain ⟨a, c, rfl, -⟩ := h
  obtain ⟨a', c', rfl, -⟩ := k
  clear hcl hcm
  have hl' : (l.length : Int) ≤ 2000000 := by omega
  have hm' : (m.length : Int) ≤ 2000000 := by omega
  go_enter Tryz.func34, Tryz.ntmps34
  by_cases hlm : l.length = m.length
  case neg =>
    have hlm' : ¬ ((l.length : Int) = (m.length : Int)) := by omega
    go_wp2_with fail
    go_ret
    refine ⟨?_, Below.refl _ _⟩
    have hne : l ≠ m := fun e => hlm (by rw [e])
    rw [holdsB_false hne]
    rfl
  have HLM : Hid (l.length = m.length) := hlm
  rw [← hlm]
  clear hlm
  go_wp2_with fail
  go_loopw [17] (fun i17 wr => ∃ (j : Nat), i17 = .int .i64 (j : Int) ∧ j ≤ l.length ∧ l.take j = m.take j ∧ Below w.heap.size w wr) (fun i17 _ => l.length - (intOf i17).toNat)
  case atStart => exact ⟨0, rfl, Nat.zero_le _, by simp, Below.refl _ _⟩
  case round =>
    obtain ⟨j, rfl, hj, htk, hb⟩ := hrel
    have HTK : Hid (l.take j = m.take j) := htk
    have HB : Hid (Below w.heap.size w wr) := hb
    clear htk
    by_cases hjn : j < l.length
    · have hjn' : (j : Int) < (l.length : Int) := by omega
      have hjm : j < m.length := by rw [← HLM.out]; exact hjn
      obtain ⟨A1, c1, q1, f1⟩ := H1.out wr hb
      cases q1
      obtain ⟨g1, o1, x1, rfl, u1, t1⟩ := f1 j hjn
      obtain ⟨A2, c2, q2, f2⟩ := H2.out wr hb
      cases q2
      obtain ⟨g2, o2, x2, rfl, u2, t2⟩ := f2 j hjm
      clear f1 f2
      have ce := implEqualIns wr t1 t2 (HL.out _ (by rw [List.getD_eq_getElem?_getD, List.getElem?_eq_getElem hjn]; exact List.getElem_mem hjn)) (HM.out _ (by rw [List.getD_eq_getElem?_getD, List.getElem?_eq_getElem hjm]; exact List.getElem_mem hjm))
      obtain ⟨y1, z1, rfl, -⟩ := t1
      obtain ⟨y2, z2, rfl, -⟩ := t2
      by_cases e : l.getD j [] = m.getD j []
      · have HEQ : Hid (l.take (j + 1) = m.take (j + 1)) := take_more [] hjn hjm HTK.out e
        rw [holdsB_true e] at ce
        clear e
        generalize (l.getD j []).length = n1 at u1 ce
        generalize (m.getD j []).length = n2 at u2 ce
        go_wp2_with (go_at_call 35; go_must (refine ce.mono ?_; rintro e w1 ⟨rfl, hb1⟩))
        exact ⟨⟨j + 1, rfl, hjn, HEQ.out, good_below hb hb1⟩, by simp [intOf]; omega⟩
      · have HNE : Hid (l.getD j [] ≠ m.getD j []) := e
        rw [holdsB_false e] at ce
        clear e
        generalize (l.getD j []).length = n1 at u1 ce
        generalize (m.getD j []).length = n2 at u2 ce
        go_wp2_with (go_at_call 35; go_must (refine ce.mono ?_; rintro e w1 ⟨rfl, hb1⟩))
        go_ret
        refine ⟨?_, good_below hb hb1⟩
        have hne : l ≠ m := fun e => HNE.out (by rw [e])
        rw [holdsB_false hne]
        rfl
    · obtain rfl : j = l.length := by omega
      have hjn' : ¬ ((l.length : Int) < (l.length : Int)) := by omega
      have e : l = m := by
        have := HTK.out
        rwa [List.take_length, HLM.out, List.take_length] at this
      have HE : Hid (l = m) := e
      clear e
      go_wp2_with fail
      go_ret
      exact ⟨by rw [holdsB_true HE.out]; rfl, hb⟩
/-! ### Threads that are too long -/
set_option maxRecDepth 100000 in
theorem implIsLong (a : Option Addr) (n c : Nat) (w : World) :
    Calls Tryz.prog 29 #[.slice a n c] w fun e w' => e = .returned (.bool (decide ((40 : Int) < (n : Int)))) ∧ Below w.heap.size w w' := by
  go_enter Tryz.func29, Tryz.ntmps29
  go_wp2_with fail
  go_ret
  exact ⟨rfl, Below.refl _ _⟩
def longB (c : List Ins) : Bool := decide ((40 : Int) < (c.length : Int))
set_option maxRecDepth 100000 in
set_option maxHeartbeats 4000000 in
theorem implIndexLong {l : List (List Ins)} {v : Value} (w : World) (h : TIn w v l) (hl : l.length ≤ 2000000) :
    Calls Tryz.prog 41 #[v, .func (.func 29) #[] #[]] w fun e w' => (∃ r : Int, e = .returned (.int .i64 r) ∧ decide (0 ≤ r) = l.any longB) ∧ Below w.heap.size w w' := by
  have H1 : Hid (∀ W, Below w.heap.size w W → TIn W v l) := fun W hW => h.below hW
  obtain ⟨a, c, rfl, -⟩ := h
  have hl' : (l.length : Int) ≤ 2000000 := by omega
  go_enter Tryz.func41, Tryz.ntmps41
  go_wp2_with fail
  go_loopw [8] (fun i8 wr => ∃ (j : Nat), i8 = .int .i64 (j : Int) ∧ j ≤ l.length ∧ (l.take j).any longB = false ∧ Below w.heap.size w wr) (fun i8 _ => l.length - (intOf i8).toNat)
  case atStart => exact ⟨0, rfl, Nat.zero_le _, by simp, Below.refl _ _⟩
  case round =>
    obtain ⟨j, rfl, hj, hany, hb⟩ := hrel
    have HA : Hid ((l.take j).any longB = false) := hany
    clear hany
    by_cases hjn : j < l.length
    · have hjn' : (j : Int) < (l.length : Int) := by omega
      obtain ⟨A1, c1, q1, f1⟩ := H1.out wr hb
      cases q1
      obtain ⟨g1, o1, x1, rfl, u1, t1⟩ := f1 j hjn
      clear f1
      obtain ⟨y1, z1, rfl, -⟩ := t1
      have hget : l.getD j [] = l[j] := by rw [List.getD_eq_getElem?_getD, List.getElem?_eq_getElem hjn]; rfl
      have cc := implIsLong y1 (l.getD j []).length z1 wr
      have hL : longB l[j] = decide ((40 : Int) < ((l.getD j []).length : Int)) := by rw [hget]; rfl
      have HG : Hid (longB l[j] = decide ((40 : Int) < ((l.getD j []).length : Int))) := hL
      generalize (l.getD j []).length = n at u1 cc HG
      clear hget hL
      by_cases e : (40 : Int) < (n : Int)
      · rw [decide_eq_true e] at cc
        have HT : Hid (l.any longB = true) := by
          rw [List.any_eq_true]
          exact ⟨l[j], List.getElem_mem hjn, by rw [HG.out, decide_eq_true e]⟩
        go_wp2_with (go_at_call 29; go_must (refine cc.mono ?_; rintro e w1 ⟨rfl, hb1⟩))
        go_ret
        exact ⟨⟨_, rfl, by rw [HT.out]; exact decide_eq_true (Int.natCast_nonneg _)⟩, good_below hb hb1⟩
      · rw [decide_eq_false e] at cc
        have hT : (l.take (j + 1)).any longB = false := by
          rw [List.take_add_one, List.getElem?_eq_getElem hjn, List.any_append, HA.out]
          simp only [Option.toList_some, List.any_cons, List.any_nil, Bool.or_false, Bool.false_or]
          rw [HG.out, decide_eq_false e]
        have HT : Hid ((l.take (j + 1)).any longB = false) := hT
        clear hT
        go_wp2_with (go_at_call 29; go_must (refine cc.mono ?_; rintro e w1 ⟨rfl, hb1⟩))
        exact ⟨⟨j + 1, rfl, hjn, HT.out, good_below hb hb1⟩, by simp [intOf]; omega⟩
    · obtain rfl : j = l.length := by omega
      have hjn' : ¬ ((l.length : Int) < (l.length : Int)) := by omega
      have HF : Hid (l.any longB = false) := by have := HA.out; rwa [List.take_length] at this
      go_wp2_with fail
      go_ret
      exact ⟨⟨_, rfl, by rw [HF.out]; exact decide_eq_false (by omega)⟩, hb⟩
set_option maxRecDepth 100000 in
theorem implAnyLong {l : List (List Ins)} {v : Value} (w : World) (h : TIn w v l) (hl : l.length ≤ 2000000) :
    Calls Tryz.prog 30 #[v, .func (.func 29) #[] #[]] w fun e w' => e = .returned (.bool (l.any longB)) ∧ Below w.heap.size w w' := by
  have ci := implIndexLong w h hl
  obtain ⟨a, c, rfl, -⟩ := h
  go_enter Tryz.func30, Tryz.ntmps30
  go_wp2_with (go_at_call 41; go_must (refine ci.mono ?_; rintro e w1 ⟨⟨r, rfl, hr⟩, hb1⟩; have HR : Hid (decide (0 ≤ r) = l.any longB) := hr; clear hr))
  go_ret
  exact ⟨by rw [← HR.out]; rfl, hb1⟩
end Go.Proofs.YthopmdfichfhdaaGreatDoor
