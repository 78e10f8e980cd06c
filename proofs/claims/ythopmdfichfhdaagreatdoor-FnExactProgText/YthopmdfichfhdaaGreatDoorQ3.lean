/-
  Instructions as plain data; the document's rule for one: spec.l12Ins. No statement of the seat is proved here.
-/
import Derived.Test.YthopmdfichfhdaaGreatDoorQ2
import Derived.Deep.Cut
import Derived.Deep.CutRange
import Derived.Deep.CutBlock
namespace Go.Proofs.YthopmdfichfhdaaGreatDoor
open Go.ChangeShapes Go.WideShapes Go.ChangeAt Go.RowKit
set_option linter.unusedVariables false
set_option linter.unusedSimpArgs false

structure Ins where
  op : Int
  cell : Int
  reg : Int
  ar : Int
  an : Int
  br : Int
  bn : Int
  ord : Int
  cnd : Int
  tgt : Int
/-- An instruction as Go holds it. -/
def insV (x : Ins) : Value := .agg #[.int .i64 x.op, .int .i64 x.cell, .int .i64 x.reg, .int .i64 x.ar, .int .i64 x.an, .int .i64 x.br, .int .i64 x.bn, .int .i64 x.ord, .int .i64 x.cnd, .int .i64 x.tgt]
def insC (x : Ins) : Array Value := #[.int .i64 x.op, .int .i64 x.cell, .int .i64 x.reg, .int .i64 x.ar, .int .i64 x.an, .int .i64 x.br, .int .i64 x.bn, .int .i64 x.ord, .int .i64 x.cnd, .int .i64 x.tgt]
def cR (i : Bool) (r : Int) : Bool := if i then decide (1 ≤ r) && decide (r ≤ 6) else decide (r = 0)
def cC (i : Bool) (c n : Int) : Bool := if i then decide (0 ≤ c) && decide (c < n) else decide (c = 0)
def cV (i : Bool) (r n : Int) : Bool := i || (decide (r = 0) && decide (n = 0))
def cO (i : Bool) (op o : Int) : Bool := if i then ordB op o else decide (o = 0)
def cQ (i : Bool) (q : Int) : Bool := if i then decide (1 ≤ q) && decide (q ≤ 4) else decide (q = 0)
def cT (m n : Bool) (t : Int) : Bool := if m then decide (0 ≤ t) && decide (t ≤ 99) else if n then decide (0 ≤ t) else decide (t = 0)
/-- The document's rule for an instruction, of a program of so many cells. -/
def insB (x : Ins) (n : Int) : Bool :=
  !(decide (x.op < 1) || decide (13 < x.op)) && ((((((((valB x.ar x.an && valB x.br x.bn && rangeB x.an && rangeB x.bn) && cR (inB (formF x.op) 82) x.reg) && cC (inB (formF x.op) 67) x.cell n) && cV (inB (formF x.op) 86) x.ar x.an) && cV (inB (formF x.op) 87) x.br x.bn) && cO (inB (formF x.op) 79) x.op x.ord) && cQ (inB (formF x.op) 81) x.cnd) && cT (inB (formF x.op) 77) (inB (formF x.op) 78) x.tgt)

set_option maxRecDepth 100000 in
set_option maxHeartbeats 2000000 in
theorem specFormNo (op : Int) (h : op < 1 ∨ 13 < op) (w : World) :
    Calls Tryz.prog 24 #[.int .i64 op] w fun e w' => e = .returned (.tuple #[.string ⟨#[]⟩, .string ⟨#[]⟩]) ∧ w' = w := by
  have q1 : (op == 1) = false := by rw [beq_eq_false_iff_ne]; omega
  have q2 : (op == 2) = false := by rw [beq_eq_false_iff_ne]; omega
  have q3 : (op == 3) = false := by rw [beq_eq_false_iff_ne]; omega
  have q4 : (op == 4) = false := by rw [beq_eq_false_iff_ne]; omega
  have q5 : (op == 5) = false := by rw [beq_eq_false_iff_ne]; omega
  have q6 : (op == 6) = false := by rw [beq_eq_false_iff_ne]; omega
  have q7 : (op == 7) = false := by rw [beq_eq_false_iff_ne]; omega
  have q8 : (op == 8) = false := by rw [beq_eq_false_iff_ne]; omega
  have q9 : (op == 9) = false := by rw [beq_eq_false_iff_ne]; omega
  have q10 : (op == 10) = false := by rw [beq_eq_false_iff_ne]; omega
  have q11 : (op == 11) = false := by rw [beq_eq_false_iff_ne]; omega
  have q12 : (op == 12) = false := by rw [beq_eq_false_iff_ne]; omega
  have q13 : (op == 13) = false := by rw [beq_eq_false_iff_ne]; omega
  clear h
  go_enter Tryz.func24, Tryz.ntmps24
  go_wp2_with fail
  go_ret2
  exact ⟨rfl, rfl⟩
theorem toList_of (t : ByteArray) : t.toList = t.data.toList := by rw [ByteArray.toList_eq]
theorem form_size {op : Int} (h1 : 1 ≤ op) (h2 : op ≤ 13) : (formF op).size ≤ 5 ∧ (formW op).toList ≠ [] := by
  rcases thirteen h1 h2 with rfl | rfl | rfl | rfl | rfl | rfl | rfl | rfl | rfl | rfl | rfl | rfl | rfl <;> exact ⟨by decide, by rw [toList_of]; decide⟩
set_option maxRecDepth 100000 in
set_option maxHeartbeats 8000000 in
theorem specIns (x : Ins) (n : Int) (w : World) :
    Calls Tryz.prog 15 #[insV x, .int .i64 n] w fun e w' => e = .returned (.bool (insB x n)) ∧ Below w.heap.size w w' := by
  obtain ⟨op, ce, rg, ar, an, br, bn, od, cq, tg⟩ := x
  unfold insV insB
  dsimp only
  have bA : Below w.heap.size w (w.alloc (.cells (insC ⟨op, ce, rg, ar, an, br, bn, od, cq, tg⟩) 43)) := (Below.refl _ w).alloc (Nat.le_refl _) _
  have kA : Blk (w.alloc (.cells (insC ⟨op, ce, rg, ar, an, br, bn, od, cq, tg⟩) 43)) w.heap.size 43 (insC ⟨op, ce, rg, ar, an, br, bn, od, cq, tg⟩) := heap_alloc_last w _
  unfold insC at bA kA
  dsimp only at bA kA
  by_cases hno : op < 1 ∨ 13 < op
  · have cf := specFormNo op hno
    have hb : (!(decide (op < 1) || decide (13 < op))) = false := by
      rcases hno with h | h
      · rw [decide_eq_true h]; rfl
      · rw [decide_eq_true h, Bool.or_true]; rfl
    rw [hb, Bool.false_and]
    have c0 := kA.cell 0
    simp at c0
    clear kA hb hno
    go_enter Tryz.func15, Tryz.ntmps15
    go_wp2_with (go_at_call 24; go_must (refine (cf _).mono ?_; rintro e w2 ⟨rfl, hq⟩; obtain rfl := hq.symm; clear hq))
    go_ret
    exact ⟨rfl, bA⟩
  have h1 : 1 ≤ op := by omega
  have h2 : op ≤ 13 := by omega
  have hb : (!(decide (op < 1) || decide (13 < op))) = true := by rw [decide_eq_false (by omega), decide_eq_false (by omega)]; rfl
  rw [hb, Bool.true_and]
  have cf := specForm op h1 h2
  obtain ⟨hfs, hfw⟩ := form_size h1 h2
  obtain ⟨f, hf⟩ : ∃ f, formF op = f := ⟨_, rfl⟩
  obtain ⟨fw, hfwe⟩ : ∃ f, formW op = f := ⟨_, rfl⟩
  rw [hf] at hfs
  simp only [hf, hfwe] at cf
  rw [hfwe] at hfw
  rw [hf]
  have hfn : (fw.toList == []) = false := by rw [beq_eq_false_iff_ne]; exact hfw
  obtain ⟨wA, hwA⟩ : ∃ W, w.alloc (.cells #[.int .i64 op, .int .i64 ce, .int .i64 rg, .int .i64 ar, .int .i64 an, .int .i64 br, .int .i64 bn, .int .i64 od, .int .i64 cq, .int .i64 tg] 43) = W := ⟨_, rfl⟩
  obtain ⟨b0, hb0⟩ : ∃ b, w.heap.size = b := ⟨_, rfl⟩
  rw [hwA] at bA kA
  rw [hb0] at kA
  have HBZ : Hid (b0 ≤ wA.heap.size) := by rw [← hb0]; exact bA.size
  have HBA : Hid (Below b0 w wA) := by rw [← hb0]; exact bA
  have HK : Hid (∀ W, Below wA.heap.size wA W → Blk W b0 43 #[.int .i64 op, .int .i64 ce, .int .i64 rg, .int .i64 ar, .int .i64 an, .int .i64 br, .int .i64 bn, .int .i64 od, .int .i64 cq, .int .i64 tg]) := fun W hW => kA.below hW
  have cIn := fun (c : Nat) (W : World) => specIn f c (by omega) W
  have c0 := kA.cell 0
  have c3 := kA.cell 3
  have c4 := kA.cell 4
  have c5 := kA.cell 5
  have c6 := kA.cell 6
  simp at c0 c3 c4 c5 c6
  rw [hb0]
  clear kA hno hb hf hfwe hfw bA h1 h2
  go_enter Tryz.func15, Tryz.ntmps15
  go_upto_region 2 with (go_at_call 24; go_must (refine (cf _).mono ?_; rintro e w2 ⟨rfl, hq⟩; obtain rfl := hq.symm; clear hq))
  clear hwA hb0 cf
  go_upto_region 4 with fail
  go_cut [7] from 16 to 35 (fun s7 wx => s7 = .bool (valB ar an && valB br bn && rangeB an && rangeB bn) ∧ Below wA.heap.size wA wx)
  case first =>
    have v1 := specVal ar an wA
    obtain ⟨V1, hV1⟩ : ∃ b, valB ar an = b := ⟨_, rfl⟩
    obtain ⟨V2, hV2⟩ : ∃ b, valB br bn = b := ⟨_, rfl⟩
    obtain ⟨V3, hV3⟩ : ∃ b, rangeB an = b := ⟨_, rfl⟩
    obtain ⟨V4, hV4⟩ : ∃ b, rangeB bn = b := ⟨_, rfl⟩
    have HV2 : Hid (∀ W, Calls Tryz.prog 25 #[.agg #[.int .i64 br, .int .i64 bn]] W fun e w' => e = .returned (.bool V2) ∧ Below W.heap.size W w') := fun W => by rw [← hV2]; exact specVal br bn W
    have HV3 : Hid (∀ W, Calls Tryz.prog 14 #[.int .i64 an] W fun e w' => e = .returned (.bool V3) ∧ w' = W) := fun W => by rw [← hV3]; exact specRange an W
    have HV4 : Hid (∀ W, Calls Tryz.prog 14 #[.int .i64 bn] W fun e w' => e = .returned (.bool V4) ∧ w' = W) := fun W => by rw [← hV4]; exact specRange bn W
    rw [hV1] at v1
    have EV : Hid ((valB ar an && valB br bn && rangeB an && rangeB bn) = (V1 && V2 && V3 && V4)) := by subst hV1; subst hV2; subst hV3; subst hV4; rfl
    clear hV1 hV2 hV3 hV4
    cases V1
    · go_wp2_with (go_at_call 25; go_must (refine v1.mono ?_; rintro e w3 ⟨rfl, hb3⟩))
      go_meet
      exact ⟨by rw [EV.out]; rfl, hb3⟩
    · cases V2
      · go_wp2_with (first
          | (go_at_call 25; have hchk := hb3; refine (HV2.out w3).mono ?_; rintro e w4 ⟨rfl, hb4⟩)
          | (go_at_call 25; go_must (refine v1.mono ?_; rintro e w3 ⟨rfl, hb3⟩; have d5 := (HK.out w3 hb3).cell 5; have d6 := (HK.out w3 hb3).cell 6; simp at d5 d6)))
        go_meet
        exact ⟨by rw [EV.out]; rfl, good_below hb3 hb4⟩
      · cases V3
        · go_wp2_with (first
            | (go_at_call 14; go_must (refine (HV3.out w4).mono ?_; rintro e w5 ⟨rfl, hq⟩; obtain rfl := hq.symm; clear hq))
            | (go_at_call 25; have hchk := hb3; refine (HV2.out w3).mono ?_; rintro e w4 ⟨rfl, hb4⟩; have e4 := (HK.out w4 (good_below hb3 hb4)).cell 4; have e6 := (HK.out w4 (good_below hb3 hb4)).cell 6; simp at e4 e6)
            | (go_at_call 25; go_must (refine v1.mono ?_; rintro e w3 ⟨rfl, hb3⟩; have d5 := (HK.out w3 hb3).cell 5; have d6 := (HK.out w3 hb3).cell 6; simp at d5 d6)))
          go_meet
          exact ⟨by rw [EV.out]; rfl, good_below hb3 hb4⟩
        · go_wp2_with (first
            | (go_at_call 14; have hchk := h35; refine (HV4.out w4).mono ?_; rintro e w6 ⟨rfl, hq⟩; obtain rfl := hq.symm; clear hq)
            | (go_at_call 14; go_must (refine (HV3.out w4).mono ?_; rintro e w5 ⟨rfl, hq⟩; have h35 : True := trivial; obtain rfl := hq.symm; clear hq))
            | (go_at_call 25; have hchk := hb3; refine (HV2.out w3).mono ?_; rintro e w4 ⟨rfl, hb4⟩; have e4 := (HK.out w4 (good_below hb3 hb4)).cell 4; have e6 := (HK.out w4 (good_below hb3 hb4)).cell 6; simp at e4 e6)
            | (go_at_call 25; go_must (refine v1.mono ?_; rintro e w3 ⟨rfl, hb3⟩; have d5 := (HK.out w3 hb3).cell 5; have d6 := (HK.out w3 hb3).cell 6; simp at d5 d6)))
          go_meet
          exact ⟨by rw [EV.out]; cases V4 <;> rfl, good_below hb3 hb4⟩
  case rest =>
  obtain ⟨rfl, hbc⟩ := hcut
  obtain ⟨K, hK⟩ : ∃ b, (valB ar an && valB br bn && rangeB an && rangeB bn) = b := ⟨_, rfl⟩
  rw [hK]
  have HK0 : Hid ((valB ar an && valB br bn && rangeB an && rangeB bn) = K) := hK
  clear hK c0 c3 c4 c5 c6
  obtain ⟨wC, hwC⟩ : ∃ W, W = wc := ⟨_, rfl⟩
  subst hwC
  have hbB1 := hbc
  clear hbc
  go_upto_if 37 with (go_at_call 26; go_must (refine (cIn 82 _).mono ?_; rintro e w9 ⟨rfl, hq⟩; obtain rfl := hq.symm; clear hq))
  go_cut [7] from 37 to 54 (fun s7 wx => s7 = .bool (K && cR (inB f 82) rg) ∧ Below wC.heap.size wC wx)
  case first =>
    have c2 := (HK.out wC hbB1).cell 2; simp at c2
    cases hin : inB f 82
    · cases K
      · go_wp2_with fail
        go_meet
        exact ⟨rfl, Below.refl _ _⟩
      · by_cases h0 : rg = 0
        · subst h0
          go_wp2_with fail
          go_meet
          exact ⟨by rw [hin]; rfl, Below.refl _ _⟩
        · have q0 : (rg == 0) = false := by rw [beq_eq_false_iff_ne]; exact h0
          go_wp2_with fail
          go_meet
          exact ⟨by rw [hin]; unfold cR; rw [if_neg (by simp), decide_eq_false (show ¬ (rg = 0) from by omega)]; rfl, Below.refl _ _⟩
    · cases K
      · go_wp2_with fail
        go_meet
        exact ⟨rfl, Below.refl _ _⟩
      · by_cases h1 : 1 ≤ rg
        · by_cases h2 : rg ≤ 6
          · go_wp2_with fail
            go_meet
            exact ⟨by rw [hin]; unfold cR; rw [if_pos rfl, decide_eq_true h1, decide_eq_true h2]; rfl, Below.refl _ _⟩
          · go_wp2_with fail
            go_meet
            exact ⟨by rw [hin]; unfold cR; rw [if_pos rfl, decide_eq_true h1, decide_eq_false (show ¬ (rg ≤ 6) from by omega)]; rfl, Below.refl _ _⟩
        · go_wp2_with fail
          go_meet
          exact ⟨by rw [hin]; unfold cR; rw [if_pos rfl, decide_eq_false (show ¬ (1 ≤ rg) from by omega)]; rfl, Below.refl _ _⟩
  case rest =>
  obtain ⟨rfl, hbc'⟩ := hcut
  have hbc := good_below hbB1 hbc'
  clear hbc'
  obtain ⟨K1, hK1⟩ : ∃ b, (K && cR (inB f 82) rg) = b := ⟨_, rfl⟩
  rw [hK1]
  have HK1 : Hid ((K && cR (inB f 82) rg) = K1) := hK1
  clear hK1
  obtain ⟨wD, hwD⟩ : ∃ W, W = wc := ⟨_, rfl⟩
  subst hwD
  have hbB2 := hbc
  clear hbc
  go_upto_if 56 with (go_at_call 26; go_must (refine (cIn 67 _).mono ?_; rintro e w9 ⟨rfl, hq⟩; obtain rfl := hq.symm; clear hq))
  go_cut [7] from 56 to 74 (fun s7 wx => s7 = .bool (K1 && cC (inB f 67) ce n) ∧ Below wD.heap.size wD wx)
  case first =>
    have c1 := (HK.out wD hbB2).cell 1; simp at c1
    cases hin : inB f 67
    · cases K1
      · go_wp2_with fail
        go_meet
        exact ⟨rfl, Below.refl _ _⟩
      · by_cases h0 : ce = 0
        · subst h0
          go_wp2_with fail
          go_meet
          exact ⟨by rw [hin]; rfl, Below.refl _ _⟩
        · have q0 : (ce == 0) = false := by rw [beq_eq_false_iff_ne]; exact h0
          go_wp2_with fail
          go_meet
          exact ⟨by rw [hin]; unfold cC; rw [if_neg (by simp), decide_eq_false (show ¬ (ce = 0) from by omega)]; rfl, Below.refl _ _⟩
    · cases K1
      · go_wp2_with fail
        go_meet
        exact ⟨rfl, Below.refl _ _⟩
      · by_cases h1 : 0 ≤ ce
        · by_cases h2 : ce < n
          · go_wp2_with fail
            go_meet
            exact ⟨by rw [hin]; unfold cC; rw [if_pos rfl, decide_eq_true h1, decide_eq_true h2]; rfl, Below.refl _ _⟩
          · go_wp2_with fail
            go_meet
            exact ⟨by rw [hin]; unfold cC; rw [if_pos rfl, decide_eq_true h1, decide_eq_false (show ¬ (ce < n) from by omega)]; rfl, Below.refl _ _⟩
        · go_wp2_with fail
          go_meet
          exact ⟨by rw [hin]; unfold cC; rw [if_pos rfl, decide_eq_false (show ¬ (0 ≤ ce) from by omega)]; rfl, Below.refl _ _⟩
  case rest =>
  obtain ⟨rfl, hbc'⟩ := hcut
  have hbc := good_below hbB2 hbc'
  clear hbc'
  obtain ⟨K2, hK2⟩ : ∃ b, (K1 && cC (inB f 67) ce n) = b := ⟨_, rfl⟩
  rw [hK2]
  have HK2 : Hid ((K1 && cC (inB f 67) ce n) = K2) := hK2
  clear hK2
  obtain ⟨wE, hwE⟩ : ∃ W, W = wc := ⟨_, rfl⟩
  subst hwE
  have hbB3 := hbc
  clear hbc
  go_upto_if 77 with (go_at_call 26; go_must (refine (cIn 86 _).mono ?_; rintro e w9 ⟨rfl, hq⟩; obtain rfl := hq.symm; clear hq))
  go_cut [7] from 76 to 84 (fun s7 wx => s7 = .bool (K2 && cV (inB f 86) ar an) ∧ Below wE.heap.size wE wx)
  case first =>
    have c3 := (HK.out wE hbB3).cell 3; have c4 := (HK.out wE hbB3).cell 4; simp at c3 c4
    cases hin : inB f 86
    · cases K2
      · go_wp2_with fail
        go_meet
        exact ⟨rfl, Below.refl _ _⟩
      · by_cases h1 : ar = 0
        · subst h1
          by_cases h2 : an = 0
          · subst h2
            go_wp2_with fail
            go_meet
            exact ⟨by rw [hin]; rfl, Below.refl _ _⟩
          · have q2 : (an == 0) = false := by rw [beq_eq_false_iff_ne]; exact h2
            go_wp2_with fail
            go_meet
            exact ⟨by rw [hin]; unfold cV; rw [decide_eq_false (show ¬ (an = 0) from by omega)]; rfl, Below.refl _ _⟩
        · have q1 : (ar == 0) = false := by rw [beq_eq_false_iff_ne]; exact h1
          go_wp2_with fail
          go_meet
          exact ⟨by rw [hin]; unfold cV; rw [decide_eq_false (show ¬ (ar = 0) from by omega)]; rfl, Below.refl _ _⟩
    · cases K2
      · go_wp2_with fail
        go_meet
        exact ⟨rfl, Below.refl _ _⟩
      · go_wp2_with fail
        go_meet
        exact ⟨by rw [hin]; rfl, Below.refl _ _⟩
  case rest =>
  obtain ⟨rfl, hbc'⟩ := hcut
  have hbc := good_below hbB3 hbc'
  clear hbc'
  obtain ⟨K3, hK3⟩ : ∃ b, (K2 && cV (inB f 86) ar an) = b := ⟨_, rfl⟩
  rw [hK3]
  have HK3 : Hid ((K2 && cV (inB f 86) ar an) = K3) := hK3
  clear hK3
  obtain ⟨wF, hwF⟩ : ∃ W, W = wc := ⟨_, rfl⟩
  subst hwF
  have hbB4 := hbc
  clear hbc
  go_upto_if 87 with (go_at_call 26; go_must (refine (cIn 87 _).mono ?_; rintro e w9 ⟨rfl, hq⟩; obtain rfl := hq.symm; clear hq))
  go_cut [7] from 86 to 94 (fun s7 wx => s7 = .bool (K3 && cV (inB f 87) br bn) ∧ Below wF.heap.size wF wx)
  case first =>
    have c5 := (HK.out wF hbB4).cell 5; have c6 := (HK.out wF hbB4).cell 6; simp at c5 c6
    cases hin : inB f 87
    · cases K3
      · go_wp2_with fail
        go_meet
        exact ⟨rfl, Below.refl _ _⟩
      · by_cases h1 : br = 0
        · subst h1
          by_cases h2 : bn = 0
          · subst h2
            go_wp2_with fail
            go_meet
            exact ⟨by rw [hin]; rfl, Below.refl _ _⟩
          · have q2 : (bn == 0) = false := by rw [beq_eq_false_iff_ne]; exact h2
            go_wp2_with fail
            go_meet
            exact ⟨by rw [hin]; unfold cV; rw [decide_eq_false (show ¬ (bn = 0) from by omega)]; rfl, Below.refl _ _⟩
        · have q1 : (br == 0) = false := by rw [beq_eq_false_iff_ne]; exact h1
          go_wp2_with fail
          go_meet
          exact ⟨by rw [hin]; unfold cV; rw [decide_eq_false (show ¬ (br = 0) from by omega)]; rfl, Below.refl _ _⟩
    · cases K3
      · go_wp2_with fail
        go_meet
        exact ⟨rfl, Below.refl _ _⟩
      · go_wp2_with fail
        go_meet
        exact ⟨by rw [hin]; rfl, Below.refl _ _⟩
  case rest =>
  obtain ⟨rfl, hbc'⟩ := hcut
  have hbc := good_below hbB4 hbc'
  clear hbc'
  obtain ⟨K4, hK4⟩ : ∃ b, (K3 && cV (inB f 87) br bn) = b := ⟨_, rfl⟩
  rw [hK4]
  have HK4 : Hid ((K3 && cV (inB f 87) br bn) = K4) := hK4
  clear hK4
  obtain ⟨wG, hwG⟩ : ∃ W, W = wc := ⟨_, rfl⟩
  subst hwG
  have hbB5 := hbc
  clear hbc
  go_upto_if 96 with (go_at_call 26; go_must (refine (cIn 79 _).mono ?_; rintro e w9 ⟨rfl, hq⟩; obtain rfl := hq.symm; clear hq))
  go_cut [7] from 96 to 110 (fun s7 wx => s7 = .bool (K4 && cO (inB f 79) op od) ∧ Below wG.heap.size wG wx)
  case first =>
    have c0 := (HK.out wG hbB5).cell 0; have c7 := (HK.out wG hbB5).cell 7; simp at c0 c7
    cases hin : inB f 79
    · cases K4
      · go_wp2_with fail
        go_meet
        exact ⟨rfl, Below.refl _ _⟩
      · by_cases h0 : od = 0
        · subst h0
          go_wp2_with fail
          go_meet
          exact ⟨by rw [hin]; rfl, Below.refl _ _⟩
        · have q0 : (od == 0) = false := by rw [beq_eq_false_iff_ne]; exact h0
          go_wp2_with fail
          go_meet
          exact ⟨by rw [hin]; unfold cO; rw [if_neg (by simp), decide_eq_false (show ¬ (od = 0) from by omega)]; rfl, Below.refl _ _⟩
    · cases K4
      · go_wp2_with fail
        go_meet
        exact ⟨rfl, Below.refl _ _⟩
      · obtain ⟨OB, hOB⟩ : ∃ b, ordB op od = b := ⟨_, rfl⟩
        have co := specOrder op od
        simp only [hOB] at co
        have HOB : Hid (ordB op od = OB) := hOB
        clear hOB
        go_wp2_with (go_at_call 27; go_must (refine (co _).mono ?_; rintro e w9 ⟨rfl, hq⟩; obtain rfl := hq.symm; clear hq))
        go_meet
        exact ⟨by rw [hin]; unfold cO; rw [if_pos rfl, HOB.out]; cases OB <;> rfl, Below.refl _ _⟩
  case rest =>
  obtain ⟨rfl, hbc'⟩ := hcut
  have hbc := good_below hbB5 hbc'
  clear hbc'
  obtain ⟨K5, hK5⟩ : ∃ b, (K4 && cO (inB f 79) op od) = b := ⟨_, rfl⟩
  rw [hK5]
  have HK5 : Hid ((K4 && cO (inB f 79) op od) = K5) := hK5
  clear hK5
  obtain ⟨wH, hwH⟩ : ∃ W, W = wc := ⟨_, rfl⟩
  subst hwH
  have hbB6 := hbc
  clear hbc
  go_upto_if 112 with (go_at_call 26; go_must (refine (cIn 81 _).mono ?_; rintro e w9 ⟨rfl, hq⟩; obtain rfl := hq.symm; clear hq))
  go_cut [7] from 112 to 129 (fun s7 wx => s7 = .bool (K5 && cQ (inB f 81) cq) ∧ Below wH.heap.size wH wx)
  case first =>
    have c8 := (HK.out wH hbB6).cell 8; simp at c8
    cases hin : inB f 81
    · cases K5
      · go_wp2_with fail
        go_meet
        exact ⟨rfl, Below.refl _ _⟩
      · by_cases h0 : cq = 0
        · subst h0
          go_wp2_with fail
          go_meet
          exact ⟨by rw [hin]; rfl, Below.refl _ _⟩
        · have q0 : (cq == 0) = false := by rw [beq_eq_false_iff_ne]; exact h0
          go_wp2_with fail
          go_meet
          exact ⟨by rw [hin]; unfold cQ; rw [if_neg (by simp), decide_eq_false (show ¬ (cq = 0) from by omega)]; rfl, Below.refl _ _⟩
    · cases K5
      · go_wp2_with fail
        go_meet
        exact ⟨rfl, Below.refl _ _⟩
      · by_cases h1 : 1 ≤ cq
        · by_cases h2 : cq ≤ 4
          · go_wp2_with fail
            go_meet
            exact ⟨by rw [hin]; unfold cQ; rw [if_pos rfl, decide_eq_true h1, decide_eq_true h2]; rfl, Below.refl _ _⟩
          · go_wp2_with fail
            go_meet
            exact ⟨by rw [hin]; unfold cQ; rw [if_pos rfl, decide_eq_true h1, decide_eq_false (show ¬ (cq ≤ 4) from by omega)]; rfl, Below.refl _ _⟩
        · go_wp2_with fail
          go_meet
          exact ⟨by rw [hin]; unfold cQ; rw [if_pos rfl, decide_eq_false (show ¬ (1 ≤ cq) from by omega)]; rfl, Below.refl _ _⟩
  case rest =>
  obtain ⟨rfl, hbc'⟩ := hcut
  have hbc := good_below hbB6 hbc'
  clear hbc'
  obtain ⟨K6, hK6⟩ : ∃ b, (K5 && cQ (inB f 81) cq) = b := ⟨_, rfl⟩
  rw [hK6]
  have HK6 : Hid ((K5 && cQ (inB f 81) cq) = K6) := hK6
  clear hK6
  obtain ⟨wI, hwI⟩ : ∃ W, W = wc := ⟨_, rfl⟩
  subst hwI
  have hbB7 := hbc
  clear hbc
  go_upto_block 0 with fail
  go_cut [7] from 130 to 158 (fun s7 wx => s7 = .bool (K6 && cT (inB f 77) (inB f 78) tg) ∧ Below wI.heap.size wI wx)
  case first =>
    have c9 := (HK.out wI hbB7).cell 9; simp at c9
    have cM := cIn 77 wI
    have cN := cIn 78 wI
    obtain ⟨M, hM⟩ : ∃ b, inB f 77 = b := ⟨_, rfl⟩
    obtain ⟨N, hN⟩ : ∃ b, inB f 78 = b := ⟨_, rfl⟩
    have HMN : Hid (inB f 77 = M ∧ inB f 78 = N) := ⟨hM, hN⟩
    rw [hM] at cM
    rw [hN] at cN
    clear hM hN
    cases M
    · cases N
      · cases K6
        · go_wp2_with (first | (go_at_call 26; have hchk := hm; refine cN.mono ?_; rintro e w9 ⟨rfl, hq⟩; obtain rfl := hq.symm; clear hq) | (go_at_call 26; go_must (refine cM.mono ?_; rintro e w9 ⟨rfl, hq⟩; have hm : True := trivial; obtain rfl := hq.symm; clear hq)))
          go_meet
          exact ⟨by rw [HMN.out.1, HMN.out.2]; rfl, Below.refl _ _⟩
        · by_cases h0 : tg = 0
          · subst h0
            go_wp2_with (first | (go_at_call 26; have hchk := hm; refine cN.mono ?_; rintro e w9 ⟨rfl, hq⟩; obtain rfl := hq.symm; clear hq) | (go_at_call 26; go_must (refine cM.mono ?_; rintro e w9 ⟨rfl, hq⟩; have hm : True := trivial; obtain rfl := hq.symm; clear hq)))
            go_meet
            exact ⟨by rw [HMN.out.1, HMN.out.2]; rfl, Below.refl _ _⟩
          · have q0 : (tg == 0) = false := by rw [beq_eq_false_iff_ne]; exact h0
            go_wp2_with (first | (go_at_call 26; have hchk := hm; refine cN.mono ?_; rintro e w9 ⟨rfl, hq⟩; obtain rfl := hq.symm; clear hq) | (go_at_call 26; go_must (refine cM.mono ?_; rintro e w9 ⟨rfl, hq⟩; have hm : True := trivial; obtain rfl := hq.symm; clear hq)))
            go_meet
            exact ⟨by rw [HMN.out.1, HMN.out.2]; show _ = Value.bool (decide (tg = 0)); rw [decide_eq_false (show ¬ (tg = 0) from by omega)], Below.refl _ _⟩
      · cases K6
        · go_wp2_with (first | (go_at_call 26; have hchk := hm; refine cN.mono ?_; rintro e w9 ⟨rfl, hq⟩; obtain rfl := hq.symm; clear hq) | (go_at_call 26; go_must (refine cM.mono ?_; rintro e w9 ⟨rfl, hq⟩; have hm : True := trivial; obtain rfl := hq.symm; clear hq)))
          go_meet
          exact ⟨by rw [HMN.out.1, HMN.out.2]; rfl, Below.refl _ _⟩
        · by_cases h0 : 0 ≤ tg
          · go_wp2_with (first | (go_at_call 26; have hchk := hm; refine cN.mono ?_; rintro e w9 ⟨rfl, hq⟩; obtain rfl := hq.symm; clear hq) | (go_at_call 26; go_must (refine cM.mono ?_; rintro e w9 ⟨rfl, hq⟩; have hm : True := trivial; obtain rfl := hq.symm; clear hq)))
            go_meet
            exact ⟨by rw [HMN.out.1, HMN.out.2]; show _ = Value.bool (decide (0 ≤ tg)); rw [decide_eq_true h0], Below.refl _ _⟩
          · go_wp2_with (first | (go_at_call 26; have hchk := hm; refine cN.mono ?_; rintro e w9 ⟨rfl, hq⟩; obtain rfl := hq.symm; clear hq) | (go_at_call 26; go_must (refine cM.mono ?_; rintro e w9 ⟨rfl, hq⟩; have hm : True := trivial; obtain rfl := hq.symm; clear hq)))
            go_meet
            exact ⟨by rw [HMN.out.1, HMN.out.2]; show _ = Value.bool (decide (0 ≤ tg)); rw [decide_eq_false (by omega)], Below.refl _ _⟩
    · cases K6
      · go_wp2_with (first | (go_at_call 26; have hchk := hm; refine cN.mono ?_; rintro e w9 ⟨rfl, hq⟩; obtain rfl := hq.symm; clear hq) | (go_at_call 26; go_must (refine cM.mono ?_; rintro e w9 ⟨rfl, hq⟩; have hm : True := trivial; obtain rfl := hq.symm; clear hq)))
        go_meet
        exact ⟨by rw [HMN.out.1, HMN.out.2]; rfl, Below.refl _ _⟩
      · by_cases h1 : 0 ≤ tg
        · by_cases h2 : tg ≤ 99
          · go_wp2_with (first | (go_at_call 26; have hchk := hm; refine cN.mono ?_; rintro e w9 ⟨rfl, hq⟩; obtain rfl := hq.symm; clear hq) | (go_at_call 26; go_must (refine cM.mono ?_; rintro e w9 ⟨rfl, hq⟩; have hm : True := trivial; obtain rfl := hq.symm; clear hq)))
            go_meet
            exact ⟨by rw [HMN.out.1, HMN.out.2]; show _ = Value.bool (decide (0 ≤ tg) && decide (tg ≤ 99)); rw [decide_eq_true h1, decide_eq_true h2]; rfl, Below.refl _ _⟩
          · go_wp2_with (first | (go_at_call 26; have hchk := hm; refine cN.mono ?_; rintro e w9 ⟨rfl, hq⟩; obtain rfl := hq.symm; clear hq) | (go_at_call 26; go_must (refine cM.mono ?_; rintro e w9 ⟨rfl, hq⟩; have hm : True := trivial; obtain rfl := hq.symm; clear hq)))
            go_meet
            exact ⟨by rw [HMN.out.1, HMN.out.2]; show _ = Value.bool (decide (0 ≤ tg) && decide (tg ≤ 99)); rw [decide_eq_true h1, decide_eq_false (show ¬ (tg ≤ 99) from by omega)]; rfl, Below.refl _ _⟩
        · go_wp2_with (first | (go_at_call 26; have hchk := hm; refine cN.mono ?_; rintro e w9 ⟨rfl, hq⟩; obtain rfl := hq.symm; clear hq) | (go_at_call 26; go_must (refine cM.mono ?_; rintro e w9 ⟨rfl, hq⟩; have hm : True := trivial; obtain rfl := hq.symm; clear hq)))
          go_meet
          exact ⟨by rw [HMN.out.1, HMN.out.2]; show _ = Value.bool (decide (0 ≤ tg) && decide (tg ≤ 99)); rw [decide_eq_false (show ¬ (0 ≤ tg) from by omega)]; rfl, Below.refl _ _⟩
  case rest =>
  obtain ⟨rfl, hbc'⟩ := hcut
  go_wp2_with fail
  go_ret
  exact ⟨by rw [HK0.out, HK1.out, HK2.out, HK3.out, HK4.out, HK5.out, HK6.out]; rfl, HBA.out.trans ((good_below hbB7 hbc').mono HBZ.out)⟩
end Go.Proofs.YthopmdfichfhdaaGreatDoor
