/-
  Whether a program is right, and its text: rightProg, ProgOK and ProgText of the program. No statement of the seat is proved here.
-/
import Derived.Test.YthopmdfichfhdaaGreatDoorX10
import Derived.Test.YthopmdfichfhdaaGreatDoorE1
import Derived.Test.YthopmdfichfhdaaGreatDoorJ4
import Derived.Test.YthopmdfichfhdaaGreatDoorT5
namespace Go.Proofs.YthopmdfichfhdaaGreatDoor
open Go.ChangeShapes Go.WideShapes Go.ChangeAt Go.RowKit
set_option linter.unusedVariables false
set_option linter.unusedSimpArgs false

theorem OwnInss.cin {B : Nat} {w : World} {v : Value} {l : List Ins} (h : OwnInss B w v l) : CIn w v l := (OwnInss.at h).cin
/-- What ReadProg answered is a program that lies there. -/
theorem PrgAt.pin {B : Nat} {w : World} {v : Value} {r : PR} (h : PrgAt B w v r) : ∃ iv tv, v = .tuple #[.agg #[iv, tv], .int .i64 r.code, .int .i64 r.line] ∧ PIn w iv tv r.ini r.thr := by
  obtain ⟨iv, tv, tvs, e, h1, h2, h3⟩ := h
  refine ⟨iv, tv, e, (OwnNums.at h1).nin, ?_⟩
  have hl := h3.len
  rcases Nat.eq_zero_or_pos tvs.length with z | z
  · have hz : r.thr.length = 0 := by omega
    rcases h2.2 with ⟨e1, _⟩ | ⟨g, cap, cur, e1, _⟩
    · exact ⟨none, 0, by rw [e1, hz], fun j hj => by omega⟩
    · exact ⟨_, cap, by rw [e1, hl], fun j hj => by omega⟩
  · obtain ⟨g, cap, e1, hB, hlt, hc, -⟩ := row_cell h2 z
    refine ⟨some ⟨g, 0, none⟩, cap, by rw [e1, hl], fun j hj => ?_⟩
    have hj' : j < tvs.length := by omega
    have hcj := (hc j hj').1
    rw [List.getElem?_eq_getElem hj'] at hcj
    refine ⟨g, 0, tvs[j], rfl, by rw [Nat.zero_add]; exact hcj, ?_⟩
    have := h3.own j tvs[j] r.thr[j] (List.getElem?_eq_getElem hj') (List.getElem?_eq_getElem hj)
    have hg : r.thr.getD j [] = r.thr[j] := by rw [List.getD_eq_getElem?_getD, List.getElem?_eq_getElem hj]; rfl
    rw [hg]
    exact this.cin
theorem done_line {p : Int × Rd} (h : (doneR p).code = 0) : (doneR p).line = 0 := by
  unfold doneR at h ⊢
  split
  · rename_i e
    rw [if_pos e] at h
    unfold outR at h ⊢
    split
    · rfl
    · rename_i e2
      rw [if_neg e2] at h
      exact absurd h e2
  · rename_i e
    rw [if_neg e] at h
    exact absurd h e
theorem done_fit (t : ByteArray) : (doneR (runR rd0 (cutF t 10))).ini.length ≤ 8 ∧ (doneR (runR rd0 (cutF t 10))).thr.length ≤ 4 ∧ ∀ c ∈ (doneR (runR rd0 (cutF t 10))).thr, c.length ≤ 40 := by
  unfold doneR
  split
  · rename_i e
    have hv := run_inv (cutF t 10) rd0 inv0 (by decide) e
    unfold outR
    split
    · exact ⟨hv.fit.ini, hv.fit.thr, hv.fit.cod⟩
    · exact ⟨by simp, by simp, fun c hc => by cases hc⟩
  · exact ⟨by simp, by simp, fun c hc => by cases hc⟩
theorem text_size {ini : List Int} {thr : List (List Ins)} (hi : ini.length ≤ 8) (ht : thr.length ≤ 4) (hc : ∀ c ∈ thr, c.length ≤ 40) (hn : ∀ v ∈ ini, i64B v) (hx : ∀ c ∈ thr, ∀ x ∈ c, Ins64 x) : (textP ini thr).size ≤ 65536 := by
  have h1 := join_le (s := [10]) _ (line_len hi hn hx)
  have h2 := lines_few ini thr hc
  have h3 : (linesP ini thr).length * (200 + [10].length) ≤ 165 * 201 := Nat.mul_le_mul (by omega) (by decide)
  show (Lib.join (linesP ini thr) [10] ++ [10]).length ≤ 65536
  rw [List.length_append, List.length_singleton]
  omega
theorem any_long {thr : List (List Ins)} (h : thr.any longB = false) : ∀ c ∈ thr, c.length ≤ 40 := by
  intro c hc
  rw [List.any_eq_false] at h
  have := h c hc
  unfold longB at this
  simp only [decide_eq_true_eq] at this
  omega
theorem long_no {ini : List Int} {thr : List (List Ins)} (h : thr.any longB = true) : ¬ OkP ini thr := by
  intro ok
  rw [List.any_eq_true] at h
  obtain ⟨c, hc, h⟩ := h
  have := ok.len c hc
  unfold longB at h
  simp only [decide_eq_true_eq] at h
  omega
open Classical in
/-- The text of a right program, the empty text of another one. -/
noncomputable def rightT (ini : List Int) (thr : List (List Ins)) : ByteArray := if OkP ini thr then textP ini thr else ⟨#[]⟩
theorem rightT_ok {ini : List Int} {thr : List (List Ins)} (h : OkP ini thr) : rightT ini thr = textP ini thr := by unfold rightT; rw [if_pos h]
theorem rightT_no {ini : List Int} {thr : List (List Ins)} (h : ¬ OkP ini thr) : rightT ini thr = ⟨#[]⟩ := by unfold rightT; rw [if_neg h]
/-- What rightProg answers. -/
def RightW (ini : List Int) (thr : List (List Ins)) (v : Value) : Prop := v = .tuple #[.string (rightT ini thr), .bool (holdsB (OkP ini thr))]
theorem rightW_no {ini : List Int} {thr : List (List Ins)} (h : ¬ OkP ini thr) : RightW ini thr (.tuple #[.string ⟨#[]⟩, .bool false]) := by
  unfold RightW
  rw [rightT_no h, holdsB_false h]
theorem rightW_ok {ini : List Int} {thr : List (List Ins)} (h : OkP ini thr) : RightW ini thr (.tuple #[.string (textP ini thr), .bool true]) := by
  unfold RightW
  rw [rightT_ok h, holdsB_true h]
set_option maxRecDepth 100000 in
set_option maxHeartbeats 16000000 in
theorem implRightProg {ini : List Int} {thr : List (List Ins)} {iv tv : Value} (w : World) (h : PIn w iv tv ini thr) (hi : ini.length ≤ 2000000) (ht : thr.length ≤ 2000000) (hn : ∀ v ∈ ini, i64B v) (hx : ∀ c ∈ thr, ∀ x ∈ c, Ins64 x) (hT : PowT w) :
    Calls Tryz.prog 18 #[.agg #[iv, tv]] w fun e w' => (∃ v, e = .returned v ∧ RightW ini thr v) ∧ Below w.heap.size w w' := by
  have HP : Hid (∀ W, Below w.heap.size w W → PIn W iv tv ini thr) := fun W hW => h.below hW
  have HT : Hid (∀ W, Below w.heap.size w W → PowT W) := fun W hW => hT.below hW
  have HN : Hid (∀ v ∈ ini, i64B v) := hn
  have HX : Hid (∀ c ∈ thr, ∀ x ∈ c, Ins64 x) := hx
  obtain ⟨⟨ia, ic, rfl, -⟩, ta, tc, rfl, -⟩ := h
  have hi' : (ini.length : Int) ≤ 2000000 := by omega
  have ht' : (thr.length : Int) ≤ 2000000 := by omega
  clear hn hx hT
  have bB : Below w.heap.size w (w.alloc (.cells #[.slice ia ini.length ic, .slice ta thr.length tc] 30)) := (Below.refl _ w).alloc (Nat.le_refl _) _
  have kB : Blk (w.alloc (.cells #[.slice ia ini.length ic, .slice ta thr.length tc] 30)) w.heap.size 30 #[.slice ia ini.length ic, .slice ta thr.length tc] := heap_alloc_last w _
  go_enter Tryz.func18, Tryz.ntmps18
  go_upto_region 2 with fail
  obtain ⟨wB, hwB⟩ : ∃ W, w.alloc (.cells #[.slice ia ini.length ic, .slice ta thr.length tc] 30) = W := ⟨_, rfl⟩
  rw [hwB] at bB kB ⊢
  clear hwB
  obtain ⟨b0, hb0⟩ : ∃ b, w.heap.size = b := ⟨_, rfl⟩
  rw [hb0] at kB ⊢
  have HKB : Hid (∀ W, Below wB.heap.size wB W → Blk W b0 30 #[.slice ia ini.length ic, .slice ta thr.length tc]) := fun W hW => kB.below hW
  have HBB : Hid (∀ W, Below wB.heap.size wB W → Below w.heap.size w W) := fun W hW => good_below bB hW
  have HB0 : Hid (∀ W, Below w.heap.size w W → Below b0 w W) := fun W hW => hb0 ▸ hW
  have l0 := kB.cell 0
  have l1 := kB.cell 1
  simp at l0 l1
  have hlow : b0 < wB.heap.size := kB.lt
  clear kB
  by_cases c1 : (8 : Int) < (ini.length : Int)
  · have hno : ¬ OkP ini thr := fun ok => by have := ok.i8; omega
    have HNO : Hid (¬ OkP ini thr) := hno
    clear hno
    go_wp2_with fail
    go_ret2
    exact ⟨⟨_, rfl, rightW_no HNO.out⟩, by first | exact bB | exact HB0.out _ bB⟩
  by_cases c2 : (4 : Int) < (thr.length : Int)
  · have hno : ¬ OkP ini thr := fun ok => by have := ok.t4; omega
    have HNO : Hid (¬ OkP ini thr) := hno
    clear hno
    go_wp2_with fail
    go_ret2
    exact ⟨⟨_, rfl, rightW_no HNO.out⟩, by first | exact bB | exact HB0.out _ bB⟩
  have cl := implAnyLong wB (HP.out wB bB).tin ht
  cases hlong : thr.any longB
  case true =>
    rw [hlong] at cl
    have HNO : Hid (¬ OkP ini thr) := long_no hlong
    clear hlong
    go_wp2_with (go_at_call 30; go_must (refine cl.mono ?_; rintro e w1 ⟨rfl, hb1⟩))
    go_ret2
    exact ⟨⟨_, rfl, rightW_no HNO.out⟩, by first | exact HBB.out _ hb1 | exact HB0.out _ (HBB.out _ hb1)⟩
  rw [hlong] at cl
  have HC : Hid (∀ c ∈ thr, c.length ≤ 40) := any_long hlong
  clear hlong
  have hi8 : ini.length ≤ 8 := by omega
  have ht4 : thr.length ≤ 4 := by omega
  go_upto_region 4 with (go_at_call 30; go_must (refine cl.mono ?_; rintro e w1 ⟨rfl, hb1⟩))
  have q := (HKB.out _ hb1)
  have m0 := q.cell 0
  have m1 := q.cell 1
  simp at m0 m1
  have ct := implProgText w1 (HP.out w1 (HBB.out w1 hb1)) hi8 ht4 HC.out HN.out HX.out (HT.out w1 (HBB.out w1 hb1))
  have hsz := text_size hi8 ht4 HC.out HN.out HX.out
  obtain ⟨R, hR⟩ : ∃ R, doneR (runR rd0 (cutF (textP ini thr) 10)) = R := ⟨_, rfl⟩
  have hfit := done_fit (textP ini thr)
  have hline := done_line (p := runR rd0 (cutF (textP ini thr) 10))
  have hok : OkP ini thr ↔ doneR (runR rd0 (cutF (textP ini thr) 10)) = ⟨ini, thr, 0, 0⟩ := right_iff
  have hread := fun W : World => callsIn_wide.1 (readIn 4 (Nat.le_refl _) (textP ini thr) hsz W)
  rw [hR] at hfit hline hok hread
  have HTX : Hid (∀ {v}, v = Value.tuple #[.string (textP ini thr), .bool true] → OkP ini thr → RightW ini thr v) := fun e h => e ▸ rightW_ok h
  obtain ⟨X, hX⟩ : ∃ X, textP ini thr = X := ⟨_, rfl⟩
  rw [hX] at ct hsz hread HTX
  have HFIT : Hid (R.ini.length ≤ 8 ∧ R.thr.length ≤ 4 ∧ ∀ c ∈ R.thr, c.length ≤ 40) := hfit
  have HLN : Hid (R.code = 0 → R.line = 0) := hline
  have HOK : Hid (OkP ini thr ↔ R = ⟨ini, thr, 0, 0⟩) := hok
  have HRD : Hid (∀ W : World, Calls Tryz.prog 32 #[.string X] W fun e w' => (∃ v, e = .returned v ∧ PrgAt W.heap.size w' v R) ∧ Below W.heap.size W w') := hread
  clear hR hX hfit hline hok hread cl l0 l1 hsz
  go_upto_region 5 with (go_at_call 31; go_must (refine ct.mono ?_; rintro e w2 ⟨rfl, hb2⟩))
  have HB2 : Hid (Below wB.heap.size wB w2) := good_below hb1 hb2
  have cr := HRD.out w2
  clear m0 m1 q
  go_upto_region 6 with (go_at_call 32; go_must (refine cr.mono ?_; rintro e w3 ⟨⟨v3, rfl, hv3⟩, hb3⟩; obtain ⟨iv3, tv3, rfl, hp3⟩ := hv3.pin; obtain ⟨⟨ia3, ic3, rfl, hpi⟩, ta3, tc3, rfl, hpt⟩ := hp3; have HP3 : Hid (PIn w3 (.slice ia3 R.ini.length ic3) (.slice ta3 R.thr.length tc3) R.ini R.thr) := ⟨⟨ia3, ic3, rfl, hpi⟩, ta3, tc3, rfl, hpt⟩; clear hpi hpt hv3))
  have b3 : Below wB.heap.size wB w3 := good_below HB2.out hb3
  obtain ⟨P3, hP3⟩ : ∃ p : Array Value, p = #[.slice ia3 R.ini.length ic3, .slice ta3 R.thr.length tc3] := ⟨_, rfl⟩
  have k4 : Blk (w3.alloc (.cells #[.slice ia3 R.ini.length ic3, .slice ta3 R.thr.length tc3] 30)) w3.heap.size 30 #[.slice ia3 R.ini.length ic3, .slice ta3 R.thr.length tc3] := heap_alloc_last w3 _
  have b4 : Below w3.heap.size w3 (w3.alloc (.cells #[.slice ia3 R.ini.length ic3, .slice ta3 R.thr.length tc3] 30)) := (Below.refl _ w3).alloc (Nat.le_refl _) _
  obtain ⟨w4, hw4⟩ : ∃ W, w3.alloc (.cells #[.slice ia3 R.ini.length ic3, .slice ta3 R.thr.length tc3] 30) = W := ⟨_, rfl⟩
  rw [hw4] at k4 b4 ⊢
  obtain ⟨g4, hg4⟩ : ∃ g, w3.heap.size = g := ⟨_, rfl⟩
  rw [hg4] at k4 ⊢
  have B4 : Below wB.heap.size wB w4 := good_below b3 b4
  have HB4 : Hid (Below wB.heap.size wB w4) := B4
  have HK4 : Hid (∀ W, Below w4.heap.size w4 W → Blk W g4 30 #[.slice ia3 R.ini.length ic3, .slice ta3 R.thr.length tc3]) := fun W hW => k4.below hW
  have HP4 : Hid (∀ W, Below w4.heap.size w4 W → PIn W (.slice ia3 R.ini.length ic3) (.slice ta3 R.thr.length tc3) R.ini R.thr) := fun W hW => (HP3.out.below b4).below hW
  have HQ4 : Hid (∀ W, Below w4.heap.size w4 W → PIn W (.slice ia ini.length ic) (.slice ta thr.length tc) ini thr) := fun W hW => HP.out W (HBB.out W (good_below HB4.out hW))
  have HKB4 : Hid (∀ W, Below w4.heap.size w4 W → Blk W b0 30 #[.slice ia ini.length ic, .slice ta thr.length tc]) := fun W hW => HKB.out W (good_below HB4.out hW)
  have kB4 := HKB4.out w4 (Below.refl _ _)
  have n0 := k4.cell 0
  have n1 := k4.cell 1
  have m0 := kB4.cell 0
  have m1 := kB4.cell 1
  simp at n0 n1 m0 m1
  clear hw4 hP3 hg4 k4 b4 kB4 b3 hb3 B4 cr ct hb2
  have ce1 := implEqualInt w4 (HP4.out w4 (Below.refl _ _)).i (HQ4.out w4 (Below.refl _ _)).i (by have := HFIT.out.1; omega) (by omega)
  by_cases cc : R.code = 0
  case neg =>
    have HNO : Hid (¬ OkP ini thr) := fun ok => cc (by rw [HOK.out.1 ok])
    clear ce1
    go_wp2_with fail
    go_ret2
    exact ⟨⟨_, rfl, rightW_no HNO.out⟩, by first | exact HBB.out _ HB4.out | exact HB0.out _ (HBB.out _ HB4.out)⟩
  by_cases e1 : R.ini = ini
  case neg =>
    have HNO : Hid (¬ OkP ini thr) := fun ok => e1 (by rw [HOK.out.1 ok])
    rw [holdsB_false e1] at ce1
    clear e1
    go_wp2_with (go_at_call 33; go_must (refine ce1.mono ?_; rintro e w5 ⟨rfl, hb5⟩))
    go_ret2
    exact ⟨⟨_, rfl, rightW_no HNO.out⟩, by first | exact HBB.out _ (good_below HB4.out hb5) | exact HB0.out _ (HBB.out _ (good_below HB4.out hb5))⟩
  have HE1 : Hid (R.ini = ini) := e1
  rw [holdsB_true e1] at ce1
  clear e1
  have ce2 := fun w5 (hb5 : Below w4.heap.size w4 w5) => implEqualThr w5 (HP4.out w5 hb5).tin (HQ4.out w5 hb5).tin (by have := HFIT.out.2.1; omega) (by omega) (fun c hc => by have := HFIT.out.2.2 c hc; omega) (fun c hc => by have := HC.out c hc; omega)
  by_cases e2 : R.thr = thr
  case neg =>
    have HNO : Hid (¬ OkP ini thr) := fun ok => e2 (by rw [HOK.out.1 ok])
    rw [holdsB_false e2] at ce2
    have HCE : Hid (∀ w5, Below w4.heap.size w4 w5 → _) := ce2
    clear e2 ce2
    go_wp2_with (first
      | (go_at_call 34; go_must (refine (HCE.out _ hb5).mono ?_; rintro e w6 ⟨rfl, hb6⟩))
      | (go_at_call 33; go_must (refine ce1.mono ?_; rintro e w5 ⟨rfl, hb5⟩; have q1 := HK4.out _ hb5; have q2 := HKB4.out _ hb5; have y1 := q1.cell 1; have y2 := q2.cell 1; simp at y1 y2; clear q1 q2)))
    go_ret2
    exact ⟨⟨_, rfl, rightW_no HNO.out⟩, by first | exact HBB.out _ (good_below (good_below HB4.out hb5) hb6) | exact HB0.out _ (HBB.out _ (good_below (good_below HB4.out hb5) hb6))⟩
  have HE2 : Hid (R.thr = thr) := e2
  rw [holdsB_true e2] at ce2
  have HCE : Hid (∀ w5, Below w4.heap.size w4 w5 → _) := ce2
  have HYES : Hid (OkP ini thr) := HOK.out.2 (by
    obtain ⟨i, t, c, l⟩ := R
    have h1 := HE1.out
    have h2 := HE2.out
    have h3 := HLN.out cc
    dsimp only at h1 h2 h3 cc
    rw [h1, h2, h3, cc])
  clear e2 ce2
  go_wp2_with (first
    | (go_at_call 34; go_must (refine (HCE.out _ hb5).mono ?_; rintro e w6 ⟨rfl, hb6⟩))
    | (go_at_call 33; go_must (refine ce1.mono ?_; rintro e w5 ⟨rfl, hb5⟩; have q1 := HK4.out _ hb5; have q2 := HKB4.out _ hb5; have y1 := q1.cell 1; have y2 := q2.cell 1; simp at y1 y2; clear q1 q2)))
  go_ret2
  exact ⟨⟨_, rfl, HTX.out rfl HYES.out⟩, by first | exact HBB.out _ (good_below (good_below HB4.out hb5) hb6) | exact HB0.out _ (HBB.out _ (good_below (good_below HB4.out hb5) hb6))⟩
set_option maxRecDepth 100000 in
theorem implProgOK {ini : List Int} {thr : List (List Ins)} {iv tv : Value} (w : World) (h : PIn w iv tv ini thr) (hi : ini.length ≤ 2000000) (ht : thr.length ≤ 2000000) (hn : ∀ v ∈ ini, i64B v) (hx : ∀ c ∈ thr, ∀ x ∈ c, Ins64 x) (hT : PowT w) :
    Calls Tryz.prog 8 #[.agg #[iv, tv]] w fun e w' => e = .returned (.bool (holdsB (OkP ini thr))) ∧ Below w.heap.size w w' := by
  have hw1 : ∀ o, Below w.heap.size w (w.alloc o) := fun o => (Below.refl _ w).alloc (Nat.le_refl _) _
  have cr := implRightProg (w.alloc (.cells #[iv, tv] 30)) (h.below (hw1 _)) hi ht hn hx (hT.below (hw1 _))
  obtain ⟨⟨ia, ic, rfl, -⟩, ta, tc, rfl, -⟩ := h
  unfold RightW at cr
  generalize holdsB (OkP ini thr) = B at cr ⊢
  generalize rightT ini thr = X at cr
  clear hn hx hT
  go_enter Tryz.func8, Tryz.ntmps8
  go_wp2_with (go_at_call 18; go_must (refine cr.mono ?_; rintro e w2 ⟨⟨v2, rfl, rfl⟩, hb2⟩))
  go_ret
  exact ⟨rfl, good_below (hw1 _) hb2⟩
set_option maxRecDepth 100000 in
theorem implProgTextT {ini : List Int} {thr : List (List Ins)} {iv tv : Value} (w : World) (h : PIn w iv tv ini thr) (hi : ini.length ≤ 2000000) (ht : thr.length ≤ 2000000) (hn : ∀ v ∈ ini, i64B v) (hx : ∀ c ∈ thr, ∀ x ∈ c, Ins64 x) (hT : PowT w) :
    Calls Tryz.prog 11 #[.agg #[iv, tv]] w fun e w' => e = .returned (.tuple #[.string (rightT ini thr), .int .i64 (if holdsB (OkP ini thr) = true then 0 else 1)]) ∧ Below w.heap.size w w' := by
  have hw1 : ∀ o, Below w.heap.size w (w.alloc o) := fun o => (Below.refl _ w).alloc (Nat.le_refl _) _
  have cr := implRightProg (w.alloc (.cells #[iv, tv] 30)) (h.below (hw1 _)) hi ht hn hx (hT.below (hw1 _))
  obtain ⟨⟨ia, ic, rfl, -⟩, ta, tc, rfl, -⟩ := h
  unfold RightW at cr
  have HN : Hid (holdsB (OkP ini thr) = false → rightT ini thr = ⟨#[]⟩) := fun h => rightT_no (fun ok => by rw [holdsB_true ok] at h; cases h)
  generalize holdsB (OkP ini thr) = B at cr HN ⊢
  generalize rightT ini thr = X at cr HN ⊢
  clear hn hx hT
  go_enter Tryz.func11, Tryz.ntmps11
  cases B
  · obtain rfl := HN.out rfl
    go_wp2_with (go_at_call 18; go_must (refine cr.mono ?_; rintro e w2 ⟨⟨v2, rfl, rfl⟩, hb2⟩))
    go_ret2
    exact ⟨rfl, good_below (hw1 _) hb2⟩
  · go_wp2_with (go_at_call 18; go_must (refine cr.mono ?_; rintro e w2 ⟨⟨v2, rfl, rfl⟩, hb2⟩))
    go_ret2
    exact ⟨rfl, good_below (hw1 _) hb2⟩
end Go.Proofs.YthopmdfichfhdaaGreatDoor
