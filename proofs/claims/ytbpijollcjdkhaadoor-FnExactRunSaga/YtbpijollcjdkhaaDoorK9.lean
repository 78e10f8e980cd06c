/-
  What the document's message does. No statement of the seat is proved here.
-/
import Derived.Test.YtbpijollcjdkhaaDoorK8
namespace Go.Proofs.YtbpijollcjdkhaaDoor
open Go.ChangeShapes Go.WideShapes Go.ChangeAt Go.RowKit
set_option linter.unusedVariables false
set_option linter.unusedSimpArgs false

section
variable {S : Nat → Prop} {B : Nat} {l : List Step} {a : Option Addr} {cap g gi gt : Nat} {dv rv cv : Value} {w0 w : World} {s : Sg} {reps : List Int}
/-- What a message is answered, case by case. -/
theorem code_none {m : Msg} (h : findI (names l) m.step < 0) : codeS l s m = 7 ∧ hearS l s m = s := by
  have : codeS l s m = 7 := by unfold codeS; rw [if_pos h]
  exact ⟨this, by unfold hearS; rw [this, if_neg (by omega)]⟩
theorem code_kind {m : Msg} (h : ¬ findI (names l) m.step < 0) (h1 : m.kind < 1 ∨ 4 < m.kind) : codeS l s m = 19 ∧ hearS l s m = s := by
  have : codeS l s m = 19 := by unfold codeS; rw [if_neg h, if_pos h1]
  exact ⟨this, by unfold hearS; rw [this, if_neg (by omega)]⟩
theorem code_over {m : Msg} (h : ¬ findI (names l) m.step < 0) (h1 : ¬ (m.kind < 1 ∨ 4 < m.kind)) (h2 : s.st ≠ 1 ∧ s.st ≠ 2) : codeS l s m = 14 ∧ hearS l s m = s := by
  have : codeS l s m = 14 := by unfold codeS; rw [if_neg h, if_neg h1, if_pos h2]
  exact ⟨this, by unfold hearS; rw [this, if_neg (by omega)]⟩
theorem code_not {m : Msg} (h : ¬ findI (names l) m.step < 0) (h1 : ¬ (m.kind < 1 ∨ 4 < m.kind)) (h2 : ¬ (s.st ≠ 1 ∧ s.st ≠ 2)) (h3 : isAt s (numOf l m.step) ≠ wantI m.kind) : codeS l s m = 14 ∧ hearS l s m = s := by
  have : codeS l s m = 14 := by unfold codeS; rw [if_neg h, if_neg h1, if_neg h2, if_pos h3]
  exact ⟨this, by unfold hearS; rw [this, if_neg (by omega)]⟩
theorem code_fits {m : Msg} (h : ¬ findI (names l) m.step < 0) (h1 : ¬ (m.kind < 1 ∨ 4 < m.kind)) (h2 : ¬ (s.st ≠ 1 ∧ s.st ≠ 2)) (h3 : ¬ isAt s (numOf l m.step) ≠ wantI m.kind) : codeS l s m = 0 ∧ hearS l s m = goOnS l (moveS l s (numOf l m.step) m.kind) := by
  have : codeS l s m = 0 := by unfold codeS; rw [if_neg h, if_neg h1, if_neg h2, if_neg h3]
  exact ⟨this, by unfold hearS; rw [if_pos this]⟩
theorem move_st (l : List Step) {s : Sg} (h : s.st = 1 ∨ s.st = 2) (k : Nat) (kind : Int) : (moveS l s k kind).st = 1 ∨ (moveS l s k kind).st = 2 ∨ (moveS l s k kind).st = 5 := by
  unfold moveS
  split
  · simp only [setIs]; omega
  · split
    · split
      · simp only [again, cmdS, setTr]; omega
      · simp [setSt]
    · split
      · simp only [setIs]; omega
      · split
        · simp only [again, cmdS, setTr]; omega
        · simp [setSt]
theorem move_one (l : List Step) (s : Sg) (k : Nat) : moveS l s k 1 = { setIs s k 2 with done := s.done ++ [k] } := by simp [moveS]
theorem move_two_a {k : Nat} (h : s.st = 1) (hm : moreB l s k = true) : moveS l s k 2 = cmdS l (setTr s k (trAt s k + 1)) 1 k := by simp [moveS, again, h, hm]
theorem move_two_b {k : Nat} (h : ¬ (s.st = 1 ∧ moreB l s k = true)) : moveS l s k 2 = setSt (setIs s k 0) 2 := by
  unfold moveS
  rw [if_neg (by omega), if_pos rfl, if_neg (by simpa using h)]
theorem move_three (l : List Step) (s : Sg) (k : Nat) : moveS l s k 3 = setIs s k 4 := by simp [moveS]
theorem move_four_a {k : Nat} (hm : moreB l s k = true) : moveS l s k 4 = cmdS l (setTr s k (trAt s k + 1)) 2 k := by simp [moveS, again, hm]
theorem move_four_b {k : Nat} (hm : moreB l s k = false) : moveS l s k 4 = setSt s 5 := by simp [moveS, hm]
theorem RunS.apartD (h : RunS S B l a cap g gi gt dv rv cv w0 w s reps) {v : Value} (hat : v.ownBlock = dv.ownBlock ∨ v.ownBlock = some w.heap.size) : Off v gi ∧ Off v gt ∧ (v.ownBlock = none ∨ v.ownBlock ≠ rv.ownBlock) := by
  obtain ⟨cs, hci, _⟩ := h.is
  obtain ⟨ct, hct, _⟩ := h.tr
  have l1 := hci.lt
  have l2 := hct.lt
  rcases hat with e | e
  · unfold Off; rw [e]; exact ⟨h.di.1, h.di.2, h.dr⟩
  · unfold Off; rw [e]
    refine ⟨fun e => by injection e with e; omega, fun e => by injection e with e; omega, .inr fun e => ?_⟩
    have := h.reps.low e.symm
    omega
theorem RunS.apartR (h : RunS S B l a cap g gi gt dv rv cv w0 w s reps) {v : Value} (hat : v.ownBlock = rv.ownBlock ∨ v.ownBlock = some w.heap.size) : Off v gi ∧ Off v gt ∧ (dv.ownBlock = none ∨ dv.ownBlock ≠ v.ownBlock) := by
  obtain ⟨cs, hci, _⟩ := h.is
  obtain ⟨ct, hct, _⟩ := h.tr
  have l1 := hci.lt
  have l2 := hct.lt
  rcases hat with e | e
  · unfold Off; rw [e]; exact ⟨h.ri.1, h.ri.2, h.dr⟩
  · unfold Off; rw [e]
    refine ⟨fun e => by injection e with e; omega, fun e => by injection e with e; omega, .inr fun e => ?_⟩
    have := h.done.low e
    omega
set_option maxRecDepth 100000 in
set_option maxHeartbeats 8000000 in
theorem specMessage (hcm : CommandC 46) (h : RunS S B l a cap g gi gt dv rv cv w0 w s reps) (ms : ByteArray) (mk : Int) (hc : s.cmds.length ≤ 700000) :
    Calls Tryd.prog 21 #[.pointer (some ⟨g, 0, none⟩), .agg #[.string ms, .int .i64 mk]] w fun e w' => e = .returned (.int .i64 (codeS l s ⟨ms, mk⟩)) ∧ ∃ dv' cv', RunS S B l a cap g gi gt dv' rv cv' w0 w' (hearS l s ⟨ms, mk⟩) reps := by
  have hl : l.length ≤ 20 := h.saga.len.2
  have hl' : (l.length : Int) ≤ 20 := by omega
  have hA : Below w.heap.size w (w.alloc (.cells #[.string ms, .int .i64 mk] 53)) := (Below.refl _ w).alloc (Nat.le_refl _) _
  have kb : Blk (w.alloc (.cells #[.string ms, .int .i64 mk] 53)) w.heap.size 53 #[.string ms, .int .i64 mk] := heap_alloc_new w _
  have HRA := h.go hA
  have HCM : Hid (CommandC 46) := hcm
  have HC : Hid (s.cmds.length ≤ 700000) := hc
  obtain ⟨bx, hbx⟩ : ∃ bx, w.heap.size = bx := ⟨_, rfl⟩
  obtain ⟨C, hC⟩ : ∃ C, codeS l s ⟨ms, mk⟩ = C := ⟨_, rfl⟩
  obtain ⟨R, hR⟩ : ∃ R, hearS l s ⟨ms, mk⟩ = R := ⟨_, rfl⟩
  rw [hC, hR]
  have HCC : Hid (codeS l s ⟨ms, mk⟩ = C) := hC
  have HRC : Hid (hearS l s ⟨ms, mk⟩ = R) := hR
  clear h hc hcm hA hC hR
  go_enter Tryd.func21, Tryd.ntmps21
  go_upto_region 1 with fail
  obtain ⟨wa, hwa⟩ : ∃ wa, w.alloc (.cells #[.string ms, .int .i64 mk] 53) = wa := ⟨_, rfl⟩
  rw [hwa] at HRA kb ⊢
  rw [hbx] at kb
  clear hwa hbx
  have cf := fun W (hW : Below wa.heap.size wa W) => HRA.findC ms hW
  have p0 := fun N : GoodW (fun W => Below wa.heap.size wa W) => (HRA.go N.ok).blk.cell 0
  have pm := fun N : GoodW (fun W => Below wa.heap.size wa W) => (Blk.below kb N.ok).cell 0
  simp at p0 pm
  haveI ne : Nonempty (GoodW (fun W => Below wa.heap.size wa W)) := ⟨⟨_, Below.refl _ _⟩⟩
  have HKB : Hid (Blk wa bx 53 #[.string ms, .int .i64 mk]) := kb
  have HR1 : Hid (RunS S B l a cap g gi gt dv rv cv w0 wa s reps) := HRA
  clear kb HRA
  by_cases hneg : findI (names l) ms < 0
  case pos =>
    obtain ⟨e1, e2⟩ := code_none (l := l) (s := s) (m := ⟨ms, mk⟩) hneg
    rw [HCC.out] at e1
    rw [HRC.out] at e2
    subst e1
    subst e2
    clear HCC HRC
    obtain ⟨fi, hfi⟩ : ∃ fi, findI (names l) ms = fi := ⟨_, rfl⟩
    rw [hfi] at hneg
    simp only [hfi] at cf
    clear hfi
    refine wp_region_calm (fun W => Below wa.heap.size wa W) (by kernel_rfl) (by kernel_rfl) (Below.refl _ _).drew ?_
    repeat (go_big_quiet_step ((go_at_call 43; exact Calls.calm_same _ ((cf _ (GoodW.ok _)).mono fun _ _ ⟨h1, h2⟩ => ⟨h1, h2.symm⟩))))
    refine wpQuiet_nil ?_
    rintro W2 ⟨⟨W3, hW3⟩, hWe⟩
    have hW2 : Below wa.heap.size wa W2 := hWe ▸ hW3
    clear hWe hW3
    clear cf p0 pm
    go_wp2_with fail
    go_ret
    exact ⟨rfl, dv, cv, HR1.out.go hW2⟩
  case neg =>
    obtain ⟨hjl, hj⟩ := find_lt (Int.not_lt.1 hneg)
    have K1 := code_kind (l := l) (s := s) (m := ⟨ms, mk⟩) hneg
    have K2 := code_over (l := l) (s := s) (m := ⟨ms, mk⟩) hneg
    have K3 := code_not (l := l) (s := s) (m := ⟨ms, mk⟩) hneg
    have K4 := code_fits (l := l) (s := s) (m := ⟨ms, mk⟩) hneg
    rw [HCC.out, HRC.out] at K1 K2 K3 K4
    clear HCC HRC hneg
    dsimp only at K1 K2 K3 K4
    simp only [← hj] at cf
    obtain ⟨j, hjj⟩ : ∃ j, numOf l ms = j := ⟨_, rfl⟩
    rw [hjj] at hjl K3 K4
    simp only [hjj] at cf
    clear hj hjj
    have hjl' : (j : Int) < (l.length : Int) := by omega
    refine wp_region_calm (fun W => Below wa.heap.size wa W) (by kernel_rfl) (by kernel_rfl) (Below.refl _ _).drew ?_
    repeat (go_big_quiet_step ((go_at_call 43; exact Calls.calm_same _ ((cf _ (GoodW.ok _)).mono fun _ _ ⟨h1, h2⟩ => ⟨h1, h2.symm⟩))))
    refine wpQuiet_nil ?_
    rintro W2 ⟨⟨W3, hW3⟩, hWe⟩
    have hW2 : Below wa.heap.size wa W2 := hWe ▸ hW3
    clear hWe hW3
    clear cf p0 pm
    have H2 := HR1.out.go hW2
    have k1 := (Blk.below HKB.out hW2).cell 1
    simp at k1
    have HR2 : Hid (RunS S B l a cap g gi gt dv rv cv w0 W2 s reps) := H2
    have HKB2 : Hid (Blk W2 bx 53 #[.string ms, .int .i64 mk]) := Blk.below HKB.out hW2
    clear HR1 HKB ne hW2
    have c5 := H2.blk.cell 5
    have c1 := H2.blk.cell 1
    simp at c5 c1
    have d1 := (H2.isCell j hjl).1
    by_cases hm1 : mk < 1
    case pos =>
      obtain ⟨rfl, rfl⟩ := K1 (.inl hm1)
      clear K1 K2 K3 K4 H2
      go_wp2_with fail
      go_ret
      exact ⟨rfl, dv, cv, HR2.out⟩
    by_cases hm4 : mk > 4
    case pos =>
      obtain ⟨rfl, rfl⟩ := K1 (.inr hm4)
      clear K1 K2 K3 K4 H2
      go_wp2_with fail
      go_ret
      exact ⟨rfl, dv, cv, HR2.out⟩
    have hmm : ¬ (mk < 1 ∨ 4 < mk) := by omega
    have K2' := K2 hmm
    have K3' := K3 hmm
    have K4' := K4 hmm
    clear K1 K2 K3 K4
    obtain ⟨st, hst⟩ : ∃ st, s.st = st := ⟨_, rfl⟩
    rw [hst] at c5 K2' K3' K4'
    have HST : Hid (s.st = st) := hst
    clear hst hmm
    by_cases hs1 : st = 1 ∨ st = 2
    case neg =>
      obtain ⟨rfl, rfl⟩ := K2' (by omega)
      have s1 : (st == 1) = false := by simp; omega
      have s2 : (st != 2) = true := by simp; omega
      clear K2' K3' K4' H2 hs1
      go_wp2_with fail
      go_ret
      exact ⟨rfl, dv, cv, HR2.out⟩
    have K3 := K3' (by omega)
    have K4 := K4' (by omega)
    clear K2' K3' K4'
    obtain ⟨iv, hiv⟩ : ∃ iv, isAt s j = iv := ⟨_, rfl⟩
    rw [hiv] at d1 K3 K4
    have HIV : Hid (isAt s j = iv) := hiv
    clear hiv
    have hmk : mk = 1 ∨ mk = 2 ∨ mk = 3 ∨ mk = 4 := by omega
    by_cases hne : iv = wantI mk
    case neg =>
      obtain ⟨rfl, rfl⟩ := K3 hne
      clear K3 K4 H2
      rcases hs1 with rfl | rfl <;> rcases hmk with rfl | rfl | rfl | rfl <;> simp only [wantI] at hne <;> simp at hne
      all_goals
        go_wp2_with fail
        go_ret
        exact ⟨rfl, dv, cv, HR2.out⟩
    obtain ⟨rfl, hRR⟩ := K4 (by rw [hne]; simp)
    have HRR : Hid (R = goOnS l (moveS l s j mk)) := hRR
    have hin2 : iv ≠ 2 := by rw [hne]; unfold wantI; split <;> omega
    have HNO : Hid (j ∉ s.done) := H2.ok.not (by rw [HIV.out]; exact hin2)
    have HOM : Hid (Ok l (moveS l s j mk)) := H2.ok.move H2.saga.tries hjl mk (by rw [HIV.out]; exact hin2)
    have HMS : Hid ((moveS l s j mk).st = 1 ∨ (moveS l s j mk).st = 2 ∨ (moveS l s j mk).st = 5) := move_st l (by rw [HST.out]; exact hs1) j mk
    have HMC : Hid ((moveS l s j mk).cmds.length ≤ 800000) := by have := move_cmds l s j mk; have := HC.out; show _ ≤ _; omega
    clear K3 K4 hRR hin2
    obtain ⟨b, off, rfl, hbB, hstc⟩ := H2.stepCell
    have d3 := (hstc j hjl).2.2.1
    have c0 := H2.blk.cell 0
    have c2 := H2.blk.cell 2
    simp at c0 c2
    have d2 := (H2.trCell j hjl).1
    have tb := H2.ok.tb j
    obtain ⟨tt, htt⟩ : ∃ tt, trAt s j = tt := ⟨_, rfl⟩
    obtain ⟨ti, hti⟩ : ∃ ti, (stepOf l j).tries = ti := ⟨_, rfl⟩
    have hmore : moreB l s j = decide (tt < ti) := by unfold moreB; rw [htt, hti]
    rw [htt] at d2 tb
    rw [hti] at d3
    have HTT : Hid (trAt s j = tt) := htt
    have HTI0 : Hid (tt < ti → tt < (stepOf l j).tries) := fun h => by rw [hti]; exact h
    have HMORE : Hid (moreB l s j = decide (tt < ti)) := hmore
    clear hstc htt hti hmore H2
    rcases hmk with rfl | rfl | rfl | rfl <;> simp only [wantI] at hne <;> simp at hne <;> subst hne
    case inl =>
      rcases hs1 with rfl | rfl
      all_goals
        go_upto_region 14 with fail
        go_cut [8] from 54 to 69 (fun s8 wx => s8 = .bool (decide (tt < ti)) ∧ Below W2.heap.size W2 wx)
        case first =>
          go_quiet (fail)
          refine meet_then (by assumption) ?_
          go_meet
          exact ⟨rfl, bel_drewN (Below.refl _ _) _⟩
        case rest =>
          obtain ⟨rfl, hbw⟩ := hcut
          obtain ⟨wA, hwA⟩ : ∃ wA, wA = wc := ⟨_, rfl⟩
          subst hwA
          have H3 := HR2.out.go hbw
          clear k1 HR2 c0 c1 c2 c5 d1 d2 d3
          have k1 := (Blk.below HKB2.out hbw).cell 1
          have c1 := H3.blk.cell 1
          have c2 := H3.blk.cell 2
          have c3 := H3.blk.cell 3
          have c5 := H3.blk.cell 5
          have f5 := H3.blk.fro 5
          simp at k1 c1 c2 c3 c5
          rw [HST.out] at c5
          obtain ⟨d1, f1⟩ := H3.isCell j hjl
          obtain ⟨d2, f2⟩ := H3.trCell j hjl
          rw [HIV.out] at d1
          rw [HTT.out] at d2
          clear hbw
          have H4 := H3.putIs j 2 (H3.ok.setIs hjl 2 HNO.out)
          have HH4 : Hid (RunS S B l (some ⟨b, off, none⟩) cap g gi gt dv rv cv w0 (wA.setCell ⟨gi, j, none⟩ (.int .i64 2)) (setIs s j 2) reps) := H4
          clear H3 H4
          go_upto_region 22 with fail
          obtain ⟨wB, hwB⟩ : ∃ wB, wA.setCell ⟨gi, j, none⟩ (.int .i64 2) = wB := ⟨_, rfl⟩
          rw [hwB] at HH4 ⊢
          clear hwB k1 c1 c2 c3 c5 d1 d2 f1 f2 f5
          have hdl := done_len HH4.out.ok
          have hwb : Below wB.heap.size wB (wB.alloc (.cells #[.int .i64 (j : Int)] 3)) := (Below.refl _ wB).alloc (Nat.le_refl _) _
          have hsB := HH4.out.size
          obtain ⟨da, dc, hdv, -⟩ := HH4.out.done.natCells
          have c3 := HH4.out.blk.cell 3
          simp at c3
          rw [hdv] at c3
          have H5 := HH4.out.go hwb
          go_upto_region 31 with (at_builtin; go_must (refine wpList_appendNumAt rfl (.tmp 101) (.tmp 103) rfl B dv (nums s.done) (by simp [Act.eval, hdv]) H5.done (j : Int) rfl (NumsAt.newAt _ (j : Int) _ (by simp)) (by rw [nums_len]; have : s.done.length ≤ l.length := hdl; omega) H5.size ?_; intro v9 w9 hown9 hB9 hgr9 hat9; obtain ⟨a9, c9, e9, -⟩ := hown9.value; obtain ⟨n9, hn9⟩ : ∃ n9, (nums s.done ++ [(j : Int)]).length = n9 := ⟨_, rfl⟩; rw [hn9] at e9; clear hn9; subst e9; have hown8 : OwnNums B w9 (.slice a9 n9 c9) (nums (s.done ++ [j])) := (by rw [nums_append]; exact hown9); obtain ⟨hbk, H6⟩ := H5.growD hown8 hB9 hgr9 (H5.apartD hat9) (by have := HOM.out; rw [move_one] at this; exact this); have g3 := hbk.cell 3; have f3 := hbk.fro 3; simp at g3; rw [hdv] at g3))
          have HM : Hid (RunS S B l (some ⟨b, off, none⟩) cap g gi gt (.slice a9 n9 c9) rv cv w0 (w9.setCell ⟨g, 3, none⟩ (.slice a9 n9 c9)) (moveS l s j 1) reps) := by rw [move_one]; exact H6
          clear H5 H6 HH4 hbk g3 f3 c3 hown8 hown9 hB9 hgr9 hat9 hwb
          have co := specOn HCM.out HM.out HMC.out HMS.out
          go_wp2_with (go_at_call 45; go_must (refine co.mono ?_; rintro e w8 ⟨rfl, dv8, cv8, H8⟩))
          go_ret
          refine ⟨rfl, dv8, cv8, ?_⟩
          rw [HRR.out]; exact H8
    case inr.inl =>
      rcases hs1 with rfl | rfl
      · go_upto_region 14 with fail
        go_cut [8] from 54 to 69 (fun s8 wx => s8 = .bool (decide (tt < ti)) ∧ Below W2.heap.size W2 wx)
        case first =>
          go_quiet (fail)
          refine meet_then (by assumption) ?_
          go_meet
          exact ⟨rfl, bel_drewN (Below.refl _ _) _⟩
        case rest =>
          obtain ⟨rfl, hbw⟩ := hcut
          obtain ⟨wA, hwA⟩ : ∃ wA, wA = wc := ⟨_, rfl⟩
          subst hwA
          have H3 := HR2.out.go hbw
          clear k1 HR2 c0 c1 c2 c5 d1 d2 d3
          have k1 := (Blk.below HKB2.out hbw).cell 1
          have c1 := H3.blk.cell 1
          have c2 := H3.blk.cell 2
          have c3 := H3.blk.cell 3
          have c5 := H3.blk.cell 5
          have f5 := H3.blk.fro 5
          simp at k1 c1 c2 c3 c5
          rw [HST.out] at c5
          obtain ⟨d1, f1⟩ := H3.isCell j hjl
          obtain ⟨d2, f2⟩ := H3.trCell j hjl
          rw [HIV.out] at d1
          rw [HTT.out] at d2
          clear hbw
          by_cases hmo : tt < ti
          · have HTI : Hid (tt < (stepOf l j).tries) := HTI0.out hmo
            have htr : 0 ≤ tt + 1 ∧ tt + 1 ≤ 5 := by
              have h5 := H3.saga.tries j hjl
              rw [← stepOf_eq hjl] at h5
              have := HTI.out
              omega
            have H4 := H3.putTr j (tt + 1) (H3.ok.setTr hjl (tt + 1) htr.1 htr.2)
            have HH4 : Hid (RunS S B l (some ⟨b, off, none⟩) cap g gi gt dv rv cv w0 (wA.setCell ⟨gt, j, none⟩ (.int .i64 (tt + 1))) (setTr s j (tt + 1)) reps) := H4
            clear H3 H4
            go_upto_region 26 with fail
            obtain ⟨wB, hwB⟩ : ∃ wB, wA.setCell ⟨gt, j, none⟩ (.int .i64 (tt + 1)) = wB := ⟨_, rfl⟩
            rw [hwB] at HH4 ⊢
            clear hwB k1 c1 c2 c3 c5 d1 d2 f1 f2 f5
            have cc := HCM.out HH4.out 1 j hjl (by have := HC.out; show s.cmds.length ≤ _; omega)
            go_upto_region 31 with (go_at_call 46; go_must (refine cc.mono ?_; rintro e w5 ⟨rfl, cv5, H5⟩))
            have HM : Hid (RunS S B l (some ⟨b, off, none⟩) cap g gi gt dv rv cv5 w0 w5 (moveS l s j 2) reps) := by rw [move_two_a HST.out (by rw [HMORE.out]; exact decide_eq_true hmo), HTT.out]; exact H5
            clear H5 HH4 cc
            have co := specOn HCM.out HM.out HMC.out HMS.out
            go_wp2_with (go_at_call 45; go_must (refine co.mono ?_; rintro e w8 ⟨rfl, dv8, cv8, H8⟩))
            go_ret
            refine ⟨rfl, dv8, cv8, ?_⟩
            rw [HRR.out]; exact H8
          · have HB : Hid (¬ (s.st = 1 ∧ moreB l s j = true)) := fun h => by rw [HMORE.out] at h; exact hmo (of_decide_eq_true h.2)
            have H4 := H3.putIs j 0 (H3.ok.setIs hjl 0 HNO.out)
            have HH4 : Hid (RunS S B l (some ⟨b, off, none⟩) cap g gi gt dv rv cv w0 (wA.setCell ⟨gi, j, none⟩ (.int .i64 0)) (setIs s j 0) reps) := H4
            clear H3 H4
            go_upto_region 28 with fail
            obtain ⟨wB, hwB⟩ : ∃ wB, wA.setCell ⟨gi, j, none⟩ (.int .i64 0) = wB := ⟨_, rfl⟩
            rw [hwB] at HH4 ⊢
            clear hwB k1 c1 c2 c3 c5 d1 d2 f1 f2 f5
            have c5 := HH4.out.blk.cell 5
            have f5 := HH4.out.blk.fro 5
            simp at c5
            have H5 := HH4.out.putSt 2
            rw [← move_two_b (l := l) HB.out] at H5
            have HM : Hid (RunS S B l (some ⟨b, off, none⟩) cap g gi gt dv rv cv w0 (wB.setCell ⟨g, 5, none⟩ (.int .i64 2)) (moveS l s j 2) reps) := H5
            clear H5 HH4
            have co := specOn HCM.out HM.out HMC.out HMS.out
            go_wp2_with (go_at_call 45; go_must (refine co.mono ?_; rintro e w8 ⟨rfl, dv8, cv8, H8⟩))
            go_ret
            refine ⟨rfl, dv8, cv8, ?_⟩
            rw [HRR.out]; exact H8
      · go_upto_region 14 with fail
        go_cut [8] from 54 to 69 (fun s8 wx => s8 = .bool (decide (tt < ti)) ∧ Below W2.heap.size W2 wx)
        case first =>
          go_quiet (fail)
          refine meet_then (by assumption) ?_
          go_meet
          exact ⟨rfl, bel_drewN (Below.refl _ _) _⟩
        case rest =>
          obtain ⟨rfl, hbw⟩ := hcut
          obtain ⟨wA, hwA⟩ : ∃ wA, wA = wc := ⟨_, rfl⟩
          subst hwA
          have H3 := HR2.out.go hbw
          clear k1 HR2 c0 c1 c2 c5 d1 d2 d3
          have k1 := (Blk.below HKB2.out hbw).cell 1
          have c1 := H3.blk.cell 1
          have c2 := H3.blk.cell 2
          have c3 := H3.blk.cell 3
          have c5 := H3.blk.cell 5
          have f5 := H3.blk.fro 5
          simp at k1 c1 c2 c3 c5
          rw [HST.out] at c5
          obtain ⟨d1, f1⟩ := H3.isCell j hjl
          obtain ⟨d2, f2⟩ := H3.trCell j hjl
          rw [HIV.out] at d1
          rw [HTT.out] at d2
          clear hbw
          have HB : Hid (¬ (s.st = 1 ∧ moreB l s j = true)) := fun h => by have := HST.out; omega
          by_cases hmo : tt < ti
          all_goals
            have H4 := H3.putIs j 0 (H3.ok.setIs hjl 0 HNO.out)
            have HH4 : Hid (RunS S B l (some ⟨b, off, none⟩) cap g gi gt dv rv cv w0 (wA.setCell ⟨gi, j, none⟩ (.int .i64 0)) (setIs s j 0) reps) := H4
            clear H3 H4
            go_upto_region 28 with fail
            obtain ⟨wB, hwB⟩ : ∃ wB, wA.setCell ⟨gi, j, none⟩ (.int .i64 0) = wB := ⟨_, rfl⟩
            rw [hwB] at HH4 ⊢
            clear hwB k1 c1 c2 c3 c5 d1 d2 f1 f2 f5
            have c5 := HH4.out.blk.cell 5
            have f5 := HH4.out.blk.fro 5
            simp at c5
            have H5 := HH4.out.putSt 2
            rw [← move_two_b (l := l) HB.out] at H5
            have HM : Hid (RunS S B l (some ⟨b, off, none⟩) cap g gi gt dv rv cv w0 (wB.setCell ⟨g, 5, none⟩ (.int .i64 2)) (moveS l s j 2) reps) := H5
            clear H5 HH4
            have co := specOn HCM.out HM.out HMC.out HMS.out
            go_wp2_with (go_at_call 45; go_must (refine co.mono ?_; rintro e w8 ⟨rfl, dv8, cv8, H8⟩))
            go_ret
            refine ⟨rfl, dv8, cv8, ?_⟩
            rw [HRR.out]; exact H8
    case inr.inr.inl =>
      rcases hs1 with rfl | rfl
      all_goals
        go_upto_region 14 with fail
        go_cut [8] from 54 to 69 (fun s8 wx => s8 = .bool (decide (tt < ti)) ∧ Below W2.heap.size W2 wx)
        case first =>
          go_quiet (fail)
          refine meet_then (by assumption) ?_
          go_meet
          exact ⟨rfl, bel_drewN (Below.refl _ _) _⟩
        case rest =>
          obtain ⟨rfl, hbw⟩ := hcut
          obtain ⟨wA, hwA⟩ : ∃ wA, wA = wc := ⟨_, rfl⟩
          subst hwA
          have H3 := HR2.out.go hbw
          clear k1 HR2 c0 c1 c2 c5 d1 d2 d3
          have k1 := (Blk.below HKB2.out hbw).cell 1
          have c1 := H3.blk.cell 1
          have c2 := H3.blk.cell 2
          have c3 := H3.blk.cell 3
          have c5 := H3.blk.cell 5
          have f5 := H3.blk.fro 5
          simp at k1 c1 c2 c3 c5
          rw [HST.out] at c5
          obtain ⟨d1, f1⟩ := H3.isCell j hjl
          obtain ⟨d2, f2⟩ := H3.trCell j hjl
          rw [HIV.out] at d1
          rw [HTT.out] at d2
          clear hbw
          have H4 := H3.putIs j 4 (H3.ok.setIs hjl 4 HNO.out)
          rw [← move_three l s j] at H4
          have HM : Hid (RunS S B l (some ⟨b, off, none⟩) cap g gi gt dv rv cv w0 (wA.setCell ⟨gi, j, none⟩ (.int .i64 4)) (moveS l s j 3) reps) := H4
          clear H3 H4
          have co := specOn HCM.out HM.out HMC.out HMS.out
          go_wp2_with (go_at_call 45; go_must (refine co.mono ?_; rintro e w8 ⟨rfl, dv8, cv8, H8⟩))
          go_ret
          refine ⟨rfl, dv8, cv8, ?_⟩
          rw [HRR.out]; exact H8
    case inr.inr.inr =>
      rcases hs1 with rfl | rfl
      all_goals
        go_upto_region 14 with fail
        go_cut [8] from 54 to 69 (fun s8 wx => s8 = .bool (decide (tt < ti)) ∧ Below W2.heap.size W2 wx)
        case first =>
          go_quiet (fail)
          refine meet_then (by assumption) ?_
          go_meet
          exact ⟨rfl, bel_drewN (Below.refl _ _) _⟩
        case rest =>
          obtain ⟨rfl, hbw⟩ := hcut
          obtain ⟨wA, hwA⟩ : ∃ wA, wA = wc := ⟨_, rfl⟩
          subst hwA
          have H3 := HR2.out.go hbw
          clear k1 HR2 c0 c1 c2 c5 d1 d2 d3
          have k1 := (Blk.below HKB2.out hbw).cell 1
          have c1 := H3.blk.cell 1
          have c2 := H3.blk.cell 2
          have c3 := H3.blk.cell 3
          have c5 := H3.blk.cell 5
          have f5 := H3.blk.fro 5
          simp at k1 c1 c2 c3 c5
          rw [HST.out] at c5
          obtain ⟨d1, f1⟩ := H3.isCell j hjl
          obtain ⟨d2, f2⟩ := H3.trCell j hjl
          rw [HIV.out] at d1
          rw [HTT.out] at d2
          clear hbw
          by_cases hmo : tt < ti
          · have HTI : Hid (tt < (stepOf l j).tries) := HTI0.out hmo
            have htr : 0 ≤ tt + 1 ∧ tt + 1 ≤ 5 := by
              have h5 := H3.saga.tries j hjl
              rw [← stepOf_eq hjl] at h5
              have := HTI.out
              omega
            have H4 := H3.putTr j (tt + 1) (H3.ok.setTr hjl (tt + 1) htr.1 htr.2)
            have HH4 : Hid (RunS S B l (some ⟨b, off, none⟩) cap g gi gt dv rv cv w0 (wA.setCell ⟨gt, j, none⟩ (.int .i64 (tt + 1))) (setTr s j (tt + 1)) reps) := H4
            clear H3 H4
            go_upto_region 18 with fail
            obtain ⟨wB, hwB⟩ : ∃ wB, wA.setCell ⟨gt, j, none⟩ (.int .i64 (tt + 1)) = wB := ⟨_, rfl⟩
            rw [hwB] at HH4 ⊢
            clear hwB k1 c1 c2 c3 c5 d1 d2 f1 f2 f5
            have cc := HCM.out HH4.out 2 j hjl (by have := HC.out; show s.cmds.length ≤ _; omega)
            go_upto_region 31 with (go_at_call 46; go_must (refine cc.mono ?_; rintro e w5 ⟨rfl, cv5, H5⟩))
            have HM : Hid (RunS S B l (some ⟨b, off, none⟩) cap g gi gt dv rv cv5 w0 w5 (moveS l s j 4) reps) := by rw [move_four_a (by rw [HMORE.out]; exact decide_eq_true hmo), HTT.out]; exact H5
            clear H5 HH4 cc
            have co := specOn HCM.out HM.out HMC.out HMS.out
            go_wp2_with (go_at_call 45; go_must (refine co.mono ?_; rintro e w8 ⟨rfl, dv8, cv8, H8⟩))
            go_ret
            refine ⟨rfl, dv8, cv8, ?_⟩
            rw [HRR.out]; exact H8
          · have H4 := H3.putSt 5
            rw [← move_four_b (l := l) (k := j) (by rw [HMORE.out]; exact decide_eq_false hmo)] at H4
            have HM : Hid (RunS S B l (some ⟨b, off, none⟩) cap g gi gt dv rv cv w0 (wA.setCell ⟨g, 5, none⟩ (.int .i64 5)) (moveS l s j 4) reps) := H4
            clear H3 H4
            have co := specOn HCM.out HM.out HMC.out HMS.out
            go_wp2_with (go_at_call 45; go_must (refine co.mono ?_; rintro e w8 ⟨rfl, dv8, cv8, H8⟩))
            go_ret
            refine ⟨rfl, dv8, cv8, ?_⟩
            rw [HRR.out]; exact H8
end
end Go.Proofs.YtbpijollcjdkhaaDoor
