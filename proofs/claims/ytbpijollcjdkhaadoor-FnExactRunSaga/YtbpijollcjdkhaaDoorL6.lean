/-
  What the program's sagaRunOf and its moves do. No statement of the seat is proved here.
-/
import Derived.Test.YtbpijollcjdkhaaDoorL5
namespace Go.Proofs.YtbpijollcjdkhaaDoor
open Go.ChangeShapes Go.WideShapes Go.ChangeAt Go.RowKit
set_option linter.unusedVariables false
set_option linter.unusedSimpArgs false

/-- A row of parts is made. -/
theorem made_parts (n : Nat) (hn : n ≤ 20) : ∃ zc : Array Value, PartsAt zc (List.replicate n 0) (List.replicate n 0) ∧ ∀ w, (Instr.makeSlice 62 (.int .i64 (n : Int)) (.int .i64 (n : Int))).run Tryd.prog w = .ok (.slice (some ⟨w.heap.size, 0, none⟩) n n) (w.alloc (.cells zc 88)) := by
  obtain ⟨i, hii, hz0, hz1, hz2⟩ := info_of (t := 88) (z := .agg #[.int .i64 0, .int .i64 0]) (n := 2) (b := 16) (by kernel_rfl)
  have hcell : ∀ j, j < n * 2 → (madeCells (Value.cells (.agg #[.int .i64 0, .int .i64 0])) (n * 2))[j]? = some (.int .i64 0) := fun j hj => by
    unfold madeCells
    rw [Array.getElem?_map, Array.getElem?_range, if_pos hj]
    simp only [Option.map_some]
    have h2 : (Value.cells (.agg #[.int .i64 0, .int .i64 0])) = #[.int .i64 0, .int .i64 0] := by kernel_rfl
    rw [h2]
    have h3 : j % 2 = 0 ∨ j % 2 = 1 := by omega
    rcases h3 with h3 | h3 <;> simp [h3]
  refine ⟨madeCells (Value.cells (.agg #[.int .i64 0, .int .i64 0])) (n * 2), ⟨by simp [size_madeCells], by simp, fun k hk => ?_, fun k hk => ?_⟩, fun w => ?_⟩
  · have hk' : k < n := by simpa using hk
    rw [hcell _ (by omega), List.getElem_replicate]
  · have hk' : k < n := by simpa using hk
    rw [hcell _ (by omega), List.getElem_replicate]
  · have hb : (i.bytes : Int) * (n : Int) ≤ 281474976710656 := by rw [hz2]; omega
    have hr := run_make (P := Tryd.prog) w 62 88 i _ Tryd.underlying62 hii hz0 .i64 .i64 (n : Int) (n : Int) (by omega) (by omega) hb (by omega)
    simp only [Int.toNat_natCast, hz1] at hr
    exact hr
section
variable {S : Nat → Prop} {B : Nat} {l : List Step} {a : Option Addr} {cap : Nat} {w : World}
theorem is_zero (l : List Step) (i : Nat) : isAt (zeroS l) i = 0 := by
  unfold isAt zeroS
  dsimp only
  rw [List.getElem?_replicate]
  split <;> rfl
theorem twoI (w : World) (zc cs : Array Value) : Blk ((w.alloc (.cells zc 88)).alloc (.cells cs 64)) w.heap.size 88 zc ∧ Blk ((w.alloc (.cells zc 88)).alloc (.cells cs 64)) (w.heap.size + 1) 64 cs ∧ Below w.heap.size w ((w.alloc (.cells zc 88)).alloc (.cells cs 64)) :=
  ⟨two1 w _ _, two2 w _ _, ((Below.refl _ w).alloc (Nat.le_refl _) _).alloc (by simp only [World.size_alloc]; omega) _⟩
set_option maxRecDepth 100000 in
set_option maxHeartbeats 2000000 in
theorem implRunOf (h : SagaIn S w.heap.size w a cap l) :
    Calls Tryd.prog 26 #[.slice a l.length cap] w fun e w' => ∃ g gp dv cv, e = .returned (.pointer (some ⟨g, 0, none⟩)) ∧ RunI S w.heap.size l a cap g gp (.slice none 0 0) [] dv cv w w' (beginS l) := by
  have hl : l.length ≤ 20 := h.len.2
  have hl' : (l.length : Int) ≤ 20 := by omega
  obtain ⟨zc, hzc, hmk⟩ := made_parts l.length hl
  obtain ⟨b1, b2, b3⟩ := twoI w zc #[.slice a l.length cap, .int .i64 1, .slice (some ⟨w.heap.size, 0, none⟩) l.length l.length, .slice none 0 0, .slice none 0 0]
  have H1 : RunI S w.heap.size l a cap (w.heap.size + 1) w.heap.size (.slice none 0 0) [] (.slice none 0 0) (.slice none 0 0) w ((w.alloc (.cells zc 88)).alloc (.cells #[.slice a l.length cap, .int .i64 1, .slice (some ⟨w.heap.size, 0, none⟩) l.length l.length, .slice none 0 0, .slice none 0 0] 64)) (zeroS l) :=
    ⟨h.below b3 (Nat.le_refl _), b2, ⟨zc, b1, hzc⟩, OwnNums.nil _ _, OwnCmds.nil _ _, OwnNums.nil _ _, .inl rfl, ⟨by omega, by omega⟩, fun i => by rw [is_zero]; omega, Ok.zero l, Nat.le_refl _, b3⟩
  have co := implGoOn H1 (by simp [zeroS])
  have hg : goOnS l (zeroS l) = beginS l := by unfold goOnS beginS; rw [if_pos (show (zeroS l).st = 1 from rfl)]
  rw [hg] at co
  clear h hzc b1 b2 b3 H1 hg
  go_enter Tryd.func26, Tryd.ntmps26
  go_wp2_with (go_at_call 51; go_must (refine co.mono ?_; rintro e w5 ⟨rfl, dv5, cv5, H5⟩))
  go_ret
  exact ⟨_, _, dv5, cv5, rfl, H5⟩
end
section
variable {S : Nat → Prop} {B : Nat} {l : List Step} {a : Option Addr} {cap g gp : Nat} {rv : Value} {reps : List Int} {dv cv : Value} {w0 w : World} {s : Sg}
set_option maxRecDepth 100000 in
theorem implTries (h : RunI S B l a cap g gp rv reps dv cv w0 w s) (i : Nat) (hi : i < l.length) :
    Calls Tryd.prog 90 #[.pointer (some ⟨g, 0, none⟩), .int .i64 (i : Int)] w fun e w' => e = .returned (.bool (moreB l s i)) ∧ Below w.heap.size w w' := by
  have hl : l.length ≤ 20 := h.saga.len.2
  have hl' : (l.length : Int) ≤ 20 := by omega
  have hi' : (i : Int) < (l.length : Int) := by omega
  obtain ⟨b, off, rfl, hbB, hst⟩ := h.stepCell
  have e3 := (hst i hi).2.2.1
  have c0 := h.blk.cell 0
  have c2 := h.blk.cell 2
  simp at c0 c2
  have d1 := (h.trCell i hi).1
  unfold moreB
  clear h hst
  go_enter Tryd.func90, Tryd.ntmps90
  go_upto_region 1 with fail
  go_quiet (fail)
  go_wp2_with fail
  go_ret
  exact ⟨rfl, bel_drewN (Below.refl _ _) _⟩
theorem more_lt (h : RunI S B l a cap g gp rv reps dv cv w0 w s) {i : Nat} (hi : i < l.length) (hm : moreB l s i = true) : trAt s i < 5 := by
  unfold moreB at hm
  have h1 := of_decide_eq_true hm
  rw [stepOf_eq hi] at h1
  have := h.saga.tries i hi
  omega
/-- What a move does. -/
def MoveC (f : Nat) (kind : Int) : Prop := ∀ {S : Nat → Prop} {B : Nat} {l : List Step} {a : Option Addr} {cap g gp : Nat} {rv : Value} {reps : List Int} {dv cv : Value} {w0 w : World} {s : Sg}, RunI S B l a cap g gp rv reps dv cv w0 w s → ∀ (i : Nat), i < l.length → i ∉ s.done → Ok l (moveS l s i kind) → s.cmds.length ≤ 900000 →
    Calls Tryd.prog f #[.pointer (some ⟨g, 0, none⟩), .int .i64 (i : Int)] w fun e w' => e = .returned (.tuple #[]) ∧ ∃ dv' cv', RunI S B l a cap g gp rv reps dv' cv' w0 w' (moveS l s i kind)
set_option maxRecDepth 100000 in
set_option maxHeartbeats 2000000 in
theorem implFinish : MoveC 69 1 := by
  intro S B l a cap g gp rv reps dv cv w0 w s h i hi hn hok hc
  have hl : l.length ≤ 20 := h.saga.len.2
  have hl' : (l.length : Int) ≤ 20 := by omega
  have hi' : (i : Int) < (l.length : Int) := by omega
  have c2 := h.blk.cell 2
  simp at c2
  obtain ⟨d1, f1⟩ := h.isCell i hi
  have hdl := done_len h.ok
  have H4 := h.putIs i hi 2 (by omega) (by omega) (h.ok.setIs hi 2 hn)
  rw [move_one] at hok ⊢
  have HH4 : Hid (RunI S B l a cap g gp rv reps dv cv w0 (w.setCell ⟨gp, i * 2, none⟩ (.int .i64 2)) (setIs s i 2)) := H4
  have HOK : Hid (Ok l { setIs s i 2 with done := s.done ++ [i] }) := hok
  clear h H4 hok
  go_enter Tryd.func69, Tryd.ntmps69
  go_upto_region 1 with fail
  obtain ⟨wB, hwB⟩ : ∃ wB, w.setCell ⟨gp, i * 2, none⟩ (.int .i64 2) = wB := ⟨_, rfl⟩
  rw [hwB] at HH4 ⊢
  clear hwB c2 d1 f1
  have hwb : Below wB.heap.size wB (wB.alloc (.cells #[.int .i64 (i : Int)] 3)) := (Below.refl _ wB).alloc (Nat.le_refl _) _
  obtain ⟨da, dc, hdv, -⟩ := HH4.out.done.natCells
  have c3 := HH4.out.blk.cell 3
  simp at c3
  rw [hdv] at c3
  have H5 := HH4.out.go hwb
  go_wp2_with (at_builtin; go_must (refine wpList_appendNumAt rfl (.tmp 15) (.tmp 17) rfl B dv (nums s.done) (by simp [Act.eval, hdv, setIs]) H5.done (i : Int) rfl (NumsAt.newAt _ (i : Int) _ (by simp)) (by rw [nums_len]; have : s.done.length ≤ l.length := hdl; omega) H5.size ?_; intro v9 w9 hown9 hB9 hgr9 hat9; obtain ⟨a9, c9, e9, -⟩ := hown9.value; obtain ⟨n9, hn9⟩ : ∃ n9, (nums s.done ++ [(i : Int)]).length = n9 := ⟨_, rfl⟩; rw [hn9] at e9; clear hn9; subst e9; have hown8 : OwnNums B w9 (.slice a9 n9 c9) (nums (s.done ++ [i])) := (by rw [nums_append]; exact hown9); obtain ⟨hbk, H6⟩ := H5.growD hown8 hB9 hgr9 hat9 HOK.out; have g3 := hbk.cell 3; have f3 := hbk.fro 3; simp at g3; rw [hdv] at g3))
  go_end0
  exact ⟨rfl, _, _, H6⟩
set_option maxRecDepth 100000 in
theorem implTake3 : MoveC 71 3 := by
  intro S B l a cap g gp rv reps dv cv w0 w s h i hi hn hok hc
  refine (implTakeBack h i hi hn).mono ?_
  rintro e w' ⟨rfl, h'⟩
  exact ⟨rfl, dv, cv, by rw [move_three]; exact h'⟩
set_option maxRecDepth 100000 in
set_option maxHeartbeats 2000000 in
theorem implFail : MoveC 70 2 := by
  intro S B l a cap g gp rv reps dv cv w0 w s h i hi hn hok hc
  have hl : l.length ≤ 20 := h.saga.len.2
  have hl' : (l.length : Int) ≤ 20 := by omega
  have hi' : (i : Int) < (l.length : Int) := by omega
  have ct := implTries h i hi
  have HR : Hid (RunI S B l a cap g gp rv reps dv cv w0 w s) := h
  have c1 := h.blk.cell 1
  simp at c1
  have hml := fun hm => more_lt h hi hm
  by_cases hs1 : s.st = 1
  · rw [hs1] at c1
    cases hm : moreB l s i
    · rw [hm] at ct
      rw [move_two_b (by rw [hm]; simp)]
      clear h hml hm hs1
      go_enter Tryd.func70, Tryd.ntmps70
      go_upto_region 2 with (go_at_call 90; go_must (refine ct.mono ?_; rintro e w1 ⟨rfl, hb1⟩))
      have H1 := HR.out.go hb1
      clear ct c1
      have c2 := H1.blk.cell 2
      simp at c2
      obtain ⟨d1, f1⟩ := H1.isCell i hi
      have H2 := H1.putIs i hi 0 (by omega) (by omega) (H1.ok.setIs hi 0 hn)
      have c1 := H2.blk.cell 1
      have f2 := H2.blk.fro 1
      simp at c1
      have H3 := H2.putSt 2
      have HH3 : Hid (RunI S B l a cap g gp rv reps dv cv w0 ((w1.setCell ⟨gp, i * 2, none⟩ (.int .i64 0)).setCell ⟨g, 1, none⟩ (.int .i64 2)) (setSt (setIs s i 0) 2)) := H3
      clear H1 H2 H3
      go_wp2_with fail
      go_end0
      exact ⟨rfl, _, _, HH3.out⟩
    · rw [hm] at ct
      have h5 := hml hm
      rw [move_two_a hs1 hm]
      have HH5 : Hid (trAt s i < 5) := h5
      clear h hml hm h5 hs1
      go_enter Tryd.func70, Tryd.ntmps70
      go_upto_region 1 with (go_at_call 90; go_must (refine ct.mono ?_; rintro e w1 ⟨rfl, hb1⟩))
      have co := implOrder (HR.out.go hb1) 1 i hi HH5.out hc
      go_wp2_with (go_at_call 91; go_must (refine co.mono ?_; rintro e w5 ⟨rfl, cv5, H5⟩))
      (try simp only [Exit.inBlock, Exit.then])
      refine bodyPost_ret (results_none rfl _ _ _) rfl ?_
      exact ⟨rfl, _, cv5, H5⟩
  · rw [move_two_b (fun hh => hs1 hh.1)]
    obtain ⟨st, hst⟩ : ∃ st, s.st = st := ⟨_, rfl⟩
    rw [hst] at c1 hs1
    have hs1' : (st == 1) = false := by simp [hs1]
    clear h hml hst ct hs1
    go_enter Tryd.func70, Tryd.ntmps70
    go_upto_region 2 with fail
    have H1 := HR.out
    clear c1
    have c2 := H1.blk.cell 2
    simp at c2
    obtain ⟨d1, f1⟩ := H1.isCell i hi
    have H2 := H1.putIs i hi 0 (by omega) (by omega) (H1.ok.setIs hi 0 hn)
    have c1 := H2.blk.cell 1
    have f2 := H2.blk.fro 1
    simp at c1
    have H3 := H2.putSt 2
    have HH3 : Hid (RunI S B l a cap g gp rv reps dv cv w0 ((w.setCell ⟨gp, i * 2, none⟩ (.int .i64 0)).setCell ⟨g, 1, none⟩ (.int .i64 2)) (setSt (setIs s i 0) 2)) := H3
    clear H1 H2 H3
    go_wp2_with fail
    go_end0
    exact ⟨rfl, _, _, HH3.out⟩
set_option maxRecDepth 100000 in
set_option maxHeartbeats 2000000 in
theorem implStick : MoveC 72 4 := by
  intro S B l a cap g gp rv reps dv cv w0 w s h i hi hn hok hc
  have ct := implTries h i hi
  have HR : Hid (RunI S B l a cap g gp rv reps dv cv w0 w s) := h
  have hml := fun hm => more_lt h hi hm
  cases hm : moreB l s i
  · rw [hm] at ct
    rw [move_four_b hm]
    clear h hml hm
    go_enter Tryd.func72, Tryd.ntmps72
    go_upto_region 2 with (go_at_call 90; go_must (refine ct.mono ?_; rintro e w1 ⟨rfl, hb1⟩))
    have H1 := HR.out.go hb1
    have c1 := H1.blk.cell 1
    have f1 := H1.blk.fro 1
    simp at c1
    have H2 := H1.putSt 5
    have HH2 : Hid (RunI S B l a cap g gp rv reps dv cv w0 (w1.setCell ⟨g, 1, none⟩ (.int .i64 5)) (setSt s 5)) := H2
    clear H1 H2 ct
    go_wp2_with fail
    go_end0
    exact ⟨rfl, _, _, HH2.out⟩
  · rw [hm] at ct
    have h5 := hml hm
    rw [move_four_a hm]
    have HH5 : Hid (trAt s i < 5) := h5
    clear h hml hm h5
    go_enter Tryd.func72, Tryd.ntmps72
    go_upto_region 1 with (go_at_call 90; go_must (refine ct.mono ?_; rintro e w1 ⟨rfl, hb1⟩))
    have co := implOrder (HR.out.go hb1) 2 i hi HH5.out hc
    go_wp2_with (go_at_call 91; go_must (refine co.mono ?_; rintro e w5 ⟨rfl, cv5, H5⟩))
    (try simp only [Exit.inBlock, Exit.then])
    refine bodyPost_ret (results_none rfl _ _ _) rfl ?_
    exact ⟨rfl, _, cv5, H5⟩
end
end Go.Proofs.YtbpijollcjdkhaaDoor
