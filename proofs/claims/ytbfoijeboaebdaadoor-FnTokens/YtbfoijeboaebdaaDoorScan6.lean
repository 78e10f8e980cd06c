/-
  The contract of spec's scanner's lexeme, where a sign or nothing stands. No statement of the seat is proved here.
-/
import Derived.Test.YtbfoijeboaebdaaDoorScan5
import Derived.Test.YtbfoijeboaebdaaDoorSigns2
import Derived.Deep.RegionHeld3
namespace Go.Proofs.YtbfoijeboaebdaaDoor
open Go.ChangeShapes Go.WideShapes Go.ChangeAt Go.RowKit
set_option linter.unusedVariables false


set_option maxRecDepth 100000 in
set_option maxHeartbeats 2000000 in
theorem specLex6 {B g : Nat} {s : ByteArray} {p ln cl : Nat} {l : List Tok} {bad : Nat} {v : Value} {w0 w : World} (hs : s.size ≤ 65536) (hp : p < s.size) (hln : ln ≤ p + 1) (hcl : cl ≤ p + 1) (hl : l.length ≤ 20000) (hw : wrongB s p = false) (h2 : ¬ l.length = 20000) (hlt : isLet ((Utf8.decode s p).1 : Int) = false) (hdg : isDig ((Utf8.decode s p).1 : Int) = false) (hq : ¬ (Utf8.decode s p).1 = 34) (h : Sp B g s p ln cl l 0 bad v w0 w) :
    Calls Tryd.prog 31 #[.pointer (some ⟨g, 0, none⟩)] w fun x w' => x = .returned (.tuple #[]) ∧ LexEnd B g s p ln cl l bad v w0 (lexOf s p l) w' := by
  unfold lexOf
  obtain ⟨va, N, vc, hv, hN⟩ := h.own.shape
  subst hv
  have HN : Hid (N = l.length) := hN
  clear hN
  have k0 : ∀ n : GoodW (Sp B g s p ln cl l 0 bad (.slice va N vc) w0), n.W.cell? ⟨g, 0, none⟩ = some (.string s) := fun n => by simpa using n.ok.blk.cell 0
  have k1 : ∀ n : GoodW (Sp B g s p ln cl l 0 bad (.slice va N vc) w0), n.W.cell? ⟨g, 1, none⟩ = some (.int .i64 (p : Int)) := fun n => by simpa using n.ok.blk.cell 1
  have cr := specRune s p hs hp
  have cw := specWrong s p hs hp
  rw [if_neg (by simp [hw]), if_neg h2]
  rw [hw] at cw
  have qn : ((N : Int) == 20000) = false := by rw [beq_eq_false_iff_ne, HN.out]; omega
  have clt := specLetter ((Utf8.decode s p).1 : Int)
  rw [hlt] at clt
  have cdg := specDigit ((Utf8.decode s p).1 : Int)
  rw [hdg] at cdg
  have q34 : (((Utf8.decode s p).1 : Int) == 34) = false := by rw [beq_eq_false_iff_ne]; omega
  unfold lexAt
  rw [if_neg (by simp [hlt]), if_neg (by simp [hdg]), if_neg hq]
  obtain ⟨R, hR⟩ : ∃ R, (Utf8.decode s p).1 = R := ⟨_, rfl⟩
  obtain ⟨K, hK⟩ : ∃ K, (Utf8.decode s p).2 = K := ⟨_, rfl⟩
  rw [hR] at clt cdg q34
  rw [hR, hK] at cr
  clear hlt hdg hq hR hK
  obtain ⟨T2, hT2⟩ : ∃ T2 : Bool, (decide (p + 2 ≤ s.size) && hasB signs (s.extract p (p + 2))) = T2 := ⟨_, rfl⟩
  obtain ⟨T1, hT1⟩ : ∃ T1 : Bool, hasB signs (s.extract p (p + 1)) = T1 := ⟨_, rfl⟩
  have HT2 : Hid ((decide (p + 2 ≤ s.size) && hasB signs (s.extract p (p + 2))) = T2) := hT2
  have HT1 : Hid (hasB signs (s.extract p (p + 1)) = T1) := hT1
  obtain ⟨X, hX⟩ : ∃ X, (if signLen s p = 0 then Lex.bad 4 p else .ok 4 (s.extract p (p + signLen s p)) 0 (p + signLen s p)) = X := ⟨_, rfl⟩
  have HX : Hid ((if signLen s p = 0 then Lex.bad 4 p else .ok 4 (s.extract p (p + signLen s p)) 0 (p + signLen s p)) = X) := hX
  rw [hX]
  clear hT2 hT1 hX
  go_enter Tryd.func31, Tryd.ntmps31
  go_wp2_with fail
  haveI ne : Nonempty (GoodW (Sp B g s p ln cl l 0 bad (.slice va N vc) w0)) := ⟨⟨_, h⟩⟩
  refine wp_region_calm (Sp B g s p ln cl l 0 bad (.slice va N vc) w0) (by kernel_rfl) (by kernel_rfl) (h).drew ?_
  repeat (go_big_quiet_step ((go_at_call 23; exact Calls.calm _ (fun w2 hb => Sp.bel (GoodW.ok _) hb) (cr _))))
  refine wpQuiet_nil ?_
  rintro _ ⟨⟨w1, hw1⟩, rfl⟩
  go_wp2_with fail
  haveI ne : Nonempty (GoodW (Sp B g s p ln cl l 0 bad (.slice va N vc) w0)) := ⟨⟨_, h⟩⟩
  refine wp_region_calm (Sp B g s p ln cl l 0 bad (.slice va N vc) w0) (by kernel_rfl) (by kernel_rfl) (hw1).drew ?_
  repeat (go_big_quiet_step ((go_at_call 24; exact Calls.calm _ (fun w2 hb => Sp.bel (GoodW.ok _) hb) (cw _))))
  refine wpQuiet_nil ?_
  rintro _ ⟨⟨w2, hw2⟩, rfl⟩
  have e0 := hw2.blk.cell 0
  have e1 := hw2.blk.cell 1
  have e4 := hw2.blk.cell 4
  simp at e0 e1 e4
  go_wp2_with (first
    | (go_at_call 54; go_must (refine (clt _).mono ?_; rintro e w3 ⟨rfl, rfl⟩))
    | (go_at_call 57; go_must (refine (cdg _).mono ?_; rintro e w3 ⟨rfl, rfl⟩)))
  go_loopw [9] (fun x wr => Sp B g s p ln cl l 0 bad (.slice va N vc) w0 wr ∧ ((x = .int .i64 2) ∨ (x = .int .i64 1 ∧ T2 = false) ∨ (x = .int .i64 0 ∧ T2 = false ∧ T1 = false))) (fun x _ => (intOf x).toNat)
  case atStart => exact ⟨hw2, .inl rfl⟩
  case round =>
    obtain ⟨hr, hcs⟩ := hrel
    clear e0 e1 e4 hw2 hw1 h
    have e0 := hr.blk.cell 0
    have e1 := hr.blk.cell 1
    simp at e0 e1
    rcases hcs with rfl | ⟨rfl, h2f⟩ | ⟨rfl, h2f, h1f⟩
    · by_cases hn2 : p + 2 ≤ s.size
      · have hT := HT2.out
        rw [decide_eq_true hn2, Bool.true_and] at hT
        have hn2' : (p : Int) + 2 ≤ (s.size : Int) := by omega
        have cs := fun W hc => specHas signs (s.extract p (p + 2)) wr.heap.size W (by decide) hc
        rw [hT] at cs
        have ca0 : ∀ o, (wr.alloc o).cell? ⟨g, 0, none⟩ = some (.string s) := fun o => by have := (hr.bel ((Below.refl _ wr).alloc (Nat.le_refl _) o)).blk.cell 0; simpa using this
        have ca1 : ∀ o, (wr.alloc o).cell? ⟨g, 1, none⟩ = some (.int .i64 (p : Int)) := fun o => by have := (hr.bel ((Below.refl _ wr).alloc (Nat.le_refl _) o)).blk.cell 1; simpa using this
        clear hT k0 k1 cr cw clt cdg qn q34
        have hwr : IntKind.i64.wrap ((p : Int) + 2) = (p : Int) + 2 := wrap_i64 _ (by omega) (by omega)
        have hdd : decide ((p : Int) + 2 ≤ (s.size : Int)) = true := by simp; omega
        have hb1 : (0 : Int) ≤ (p : Int) + 2 := by omega
        have hb2 : (p : Int) ≤ (p : Int) + 2 := by omega
        go_wp2_with fail
        go_region_held3 (fun w' => w'.cell? ⟨g, 0, none⟩ = some (.string s) ∧ w'.cell? ⟨g, 1, none⟩ = some (.int .i64 (p : Int))) (go_keep) (first | (go_at_call 60; refine (cs _ (fun k h => cells_new wr.drew signs 9 k h)).mono ?_; rintro e w6 ⟨rfl, rfl⟩))
        all_goals
          have h4 := (hr.bel ((Below.refl _ wr).alloc (Nat.le_refl _) (Obj.cells (List.map Value.string signs).toArray 9))).drew
          clear cs hwr hdd
          cases T2
          · go_wp2_with fail
            go_roundw
            case rel => exact ⟨h4, by simp⟩
            case measure => simp [intOf]
          · have hl2 := (sign_two HT2.out).2
            have hsa := sign_al hp (by rw [hl2]; decide)
            rw [hl2] at hsa
            have HAL : Hid (Al s p (p + 2)) := hsa.1
            obtain ⟨d2, hd2⟩ : ∃ d, s.extract p (p + 2) = d := ⟨_, rfl⟩
            go_wp2_with fail
            refine wp_region_tail 22 (by kernel_rfl) (by kernel_rfl) ?_
            simp only [List.take_succ_cons, List.take_zero, List.drop_succ_cons, List.drop_zero]
            repeat (go_big_quiet_step (fail))
            refine wpQuiet_nil ?_
            go_wp2_with (go_at_call 56; go_must (refine (specTake 4 (p + 2) d2 0 hs hp hln hcl hl HAL (h4.drew)).mono ?_; rintro x w5 ⟨rfl, h5⟩))
            (try simp only [Exit.inBlock, Exit.then]); refine bodyPost_ret (results_none rfl _ _ _) rfl ?_
            refine ⟨rfl, ?_⟩
            rw [← HX.out, if_neg (by rw [hl2]; decide), hl2, hd2]
            exact h5
      · have hT : T2 = false := by have := HT2.out; rw [decide_eq_false hn2, Bool.false_and] at this; exact this.symm
        have HTF : Hid (T2 = false) := hT
        have hn2' : decide ((p : Int) + 2 ≤ (s.size : Int)) = false := by simp; omega
        clear hT k0 k1 cr cw clt cdg qn q34
        go_wp2_with fail
        go_quiet (fail)
        go_wp2_with fail
        go_roundw
        case rel => exact ⟨hr.drewN _, .inr (.inl ⟨rfl, HTF⟩)⟩
        case measure => simp [intOf]
    · have hT := HT1.out
      have HTF : Hid (T2 = false) := h2f
      clear h2f
      have hn2' : (p : Int) + 1 ≤ (s.size : Int) := by omega
      have cs := fun W hc => specHas signs (s.extract p (p + 1)) wr.heap.size W (by decide) hc
      rw [hT] at cs
      have ca0 : ∀ o, (wr.alloc o).cell? ⟨g, 0, none⟩ = some (.string s) := fun o => by have := (hr.bel ((Below.refl _ wr).alloc (Nat.le_refl _) o)).blk.cell 0; simpa using this
      have ca1 : ∀ o, (wr.alloc o).cell? ⟨g, 1, none⟩ = some (.int .i64 (p : Int)) := fun o => by have := (hr.bel ((Below.refl _ wr).alloc (Nat.le_refl _) o)).blk.cell 1; simpa using this
      clear hT k0 k1 cr cw clt cdg qn q34
      have hwr : IntKind.i64.wrap ((p : Int) + 1) = (p : Int) + 1 := wrap_i64 _ (by omega) (by omega)
      have hdd : decide ((p : Int) + 1 ≤ (s.size : Int)) = true := by simp; omega
      have hb1 : (0 : Int) ≤ (p : Int) + 1 := by omega
      have hb2 : (p : Int) ≤ (p : Int) + 1 := by omega
      go_wp2_with fail
      go_region_held3 (fun w' => w'.cell? ⟨g, 0, none⟩ = some (.string s) ∧ w'.cell? ⟨g, 1, none⟩ = some (.int .i64 (p : Int))) (go_keep) (first | (go_at_call 60; refine (cs _ (fun k h => cells_new wr.drew signs 9 k h)).mono ?_; rintro e w6 ⟨rfl, rfl⟩))
      all_goals
        have h4 := (hr.bel ((Below.refl _ wr).alloc (Nat.le_refl _) (Obj.cells (List.map Value.string signs).toArray 9))).drew
        clear cs hwr hdd
        cases T1
        · go_wp2_with fail
          go_roundw
          case rel => exact ⟨h4, .inr (.inr (by simp [HTF.out]))⟩
          case measure => simp [intOf]
        · have hl2 := (sign_one hp (HT2.out.trans HTF) HT1.out)
          have hsa := sign_al hp (by rw [hl2]; decide)
          rw [hl2] at hsa
          have HAL : Hid (Al s p (p + 1)) := hsa.1
          obtain ⟨d2, hd2⟩ : ∃ d, s.extract p (p + 1) = d := ⟨_, rfl⟩
          go_wp2_with fail
          refine wp_region_tail 22 (by kernel_rfl) (by kernel_rfl) ?_
          simp only [List.take_succ_cons, List.take_zero, List.drop_succ_cons, List.drop_zero]
          repeat (go_big_quiet_step (fail))
          refine wpQuiet_nil ?_
          go_wp2_with (go_at_call 56; go_must (refine (specTake 4 (p + 1) d2 0 hs hp hln hcl hl HAL (h4.drew)).mono ?_; rintro x w5 ⟨rfl, h5⟩))
          (try simp only [Exit.inBlock, Exit.then]); refine bodyPost_ret (results_none rfl _ _ _) rfl ?_
          refine ⟨rfl, ?_⟩
          rw [← HX.out, if_neg (by rw [hl2]; decide), hl2, hd2]
          exact h5
    · subst h2f h1f
      have hl2 := sign_none hp HT1.out
      clear k0 k1 cr cw clt cdg qn q34
      go_wp2_with (go_at_call 52; go_must (refine (specFail 4 p hr).mono ?_; rintro x w3 ⟨rfl, h3⟩))
      go_end0
      refine ⟨rfl, ?_⟩
      rw [← HX.out, if_pos hl2]
      exact h3
end Go.Proofs.YtbfoijeboaebdaaDoor
