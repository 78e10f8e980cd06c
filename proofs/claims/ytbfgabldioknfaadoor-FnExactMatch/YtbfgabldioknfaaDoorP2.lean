/-
  What spec.l10Match, Match answer. No statement of the seat is proved here.
-/
import Derived.Test.YtbfgabldioknfaaDoorP1
namespace Go.Proofs.YtbfgabldioknfaaDoor
open Go.ChangeShapes Go.WideShapes Go.ChangeAt Go.RowKit
set_option linter.unusedVariables false
set_option linter.unusedSimpArgs false

set_option maxRecDepth 100000 in
set_option maxHeartbeats 2000000 in
theorem specMatchL : ∀ (ps ts : List ByteArray) (vp vt : Value) (w : World), SlAt w vp ps → SlAt w vt ts →
    Calls Tryd.prog 8 #[vp, vt] w fun e w' => e = .returned (.bool (matchL ps ts)) ∧ Below w.heap.size w w'
  | [], ts, vp, vt, w, hp, ht => by
    obtain ⟨a, cap, rfl, h1, h2, -⟩ := hp
    obtain ⟨a2, cap2, rfl, h3, h4, -⟩ := ht
    unfold matchL
    cases ts with
    | nil =>
      go_enter Tryd.func8, Tryd.ntmps8
      go_wp2_with fail
      go_ret
      exact ⟨rfl, Below.refl _ _⟩
    | cons t ts =>
      obtain ⟨n, hn⟩ : ∃ n, (t :: ts).length = n := ⟨_, rfl⟩
      have hn0 : ((n : Int) == 0) = false := by rw [beq_eq_false_iff_ne]; simp at hn; omega
      have hn1 : ((0 : Int) == (n : Int)) = false := by rw [beq_eq_false_iff_ne]; simp at hn; omega
      have hn2 : (n == 0) = false := by rw [beq_eq_false_iff_ne]; simp at hn; omega
      rw [hn, hn2]
      clear hn
      go_enter Tryd.func8, Tryd.ntmps8
      go_wp2_with fail
      go_ret
      exact ⟨by simp_all, Below.refl _ _⟩
  | p :: ps, ts, vp, vt, w, hp, ht => by
    have HP : Hid (SlAt w vp (p :: ps)) := hp
    obtain ⟨a, cap, rfl, h1, h2, hc⟩ := hp
    obtain ⟨b, off, rfl, hb, hcell⟩ := hc (by simp)
    have c0 := hcell 0 (by simp)
    simp only [Nat.add_zero, List.getElem_cons_zero] at c0
    clear hcell hc
    have hpt := HP.out.tail
    obtain ⟨n, hn⟩ : ∃ n, (p :: ps).length = n := ⟨_, rfl⟩
    have hn0 : ((n : Int) == 0) = false := by rw [beq_eq_false_iff_ne]; simp at hn; omega
    rw [hn] at h1 hpt ⊢
    have HPT : Hid (SlAt w (.slice (if cap = 1 then some ⟨b, off, none⟩ else some ⟨b, off + 1, none⟩) (n - 1) (cap - 1)) ps) := hpt
    clear hpt HP
    have hnp : (0 : Int) < (n : Int) := by simp at hn; omega
    have hps : ps = [] ↔ n = 1 := by
      rw [← List.length_eq_zero_iff]; simp at hn; omega
    unfold matchL
    by_cases hq : ps = [] ∧ hashB p = true
    · rw [if_pos hq]
      have hn1 := hps.1 hq.1
      subst hn1
      have hh : (p.toList == [35]) = true := hq.2
      clear hq HPT hps
      go_enter Tryd.func8, Tryd.ntmps8
      go_wp2_with fail
      go_ret
      exact ⟨rfl, Below.refl _ _⟩
    · rw [if_neg hq]
      have hcond : ((n : Int) == 1) = false ∨ (((n : Int) == 1) = true ∧ (p.toList == [35]) = false) := by
        by_cases h : n = 1
        · refine .inr ⟨by rw [beq_iff_eq]; omega, ?_⟩
          cases e : (p.toList == [35])
          · rfl
          · exact absurd ⟨hps.2 h, e⟩ hq
        · refine .inl ?_
          rw [beq_eq_false_iff_ne]; omega
      have HQ : Hid (((n : Int) == 1) = false ∨ (((n : Int) == 1) = true ∧ (p.toList == [35]) = false)) := hcond
      clear hcond hq hps
      cases ts with
      | nil =>
        obtain ⟨a2, cap2, rfl, h3, h4, -⟩ := ht
        simp only [List.length_nil] at h3 ⊢
        clear HPT
        rcases HQ.out with q1 | ⟨q1, q2⟩
        · go_enter Tryd.func8, Tryd.ntmps8
          go_wp2_with fail
          go_ret
          exact ⟨by simp_all, Below.refl _ _⟩
        · go_enter Tryd.func8, Tryd.ntmps8
          go_wp2_with fail
          go_ret
          exact ⟨by simp_all, Below.refl _ _⟩
      | cons t ts =>
        have HT : Hid (SlAt w vt (t :: ts)) := ht
        obtain ⟨a2, cap2, rfl, h3, h4, hc2⟩ := ht
        obtain ⟨b2, off2, rfl, hb2, hcell2⟩ := hc2 (by simp)
        have c2 := hcell2 0 (by simp)
        simp only [Nat.add_zero, List.getElem_cons_zero] at c2
        clear hcell2 hc2
        have htt := HT.out.tail
        obtain ⟨m, hm⟩ : ∃ m, (t :: ts).length = m := ⟨_, rfl⟩
        have hm0 : ((m : Int) == 0) = false := by rw [beq_eq_false_iff_ne]; simp at hm; omega
        have hmp : (0 : Int) < (m : Int) := by simp at hm; omega
        rw [hm] at h3 htt ⊢
        have HTT : Hid (SlAt w (.slice (if cap2 = 1 then some ⟨b2, off2, none⟩ else some ⟨b2, off2 + 1, none⟩) (m - 1) (cap2 - 1)) ts) := htt
        clear htt HT
        have IH := fun vp vt W => specMatchL ps ts vp vt W
        obtain ⟨R, hR⟩ : ∃ R, matchL ps ts = R := ⟨_, rfl⟩
        simp only [hR] at IH
        have hst : starB p = (p.toList == [42]) := rfl
        dsimp only
        rw [hR, hst]
        clear hR hst hn hm
        have D0 := fun N : GoodW (fun W => Below w.heap.size w W) => (N.ok.cell (p := ⟨b, off, none⟩) hb).trans c0
        have D2 := fun N : GoodW (fun W => Below w.heap.size w W) => (N.ok.cell (p := ⟨b2, off2, none⟩) hb2).trans c2
        have hc1 : (n : Int) ≤ (cap : Int) := by omega
        have hc1' : (m : Int) ≤ (cap2 : Int) := by omega
        have hcm : (cap : Int) ≤ 9223372036854775807 := by simp [maxLen] at h2; omega
        have hcm' : (cap2 : Int) ≤ 9223372036854775807 := by simp [maxLen] at h4; omega
        obtain ⟨st, hst⟩ : ∃ st, (p.toList == [42]) = st := ⟨_, rfl⟩
        obtain ⟨eq, heq⟩ : ∃ eq, (p.toList == t.toList) = eq := ⟨_, rfl⟩
        rw [hst, heq]
        have hone : (1 : Int) ≤ (n : Int) := by omega
        have hone' : (1 : Int) ≤ (m : Int) := by omega
        go_enter Tryd.func8, Tryd.ntmps8
        go_upto_region 1 with fail
        go_cut [13] from 27 (fun s13 wx => s13 = .bool false ∧ wx = w)
        case first =>
          rcases HQ.out with q1 | ⟨q1, q2⟩
          · go_wp2_with fail
            go_meet
            exact ⟨rfl, rfl⟩
          · go_wp2_with fail
            go_meet
            exact ⟨rfl, rfl⟩
        case rest =>
          obtain ⟨rfl, rfl⟩ := hcut
          go_wp2_with fail
          haveI ne : Nonempty (GoodW (fun W => Below wc.heap.size wc W)) := ⟨⟨_, Below.refl _ _⟩⟩
          refine wp_region_calm (fun W => Below wc.heap.size wc W) (by kernel_rfl) (by kernel_rfl) (Below.refl _ _).drew ?_
          cases st
          · cases eq
            · repeat (go_big_quiet_step (fail))
              refine wpQuiet_nil ?_
              rintro _ ⟨⟨W2, hW2⟩, rfl⟩
              go_wp2_with fail
              go_ret
              exact ⟨rfl, hW2⟩
            · repeat (go_big_quiet_step ((go_at_call 8; exact Calls.calm _ (fun w2 hb => good_below (GoodW.ok _) hb) (IH _ _ _ (SlAt.below HPT.out (GoodW.ok _)) (SlAt.below HTT.out (GoodW.ok _))))))
              refine wpQuiet_nil ?_
              rintro _ ⟨⟨W2, hW2⟩, rfl⟩
              go_wp2_with fail
              all_goals (go_ret; exact ⟨by simp, hW2⟩)
          · repeat (go_big_quiet_step ((go_at_call 8; exact Calls.calm _ (fun w2 hb => good_below (GoodW.ok _) hb) (IH _ _ _ (SlAt.below HPT.out (GoodW.ok _)) (SlAt.below HTT.out (GoodW.ok _))))))
            refine wpQuiet_nil ?_
            rintro _ ⟨⟨W2, hW2⟩, rfl⟩
            go_wp2_with fail
            all_goals (go_ret; exact ⟨by simp, hW2⟩)

set_option maxRecDepth 100000 in
set_option maxHeartbeats 2000000 in
theorem specMatch (p t : ByteArray) (hp : p.size ≤ maxLen) (ht : t.size ≤ maxLen) (w : World) (hN : NameSpec nameOK) :
    Calls Tryd.prog 4 #[.string p, .string t] w fun e w' => e = .returned (.bool (matchF p t)) ∧ Below w.heap.size w w' := by
  have hm : (p.size : Int) ≤ 9223372036854775807 := by simp [maxLen] at hp; omega
  have hm2 : (t.size : Int) ≤ 9223372036854775807 := by simp [maxLen] at ht; omega
  have c1 := fun w => specPattern hN p hp w
  have c2 := fun w => specPath hN t ht w
  unfold matchF
  have z1 := @pat_size p
  have z2 := @path_size t
  obtain ⟨A1, hA1⟩ : ∃ A1, patB nameOK p = A1 := ⟨_, rfl⟩
  obtain ⟨A2, hA2⟩ : ∃ A2, pathB nameOK t = A2 := ⟨_, rfl⟩
  simp only [hA1] at c1 z1
  simp only [hA2] at c2 z2
  rw [hA1, hA2]
  clear hA1 hA2 hN
  by_cases l1 : p.size ≤ 65536
  case neg =>
    have l1' : (65536 : Int) < (p.size : Int) := by omega
    have hf : A1 = false := by
      cases A1
      · rfl
      · have := z1 rfl; omega
    subst hf
    clear z1 z2 c1 c2
    go_enter Tryd.func4, Tryd.ntmps4
    go_wp2_with fail
    go_ret
    exact ⟨rfl, Below.refl _ _⟩
  have l1' : ¬ ((65536 : Int) < (p.size : Int)) := by omega
  by_cases l2 : t.size ≤ 65536
  case neg =>
    have l2' : (65536 : Int) < (t.size : Int) := by omega
    have hf : A2 = false := by
      cases A2
      · rfl
      · have := z2 rfl; omega
    subst hf
    clear z1 z2 c1 c2
    go_enter Tryd.func4, Tryd.ntmps4
    go_wp2_with fail
    go_ret
    exact ⟨by simp, Below.refl _ _⟩
  have l2' : ¬ ((65536 : Int) < (t.size : Int)) := by omega
  have c3 := fun w => specCut p (by omega) w
  have c4 := fun w => specCut t (by omega) w
  have c5 := fun vp vt W => specMatchL (cutF p 46) (cutF t 46) vp vt W
  obtain ⟨ps, hps⟩ : ∃ ps, cutF p 46 = ps := ⟨_, rfl⟩
  obtain ⟨ts, hts⟩ : ∃ ts, cutF t 46 = ts := ⟨_, rfl⟩
  simp only [hps, hts] at c3 c4 c5 ⊢
  obtain ⟨R, hR⟩ : ∃ R, matchL ps ts = R := ⟨_, rfl⟩
  simp only [hR] at c5 ⊢
  clear hps hts hR z1 z2
  cases A1
  · go_enter Tryd.func4, Tryd.ntmps4
    go_wp2_with (go_at_call 6; go_must (refine (c1 _).mono ?_; rintro e w1 ⟨rfl, hb1⟩))
    go_ret
    exact ⟨rfl, hb1⟩
  · cases A2
    · go_enter Tryd.func4, Tryd.ntmps4
      go_wp2_with (first
        | (go_at_call 6; go_must (refine (c1 _).mono ?_; rintro e w1 ⟨rfl, hb1⟩))
        | (go_at_call 7; go_must (refine (c2 _).mono ?_; rintro e w2 ⟨rfl, hb2⟩)))
      go_ret
      exact ⟨by simp, good_below hb1 hb2⟩
    · go_enter Tryd.func4, Tryd.ntmps4
      go_wp2_with (first
        | (go_at_call 6; go_must (refine (c1 _).mono ?_; rintro e w1 ⟨rfl, hb1⟩))
        | (go_at_call 7; go_must (refine (c2 _).mono ?_; rintro e w2 ⟨rfl, hb2⟩))
        | (go_at_call 9; have hchk := hb3; refine (c4 _).mono ?_; rintro e w4 ⟨⟨v4, rfl, o4⟩, hb4⟩; have s3 := SlAt.below o3.slAt hb4; have s4 := o4.slAt; obtain ⟨a4, n4, h4⟩ : ∃ a c, v4 = .slice a ts.length c := (by obtain ⟨a, c, h, _⟩ := s4; exact ⟨a, c, h⟩); subst h4)
        | (go_at_call 9; refine (c3 _).mono ?_; rintro e w3 ⟨⟨v3, rfl, o3⟩, hb3⟩; obtain ⟨a3, n3, h3⟩ : ∃ a c, v3 = .slice a ps.length c := (by obtain ⟨a, c, h, _⟩ := o3.slAt; exact ⟨a, c, h⟩); subst h3)
        | (go_at_call 8; go_must (refine (c5 _ _ _ s3 s4).mono ?_; rintro e w5 ⟨rfl, hb5⟩)))
      go_ret
      exact ⟨by simp, good_below hb1 (good_below hb2 (good_below hb3 (good_below hb4 hb5)))⟩
end Go.Proofs.YtbfgabldioknfaaDoor
