/-
  The contract of spec's scanner's blanks. No statement of the seat is proved here.
-/
import Derived.Test.YtbfoijeboaebdaaDoorCalm
import Derived.Test.YtbfoijeboaebdaaDoorScan2
namespace Go.Proofs.YtbfoijeboaebdaaDoor
open Go.ChangeShapes Go.WideShapes Go.ChangeAt Go.RowKit
set_option linter.unusedVariables false

theorem Sp.drewN {B g : Nat} {s : ByteArray} {p ln cl : Nat} {l : List Tok} {code bad : Nat} {v : Value} {w0 w : World} (h : Sp B g s p ln cl l code bad v w0 w) (n : Nat) : Sp B g s p ln cl l code bad v w0 (w.drewN n) := h.bel (below_drewN (Below.refl _ _) _)

section
variable {s : ByteArray} {p ln cl : Nat} {l : List Tok}
theorem scan_out {rm : Bool} (h : ¬ p < s.size) : scan s p rm ln cl l = .ok l := by rw [scan, dif_neg h]
theorem scan_nl (h : p < s.size) (hb : byt s p = 10) : scan s p true ln cl l = scan s (p + (Utf8.decode s p).2) false (lineOn (Utf8.decode s p).1 ln) (colOn (Utf8.decode s p).1 cl) l := by
  rw [scan, dif_pos h, if_pos rfl, if_pos hb]
theorem scan_rbad (h : p < s.size) (hb : byt s p ≠ 10) (hw : wrongB s p = true) : scan s p true ln cl l = .bad 3 p := by
  rw [scan, dif_pos h, if_pos rfl, if_neg hb, if_pos hw]
theorem scan_rem (h : p < s.size) (hb : byt s p ≠ 10) (hw : wrongB s p = false) : scan s p true ln cl l = scan s (p + (Utf8.decode s p).2) true (lineOn (Utf8.decode s p).1 ln) (colOn (Utf8.decode s p).1 cl) l := by
  rw [scan, dif_pos h, if_pos rfl, if_neg hb, if_neg (by simp [hw])]
theorem scan_slash (h : p < s.size) (hb : slashes s p = true) : scan s p false ln cl l = scan s (p + (Utf8.decode s p).2) true (lineOn (Utf8.decode s p).1 ln) (colOn (Utf8.decode s p).1 cl) l := by
  rw [scan, dif_pos h, if_neg (by simp), if_pos hb]
theorem scan_blank (h : p < s.size) (hb : slashes s p = false) (hk : blankB (byt s p) = true) : scan s p false ln cl l = scan s (p + (Utf8.decode s p).2) false (lineOn (Utf8.decode s p).1 ln) (colOn (Utf8.decode s p).1 cl) l := by
  rw [scan, dif_pos h, if_neg (by simp), if_neg (by simp [hb]), if_pos hk]
end

theorem wrong_low (s : ByteArray) (p : Nat) (h : byt s p < 128) : wrongB s p = false := by
  rcases decode_ascii' s p with ⟨h1, h2⟩ | ⟨h1, h2⟩
  · unfold wrongB; rw [h2]; simp; omega
  · omega

theorem overB (s : ByteArray) (p ln cl : Nat) (h : p < s.size) : 1 ≤ (Utf8.decode s p).2 ∧ p + (Utf8.decode s p).2 ≤ s.size ∧ lineOn (Utf8.decode s p).1 ln ≤ ln + 1 ∧ colOn (Utf8.decode s p).1 cl ≤ cl + 1 := by
  refine ⟨decode_pos s p, decode_fits s p h, ?_, ?_⟩
  · unfold lineOn; split <;> omega
  · unfold colOn; split <;> omega

/-- How spec's blanks ends. -/
def BlankEnd (B g : Nat) (s : ByteArray) (l : List Tok) (bad : Nat) (v : Value) (w0 : World) (F : Res) (w' : World) : Prop :=
  (∃ q p1 ln1 cl1, F = .bad 3 q ∧ Sp B g s p1 ln1 cl1 l 3 q v w0 w') ∨
  (∃ p1 ln1 cl1, Sp B g s p1 ln1 cl1 l 0 bad v w0 w' ∧ p1 ≤ s.size ∧ ln1 ≤ p1 + 1 ∧ cl1 ≤ p1 + 1 ∧ scan s p1 false ln1 cl1 l = F ∧ (p1 < s.size → slashes s p1 = false ∧ blankB (byt s p1) = false))

set_option maxRecDepth 100000 in
set_option maxHeartbeats 4000000 in
theorem specBlanks {B g : Nat} {s : ByteArray} {p ln cl : Nat} {l : List Tok} {bad : Nat} {v : Value} {w0 w : World} (hs : s.size ≤ 65536) (hp : p ≤ s.size) (hln : ln ≤ p + 1) (hcl : cl ≤ p + 1) (h : Sp B g s p ln cl l 0 bad v w0 w) :
    Calls Tryd.prog 30 #[.pointer (some ⟨g, 0, none⟩)] w fun x w' => x = .returned (.tuple #[]) ∧ BlankEnd B g s l bad v w0 (scan s p false ln cl l) w' := by
  obtain ⟨F, hF⟩ : ∃ F, scan s p false ln cl l = F := ⟨_, rfl⟩
  rw [hF]
  have HF : Hid (scan s p false ln cl l = F) := hF
  have HS : Hid (Sp B g s p ln cl l 0 bad v w0 w) := h
  clear h hF
  go_enter Tryd.func30, Tryd.ntmps30
  go_wp2_with fail
  go_loopw [2] (fun x wr => ∃ p1 ln1 cl1 rm, x = .bool rm ∧ Sp B g s p1 ln1 cl1 l 0 bad v w0 wr ∧ p1 ≤ s.size ∧ ln1 ≤ p1 + 1 ∧ cl1 ≤ p1 + 1 ∧ scan s p1 rm ln1 cl1 l = F) (fun _ wr => s.size - spotOf wr g)
  case atStart => exact ⟨p, ln, cl, false, rfl, HS, hp, hln, hcl, HF⟩
  case round =>
    obtain ⟨p1, ln1, cl1, rm, rfl, hr, hp1, hln1, hcl1, hsc⟩ := hrel
    have HSc : Hid (scan s p1 rm ln1 cl1 l = F) := hsc
    clear hsc HF HS
    have d0 := hr.blk.cell 0
    have d1 := hr.blk.cell 1
    have d5 := hr.blk.cell 5
    simp at d0 d1 d5
    have hsp := hr.spot
    by_cases hlt : p1 < s.size
    · have hlt' : (p1 : Int) < (s.size : Int) := by omega
      have hba := byt_eq s p1 hlt
      have hbl := byt_lt s p1
      have cw := specWrong s p1 hs hlt
      have wlo : byt s p1 < 128 → wrongB s p1 = false := wrong_low s p1
      obtain ⟨b, hbb⟩ : ∃ b, byt s p1 = b := ⟨_, rfl⟩
      cases rm
      · have hb2 : ∀ h : p1 + 1 < s.size, s[p1 + 1].toNat = byt s (p1 + 1) := byt_eq s (p1 + 1)
        have hbl2 := byt_lt s (p1 + 1)
        obtain ⟨c, hcc⟩ : ∃ c, byt s (p1 + 1) = c := ⟨_, rfl⟩
        have hsl : slashes s p1 = (b == 47 && decide (p1 + 1 < s.size) && c == 47) := by unfold slashes; rw [hbb, hcc]
        have ss := scan_slash (ln := ln1) (cl := cl1) (l := l) hlt
        have sb := scan_blank (ln := ln1) (cl := cl1) (l := l) hlt
        rw [hbb] at sb
        rw [hsl] at ss sb
        have HSL : Hid (slashes s p1 = (b == 47 && decide (p1 + 1 < s.size) && c == 47)) := hsl
        have HBB : Hid (byt s p1 = b) := hbb
        rw [hbb] at hba hbl
        rw [hcc] at hb2 hbl2
        clear wlo cw hsl hbb hcc
        by_cases h47 : b = 47
        · subst h47
          by_cases hn1 : p1 + 1 < s.size
          · have hn1' : (p1 : Int) + 1 < (s.size : Int) := by omega
            by_cases hc47 : c = 47
            · subst hc47
              have HN : Hid _ := (ss (by simp [hn1])).symm.trans HSc.out
              clear ss sb HSc HSL
              go_wp2_with fail
              go_quiet (fail)
              go_wp2_with fail
              go_quiet (fail)
              go_wp2_with fail
              go_quiet (fail)
              go_wp2_with fail
              go_quiet (fail)
              go_wp2_with (go_at_call 53; go_must (refine (specOver hs hlt (by omega) (by omega) (hr.drewN _)).mono ?_; rintro x w2 ⟨rfl, h2⟩))
              have hsp2 := h2.spot
              have bs := overB s p1 ln1 cl1 hlt
              go_roundw
              case rel => exact ⟨_, _, _, _, rfl, h2, by omega, by omega, by omega, HN⟩
              case measure => rw [hsp, hsp2]; omega
            · have qc : ((c : Int) == 47) = false := by rw [beq_eq_false_iff_ne]; omega
              clear ss sb
              go_wp2_with fail
              go_quiet (fail)
              go_wp2_with fail
              go_quiet (fail)
              go_wp2_with fail
              go_quiet (fail)
              go_wp2_with fail
              go_quiet (fail)
              go_wp2_with fail
              (try simp only [Exit.inBlock, Exit.then]); refine bodyPost_ret (results_none rfl _ _ _) rfl ?_
              refine ⟨rfl, .inr ⟨p1, ln1, cl1, hr.drewN _, by omega, by omega, by omega, HSc, fun _ => ⟨?_, ?_⟩⟩⟩
              · rw [HSL.out]; simp [hc47]
              · rw [HBB.out]; decide
          · have hn1' : decide ((p1 : Int) + 1 < (s.size : Int)) = false := by simp; omega
            clear ss sb
            go_wp2_with fail
            go_quiet (fail)
            go_wp2_with fail
            go_quiet (fail)
            go_wp2_with fail
            go_quiet (fail)
            go_wp2_with fail
            go_quiet (fail)
            go_wp2_with fail
            (try simp only [Exit.inBlock, Exit.then]); refine bodyPost_ret (results_none rfl _ _ _) rfl ?_
            refine ⟨rfl, .inr ⟨p1, ln1, cl1, hr.drewN _, by omega, by omega, by omega, HSc, fun _ => ⟨?_, ?_⟩⟩⟩
            · rw [HSL.out]; simp [hn1]
            · rw [HBB.out]; decide
        · have q47 : ((b : Int) == 47) = false := by rw [beq_eq_false_iff_ne]; omega
          have e47 : (b == 47) = false := by simp [h47]
          cases hbk : blankB b
          · have hb0 : ¬ b = 32 ∧ ¬ b = 9 ∧ ¬ b = 10 ∧ ¬ b = 13 := by simpa [blankB, and_assoc] using hbk
            have r1 : ((b : Int) != 32) = true := by simp; omega
            have r2 : ((b : Int) != 9) = true := by simp; omega
            have r3 : ((b : Int) != 10) = true := by simp; omega
            have r4 : ((b : Int) != 13) = true := by simp; omega
            clear ss sb hb0
            go_wp2_with fail
            go_quiet (fail)
            go_wp2_with fail
            go_quiet (fail)
            go_wp2_with fail
            go_quiet (fail)
            go_wp2_with fail
            go_quiet (fail)
            go_wp2_with fail
            (try simp only [Exit.inBlock, Exit.then]); refine bodyPost_ret (results_none rfl _ _ _) rfl ?_
            refine ⟨rfl, .inr ⟨p1, ln1, cl1, hr.drewN _, by omega, by omega, by omega, HSc, fun _ => ⟨?_, ?_⟩⟩⟩
            · rw [HSL.out]; simp [h47]
            · rw [HBB.out]; exact hbk
          · have HN : Hid _ := (sb (by simp [h47]) hbk).symm.trans HSc.out
            have hb0 : b = 32 ∨ b = 9 ∨ b = 10 ∨ b = 13 := by simpa [blankB, or_assoc] using hbk
            clear ss sb HSc HSL hbk h47 q47 e47 hbl
            rcases hb0 with rfl | rfl | rfl | rfl
            all_goals
              go_wp2_with fail
              go_quiet (fail)
              go_wp2_with fail
              go_quiet (fail)
              go_wp2_with fail
              go_quiet (fail)
              go_wp2_with fail
              go_quiet (fail)
              go_wp2_with (go_at_call 53; go_must (refine (specOver hs hlt (by omega) (by omega) (hr.drewN _)).mono ?_; rintro x w2 ⟨rfl, h2⟩))
              have hsp2 := h2.spot
              have bs := overB s p1 ln1 cl1 hlt
              go_roundw
              case rel => exact ⟨_, _, _, _, rfl, h2, by omega, by omega, by omega, HN⟩
              case measure => rw [hsp, hsp2]; omega
      · rw [hbb] at wlo hba hbl
        have sn := scan_nl (ln := ln1) (cl := cl1) (l := l) hlt
        have sw := scan_rbad (ln := ln1) (cl := cl1) (l := l) hlt
        have sr := scan_rem (ln := ln1) (cl := cl1) (l := l) hlt
        rw [hbb] at sn sw sr
        clear hbb
        by_cases hb : b = 10
        · subst hb
          have HN : Hid _ := (sn rfl).symm.trans HSc.out
          rw [wlo (by omega)] at cw
          clear HSc wlo sn sw sr hbl
          go_wp2_with fail
          go_quiet (fail)
          go_wp2_with fail
          go_quiet (fail)
          go_wp2_with fail
          haveI ne : Nonempty (GoodW (Sp B g s p1 ln1 cl1 l 0 bad v w0)) := ⟨⟨_, hr⟩⟩
          have k0 : ∀ n : GoodW (Sp B g s p1 ln1 cl1 l 0 bad v w0), n.W.cell? ⟨g, 0, none⟩ = some (.string s) := fun n => by simpa using n.ok.blk.cell 0
          have k1 : ∀ n : GoodW (Sp B g s p1 ln1 cl1 l 0 bad v w0), n.W.cell? ⟨g, 1, none⟩ = some (.int .i64 (p1 : Int)) := fun n => by simpa using n.ok.blk.cell 1
          refine wp_region_calm (Sp B g s p1 ln1 cl1 l 0 bad v w0) (by kernel_rfl) (by kernel_rfl) ((hr.drewN _).drewN _).drew ?_
          repeat (go_big_quiet_step ((go_at_call 24; exact Calls.calm _ (fun w2 hb => Sp.bel (GoodW.ok _) hb) (cw _))))
          refine wpQuiet_nil ?_
          rintro _ ⟨⟨w1, h1⟩, rfl⟩
          clear k0 k1
          have e0 := h1.blk.cell 0
          have e1 := h1.blk.cell 1
          simp at e0 e1
          go_wp2_with fail
          go_quiet (fail)
          go_wp2_with (go_at_call 53; go_must (refine (specOver hs hlt (by omega) (by omega) (h1.drewN _)).mono ?_; rintro x w2 ⟨rfl, h2⟩))
          have hsp2 := h2.spot
          have bs := overB s p1 ln1 cl1 hlt
          go_roundw
          case rel => exact ⟨_, _, _, _, rfl, h2, by omega, by omega, by omega, HN⟩
          case measure => rw [hsp, hsp2]; omega
        have q10 : ((b : Int) == 10) = false := by rw [beq_eq_false_iff_ne]; omega
        clear sn
        cases hW : wrongB s p1
        · have HN : Hid _ := (sr hb hW).symm.trans HSc.out
          rw [hW] at cw
          clear HSc wlo sw sr hW
          go_wp2_with fail
          go_quiet (fail)
          go_wp2_with fail
          go_quiet (fail)
          go_wp2_with fail
          haveI ne : Nonempty (GoodW (Sp B g s p1 ln1 cl1 l 0 bad v w0)) := ⟨⟨_, hr⟩⟩
          have k0 : ∀ n : GoodW (Sp B g s p1 ln1 cl1 l 0 bad v w0), n.W.cell? ⟨g, 0, none⟩ = some (.string s) := fun n => by simpa using n.ok.blk.cell 0
          have k1 : ∀ n : GoodW (Sp B g s p1 ln1 cl1 l 0 bad v w0), n.W.cell? ⟨g, 1, none⟩ = some (.int .i64 (p1 : Int)) := fun n => by simpa using n.ok.blk.cell 1
          refine wp_region_calm (Sp B g s p1 ln1 cl1 l 0 bad v w0) (by kernel_rfl) (by kernel_rfl) ((hr.drewN _).drewN _).drew ?_
          repeat (go_big_quiet_step ((go_at_call 24; exact Calls.calm _ (fun w2 hb => Sp.bel (GoodW.ok _) hb) (cw _))))
          refine wpQuiet_nil ?_
          rintro _ ⟨⟨w1, h1⟩, rfl⟩
          clear k0 k1
          have e0 := h1.blk.cell 0
          have e1 := h1.blk.cell 1
          simp at e0 e1
          go_wp2_with fail
          go_quiet (fail)
          go_wp2_with (go_at_call 53; go_must (refine (specOver hs hlt (by omega) (by omega) (h1.drewN _)).mono ?_; rintro x w2 ⟨rfl, h2⟩))
          have hsp2 := h2.spot
          have bs := overB s p1 ln1 cl1 hlt
          go_roundw
          case rel => exact ⟨_, _, _, _, rfl, h2, by omega, by omega, by omega, HN⟩
          case measure => rw [hsp, hsp2]; omega
        · have HN : Hid _ := (sw hb hW).symm.trans HSc.out
          rw [hW] at cw
          clear HSc wlo sw sr hW
          go_wp2_with fail
          go_quiet (fail)
          go_wp2_with fail
          go_quiet (fail)
          go_wp2_with fail
          haveI ne : Nonempty (GoodW (Sp B g s p1 ln1 cl1 l 0 bad v w0)) := ⟨⟨_, hr⟩⟩
          have k0 : ∀ n : GoodW (Sp B g s p1 ln1 cl1 l 0 bad v w0), n.W.cell? ⟨g, 0, none⟩ = some (.string s) := fun n => by simpa using n.ok.blk.cell 0
          have k1 : ∀ n : GoodW (Sp B g s p1 ln1 cl1 l 0 bad v w0), n.W.cell? ⟨g, 1, none⟩ = some (.int .i64 (p1 : Int)) := fun n => by simpa using n.ok.blk.cell 1
          refine wp_region_calm (Sp B g s p1 ln1 cl1 l 0 bad v w0) (by kernel_rfl) (by kernel_rfl) ((hr.drewN _).drewN _).drew ?_
          repeat (go_big_quiet_step ((go_at_call 24; exact Calls.calm _ (fun w2 hb => Sp.bel (GoodW.ok _) hb) (cw _))))
          refine wpQuiet_nil ?_
          rintro _ ⟨⟨w1, h1⟩, rfl⟩
          clear k0 k1
          have e0 := h1.blk.cell 0
          have e1 := h1.blk.cell 1
          simp at e0 e1
          go_wp2_with (go_at_call 52; go_must (refine (specFail 3 p1 h1).mono ?_; rintro x w2 ⟨rfl, h2⟩))
          (try simp only [Exit.inBlock, Exit.then]); refine bodyPost_ret (results_none rfl _ _ _) rfl ?_
          exact ⟨rfl, .inl ⟨p1, _, _, _, HN.out.symm, h2⟩⟩
    · have hlt' : decide ((p1 : Int) < (s.size : Int)) = false := by simp; omega
      have hpe : p1 = s.size := by omega
      have HR : Hid (scan s p1 false ln1 cl1 l = F) := by
        have := HSc.out
        rw [scan_out hlt] at this
        show _ = _
        rw [scan_out hlt]; exact this
      clear HSc
      go_wp2_with fail
      go_quiet (fail)
      go_wp2_with fail
      go_end0
      exact ⟨rfl, .inr ⟨p1, ln1, cl1, hr.drewN _, by omega, by omega, by omega, HR, fun h => absurd h hlt⟩⟩
end Go.Proofs.YtbfoijeboaebdaaDoor
