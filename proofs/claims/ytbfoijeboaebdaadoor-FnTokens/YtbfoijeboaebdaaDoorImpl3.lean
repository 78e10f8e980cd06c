/-
  The contract of impl's scanner's remark. No statement of the seat is proved here.
-/
import Derived.Test.YtbfoijeboaebdaaDoorImpl2
import Derived.Test.YtbfoijeboaebdaaDoorScan3
namespace Go.Proofs.YtbfoijeboaebdaaDoor
open Go.ChangeShapes Go.WideShapes Go.ChangeAt Go.RowKit
set_option linter.unusedVariables false

theorem iter_below {w w' : World} (hb : Below w.heap.size w w') {k : Nat} {s : ByteArray} {p : Nat} (hk : w.heap[k]? = some (.stringIter s p)) : w'.heap[k]? = some (.stringIter s p) := by
  rw [hb.block k (Array.getElem?_eq_some_iff.1 hk).1]; exact hk
structure ImIt (B g : Nat) (s : ByteArray) (p ln cl : Nat) (l : List Tok) (v : Value) (w0 : World) (k : Nat) (X : ByteArray) (q : Nat) (W : World) : Prop where
  im : Im B g s p ln cl l v w0 W
  it : W.heap[k]? = some (.stringIter X q)
theorem ImIt.bel {B g : Nat} {s : ByteArray} {p ln cl : Nat} {l : List Tok} {v : Value} {w0 : World} {k : Nat} {X : ByteArray} {q : Nat} {W W' : World} (h : ImIt B g s p ln cl l v w0 k X q W) (hb : Below W.heap.size W W') : ImIt B g s p ln cl l v w0 k X q W' := ⟨h.im.bel hb, iter_below hb h.it⟩
theorem lineTo_trans {s : ByteArray} {p q e : Nat} (h : Al s p q) (hqe : q ≤ e) (ln cl : Nat) : lineTo s p e ln cl = lineTo s q e (lineTo s p q ln cl).1 (lineTo s p q ln cl).2 := by
  induction h generalizing ln cl with
  | nil a => rw [lineTo_out (s := s) (p := a) (e := a) (by omega)]
  | @cons a b h1 h2 ih =>
    have h3 := h2.le
    have h4 := decode_pos s a
    rw [lineTo_on (show a < e by omega), lineTo_on (show a < b by omega)]
    exact ih hqe _ _
theorem lineTo_one {s : ByteArray} {p : Nat} (h : p < s.size) (ln cl : Nat) : lineTo s p (p + (Utf8.decode s p).2) ln cl = (lineOn (Utf8.decode s p).1 ln, colOn (Utf8.decode s p).1 cl) := by
  have h4 := decode_pos s p
  rw [lineTo_on (by omega), lineTo_out (by omega)]
theorem scan_slash' {s : ByteArray} {p ln cl : Nat} {l : List Tok} (h : p < s.size) (hb : slashes s p = true) : scan s p false ln cl l = scan s p true ln cl l := by
  have hb47 : byt s p = 47 := by simp [slashes] at hb; exact hb.1.1
  rw [scan_slash h hb, scan_rem h (by omega) (wrong_low s p (by omega))]
theorem scan_nl' {s : ByteArray} {p ln cl : Nat} {l : List Tok} (h : p < s.size) (hb : byt s p = 10) : scan s p true ln cl l = scan s p false ln cl l := by
  rw [scan_nl h hb, scan_blank h (by simp [slashes, hb]) (by rw [hb]; decide)]

/-- How impl's remark ends. -/
def RemEnd (B g : Nat) (s : ByteArray) (p : Nat) (l : List Tok) (v : Value) (w0 : World) (F : Res) (e : Ending) (w' : World) : Prop :=
  (∃ q, F = .bad 3 q ∧ e = .returned (.tuple #[.int .i64 3, .int .i64 (q : Int)]) ∧ Below B w0 w') ∨
  (∃ q ln1 cl1, e = .returned (.tuple #[.int .i64 0, .int .i64 0]) ∧ Im B g s q ln1 cl1 l v w0 w' ∧ p < q ∧ q ≤ s.size ∧ ln1 ≤ q + 1 ∧ cl1 ≤ q + 1 ∧ scan s q false ln1 cl1 l = F)

set_option maxRecDepth 100000 in
set_option maxHeartbeats 2000000 in
theorem implRemark {B g : Nat} {s : ByteArray} {p ln cl : Nat} {l : List Tok} {v : Value} {w0 w : World} (hs : s.size ≤ 65536) (hp : p < s.size) (hln : ln ≤ p + 1) (hcl : cl ≤ p + 1) (hsl : slashes s p = true) (hT : ∀ W, Below B w0 W → Lib.Utf8Tabs 0 1 W) (h : Im B g s p ln cl l v w0 w) :
    Calls Tryd.prog 46 #[.pointer (some ⟨g, 0, none⟩)] w fun e w' => RemEnd B g s p l v w0 (scan s p false ln cl l) e w' := by
  have hb47 : byt s p = 47 := by simp [slashes] at hsl; exact hsl.1.1
  obtain ⟨F, hF⟩ : ∃ F, scan s p false ln cl l = F := ⟨_, rfl⟩
  rw [hF]
  have HF : Hid (scan s p true ln cl l = F) := (scan_slash' hp hsl).symm.trans hF
  have HT : Hid (∀ W, Below B w0 W → Lib.Utf8Tabs 0 1 W) := hT
  have c0 := h.blk.cell 0
  have c1 := h.blk.cell 1
  simp at c0 c1
  have hpe' : (p : Int) ≤ (s.size : Int) := by omega
  have hsz : (s.extract p s.size).size = s.size - p := by simp
  obtain ⟨X, hX⟩ : ∃ X, s.extract p s.size = X := ⟨_, rfl⟩
  have HX : Hid (s.extract p s.size = X) := hX
  have HZ : Hid (X.size = s.size - p) := by rw [← hX]; exact hsz
  have H47 : Hid (byt s p = 47) := hb47
  have HI : Hid (Im B g s p ln cl l v w0 w) := h
  have hBw : B ≤ w.heap.size := by have := h.blk.lt; have := h.ge; omega
  clear hF hT h hsz hb47 hsl
  go_enter Tryd.func46, Tryd.ntmps46
  go_wp2_with fail
  refine wp_region_tail 9 (by kernel_rfl) (by kernel_rfl) ?_
  simp only [List.take_succ_cons, List.take_zero, List.drop_succ_cons, List.drop_zero]
  repeat (go_big_quiet_step (fail))
  refine wpQuiet_nil ?_
  go_wp2_with fail
  go_loopw [4] (fun _ wr => ∃ j, wr.heap[w.heap.size]? = some (.stringIter X j) ∧ Im B g s p ln cl l v w0 wr ∧ j ≤ X.size ∧ Al s p (p + j) ∧ scan s (p + j) true (lineTo s p (p + j) ln cl).1 (lineTo s p (p + j) ln cl).2 l = F) (fun _ wr => X.size - wr.iterPos w.heap.size)
  case atStart => exact ⟨0, iter_fresh w.drew X 0, (HI.out.drew).bel ((Below.refl _ _).alloc (Nat.le_refl _) _), by omega, .nil _, by rw [Nat.add_zero, lineTo_out (by omega)]; exact HF⟩
  case round =>
    obtain ⟨j, hi, hr, hjX, hal1, hsc⟩ := hrel
    have hip := iterPos_of hi
    have HAJ : Hid (Al s p (p + j)) := hal1
    have HSC : Hid (scan s (p + j) true (lineTo s p (p + j) ln cl).1 (lineTo s p (p + j) ln cl).2 l = F) := hsc
    have hjz := HZ.out
    have hlb := lineTo_le s p (p + j) ln cl
    clear hal1 hsc HI HF
    by_cases hj : j < X.size
    · have hlt : p + j < s.size := by omega
      have hfit := decode_fits s (p + j) hlt
      have hdec := decode_sub s p s.size j (Nat.le_refl _) hlt hfit
      rw [HX.out] at hdec
      have hnx : ∀ ty, (Instr.next (.pointer (some ⟨w.heap.size, 0, none⟩)) true ty).run Tryd.prog wr = _ := fun ty => Lib.run_next_any_at wr w.heap.size X j ty hi hj
      rw [hdec] at hnx
      have hle := (decode_le s (p + j)).1
      have hdp := decode_pos s (p + j)
      have hlo := lineTo_one hlt (lineTo s p (p + j) ln cl).1 (lineTo s p (p + j) ln cl).2
      have hA2 := HAJ.out.trans (Al.one hlt)
      have htr := lineTo_trans HAJ.out (show p + j ≤ p + j + (Utf8.decode s (p + j)).2 by omega) ln cl
      have hnl := @scan_nl' s (p + j) (lineTo s p (p + j) ln cl).1 (lineTo s p (p + j) ln cl).2 l hlt
      have hrb := @scan_rbad s (p + j) (lineTo s p (p + j) ln cl).1 (lineTo s p (p + j) ln cl).2 l hlt
      have hrm := @scan_rem s (p + j) (lineTo s p (p + j) ln cl).1 (lineTo s p (p + j) ln cl).2 l hlt
      rw [HSC.out] at hnl hrb hrm
      rw [hlo] at htr
      have has := decode_ascii' s (p + j)
      have cw := implWrongAt s (p + j) hs hlt
      obtain ⟨R, hR⟩ : ∃ R, (Utf8.decode s (p + j)).1 = R := ⟨_, rfl⟩
      obtain ⟨K, hK⟩ : ∃ K, (Utf8.decode s (p + j)).2 = K := ⟨_, rfl⟩
      have hb10 : (byt s (p + j) = 10) ↔ R = 10 := by
        rcases has with ⟨h1, h2⟩ | ⟨h1, h2⟩
        · rw [← hR, h2]
        · rw [← hR]; constructor <;> intro h <;> omega
      rw [hR, hK] at hnx hrm htr
      rw [hR] at hle
      rw [hK] at hfit hdp hA2
      have hqi : (p : Int) + (j : Int) = ((p + j : Nat) : Int) := by omega
      have hpq : p ≤ p + j := by omega
      have hadd : p + (j + K) = p + j + K := by omega
      obtain ⟨q, hq⟩ : ∃ q, p + j = q := ⟨_, rfl⟩
      rw [hq] at hlt hnl hrb hrm htr hA2 hfit hb10 cw hlb HAJ hqi hpq hadd
      have HJQ : Hid (p + j = q) := hq
      have hjK : j + K ≤ X.size := by omega
      obtain ⟨wt, hwt⟩ : ∃ wt, wr.iterAt w.heap.size X (j + K) = wt := ⟨_, rfl⟩
      have ht : Im B g s p ln cl l v w0 wt := by rw [← hwt]; exact hr.iterAt hi hBw _
      have hiT : wt.heap[w.heap.size]? = some (.stringIter X (j + K)) := by rw [← hwt]; exact Lib.iterAt_heap wr _ _ _ _ hi
      rw [hwt] at hnx
      have d1 := ht.blk.cell 1
      simp at d1
      have hle' : (R : Int) ≤ 1114111 := by omega
      have HNL : Hid (byt s q = 10 → F = scan s q false (lineTo s p q ln cl).1 (lineTo s p q ln cl).2 l) := hnl
      have HRB : Hid (byt s q ≠ 10 → wrongB s q = true → F = .bad 3 q) := hrb
      have HRM : Hid (byt s q ≠ 10 → wrongB s q = false → F = scan s (q + K) true (lineOn R (lineTo s p q ln cl).1) (colOn R (lineTo s p q ln cl).2) l) := hrm
      have HTR : Hid (lineTo s p (q + K) ln cl = (lineOn R (lineTo s p q ln cl).1, colOn R (lineTo s p q ln cl).2)) := htr
      have HA2 : Hid (Al s p (q + K)) := hA2
      have HB10 : Hid (byt s q = 10 ↔ R = 10) := hb10
      have HADD : Hid (p + (j + K) = q + K) := hadd
      have hqs : q ≤ s.size := by omega
      clear hR hK hdec hlo hwt hr hi HSC hnl hrb hrm htr hA2 hb10 has hadd hjz hq
      by_cases h10 : R = 10
      · subst h10
        have hb := HB10.out.2 rfl
        have hpq2 : p < q := by
          rcases Nat.lt_or_ge p q with h9 | h9
          · exact h9
          · have h8 : p = q := by omega
            have h7 := H47.out
            rw [h8] at h7
            omega
        have HN : Hid _ := (HNL.out hb).symm
        have HLB : Hid _ := hlb
        clear hb hlb
        go_wp2_with (go_at_call 41; go_must (refine (implPass hs (by omega) hln hcl HAJ ht).mono ?_; rintro x w5 ⟨rfl, h5⟩))
        go_ret2
        have hlb := HLB.out
        exact .inr ⟨q, _, _, rfl, h5, hpq2, hqs, by omega, by omega, HN⟩
      · have q10 : ((R : Int) == 10) = false := by rw [beq_eq_false_iff_ne]; omega
        have hb : byt s q ≠ 10 := fun h9 => h10 (HB10.out.1 h9)
        haveI ne : Nonempty (GoodW (ImIt B g s p ln cl l v w0 w.heap.size X (j + K))) := ⟨⟨wt, ht, hiT⟩⟩
        have k0 : ∀ n : GoodW (ImIt B g s p ln cl l v w0 w.heap.size X (j + K)), n.W.cell? ⟨g, 0, none⟩ = some (.string s) := fun n => by simpa using n.ok.im.blk.cell 0
        have k1 : ∀ n : GoodW (ImIt B g s p ln cl l v w0 w.heap.size X (j + K)), n.W.cell? ⟨g, 1, none⟩ = some (.int .i64 (p : Int)) := fun n => by simpa using n.ok.im.blk.cell 1
        have HT2 : Hid (ImIt B g s p ln cl l v w0 w.heap.size X (j + K) wt) := ⟨ht, hiT⟩
        cases hW : wrongB s q
        · have HN : Hid _ := (HRM.out hb hW).symm
          rw [hW] at cw
          clear hW hb hlb
          go_wp2_with fail
          refine wp_region_calm (ImIt B g s p ln cl l v w0 w.heap.size X (j + K)) (by kernel_rfl) (by kernel_rfl) ⟨HT2.out.im.drew, HT2.out.it⟩ ?_
          repeat (go_big_quiet_step ((go_at_call 20; exact Calls.calm _ (fun w2 hb => ImIt.bel (GoodW.ok _) hb) (cw _ (HT.out _ (Im.below (ImIt.im (GoodW.ok _))))))))
          refine wpQuiet_nil ?_
          rintro _ ⟨⟨w1, h1⟩, rfl⟩
          go_wp2_with fail
          go_roundw
          case rel => exact ⟨j + K, h1.it, h1.im, hjK, by rw [HADD.out]; exact HA2, by rw [HADD.out, HTR.out]; exact HN⟩
          case measure => rw [hip, iterPos_of h1.it]; omega
        · have HN : Hid _ := HRB.out hb hW
          rw [hW] at cw
          clear hW hb hlb
          go_wp2_with fail
          refine wp_region_calm (ImIt B g s p ln cl l v w0 w.heap.size X (j + K)) (by kernel_rfl) (by kernel_rfl) ⟨HT2.out.im.drew, HT2.out.it⟩ ?_
          repeat (go_big_quiet_step ((go_at_call 20; exact Calls.calm _ (fun w2 hb => ImIt.bel (GoodW.ok _) hb) (cw _ (HT.out _ (Im.below (ImIt.im (GoodW.ok _))))))))
          refine wpQuiet_nil ?_
          rintro _ ⟨⟨w1, h1⟩, rfl⟩
          have e1 := h1.im.blk.cell 1
          simp at e1
          go_wp2_with fail
          go_quiet (fail)
          go_wp2_with fail
          go_ret2
          exact .inl ⟨q, HN, rfl, (h1.im.drewN _).below⟩
    · have hnx : ∀ ty, (Instr.next (.pointer (some ⟨w.heap.size, 0, none⟩)) true ty).run Tryd.prog wr = _ := fun ty => Lib.run_next_end_at wr w.heap.size X j ty hi hj
      have hqe : p + j = s.size := by omega
      rw [hqe] at HAJ HSC hlb
      have d0 := hr.blk.cell 0
      simp at d0
      have hscf := HSC.out
      rw [scan_out (by omega)] at hscf
      have HN : Hid (scan s s.size false (lineTo s p s.size ln cl).1 (lineTo s p s.size ln cl).2 l = F) := by show _ = _; rw [scan_out (by omega)]; exact hscf
      have HLB : Hid _ := hlb
      have HR : Hid (Im B g s p ln cl l v w0 wr) := hr
      clear hi hr hlb HSC hscf hqe hjz
      go_wp2_with (go_at_call 41; go_must (refine (implPass hs (by omega) hln hcl HAJ HR).mono ?_; rintro x w5 ⟨rfl, h5⟩))
      go_ret2
      have hlb := HLB.out
      exact .inr ⟨s.size, _, _, rfl, h5, hp, Nat.le_refl _, by omega, by omega, HN⟩
end Go.Proofs.YtbfoijeboaebdaaDoor
