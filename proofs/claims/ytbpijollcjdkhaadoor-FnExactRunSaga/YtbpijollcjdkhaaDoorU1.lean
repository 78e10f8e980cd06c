/-
  The law on RunSaga: its walk, over what both RunSaga answer. No statement of the seat is proved here.
-/
import Derived.Test.YtbpijollcjdkhaaDoorU0
namespace Go.Proofs.YtbpijollcjdkhaaDoor
open Go.ChangeShapes Go.WideShapes Go.ChangeAt Go.RowKit
set_option linter.unusedVariables false
set_option linter.unusedSimpArgs false

/-- A box that holds an answer. -/
def BoxLog (w : World) (b : Nat) (x : Log) (ra ca na : Option Addr) (rc cc nc : Nat) : Prop := Blk w b 30 #[.int .i64 x.code, .int .i64 x.st, .slice ra x.reps.length rc, .slice ca x.cmds.length cc, .slice na x.done.length nc]
theorem BoxLog.below {B b : Nat} {w w' : World} {x : Log} {ra ca na : Option Addr} {rc cc nc : Nat} (h : BoxLog w b x ra ca na rc cc nc) (hb : Below B w w') (hB : b < B) : BoxLog w' b x ra ca na rc cc nc := (hb.block b hB).trans h
theorem BoxLog.lt {b : Nat} {w : World} {x : Log} {ra ca na : Option Addr} {rc cc nc : Nat} (h : BoxLog w b x ra ca na rc cc nc) : b < w.heap.size := Blk.lt h
theorem BoxLog.cells {b : Nat} {w : World} {x : Log} {ra ca na : Option Addr} {rc cc nc : Nat} (h : BoxLog w b x ra ca na rc cc nc) : w.cell? ⟨b, 0, none⟩ = some (.int .i64 x.code) ∧ w.cell? ⟨b, 1, none⟩ = some (.int .i64 x.st) ∧ w.cell? ⟨b, 2, none⟩ = some (.slice ra x.reps.length rc) ∧ w.cell? ⟨b, 3, none⟩ = some (.slice ca x.cmds.length cc) ∧ w.cell? ⟨b, 4, none⟩ = some (.slice na x.done.length nc) :=
  ⟨Blk.cell h 0, Blk.cell h 1, Blk.cell h 2, Blk.cell h 3, Blk.cell h 4⟩
set_option maxRecDepth 100000 in
set_option maxHeartbeats 16000000 in
theorem runSagaWalk {T : World → Prop} {C : List Step → List Msg → Log} (hSp : RunSagaC 6 T C) (hIm : RunSagaC 9 T C) (hlim : ∀ l0 l1, LogLim (C l0 l1)) (w : World) (v0 v1 : Value) (l0 : List Step) (l1 : List Msg)
    (h0 : StepsAt (fun b => b < w.heap.size) w v0 l0) (hf0 : ∀ y ∈ l0, StepsFit y) (h1 : MsgsAt (fun b => b < w.heap.size) w v1 l1) (hf1 : ∀ y ∈ l1, MsgsFit y) (hT : ∀ W, Below w.heap.size w W → T W) :
    Calls Tryd.prog 3 #[v0, v1] w fun e w' => e = .returned (.bool true) ∧ Below w.heap.size w w' := by
  obtain ⟨a0, cap0, hv0⟩ := h0.shape
  subst hv0
  obtain ⟨a1, cap1, hv1⟩ := h1.shape
  subst hv1
  have hP := hlim l0 l1
  obtain ⟨X, hX⟩ : ∃ X, C l0 l1 = X := ⟨_, rfl⟩
  have cz0 := UStepsSz (fun b hb => hb) h0 hf0 1048576 (by omega) (by omega)
  have cz1 := fun (W : World) (hW : Below w.heap.size w W) (left : Int) (q0 : 0 ≤ left) (q1 : left ≤ 1048576) => UMsgsSz (w := W) (fun b hb => Nat.lt_of_lt_of_le hb hW.size) (h1.keep (cells_below (fun b hb => hb) hW)) hf1 left q0 q1
  have ct0 := fun (hl : UStepsLim 1048576 l0) (W : World) (hW : Below w.heap.size w W) => UStepsTo (w := W) (fun b hb => Nat.lt_of_lt_of_le hb hW.size) (h0.keep (cells_below (fun b hb => hb) hW)) hl
  have ct1 := fun (hl : UMsgsLim 1048576 l1) (W : World) (hW : Below w.heap.size w W) => UMsgsTo (w := W) (fun b hb => Nat.lt_of_lt_of_le hb hW.size) (h1.keep (cells_below (fun b hb => hb) hW)) hl
  have run : ∀ {f : Nat}, RunSagaC f T C → UStepsLim 1048576 l0 → UMsgsLim 1048576 l1 → ∀ {L U L' U' : Nat} {y0 y1 : Value} {W : World}, Below w.heap.size w W → CpSteps L U W y0 l0 → U ≤ W.heap.size → CpMsgs L' U' W y1 l1 → U' ≤ W.heap.size → Calls Tryd.prog f #[y0, y1] W fun e w' => (∃ v, e = .returned v ∧ OwnLog W.heap.size w' v X) ∧ Below W.heap.size W w' := fun {f} hf hs hm {L U L' U' y0 y1 W} hW k0 u0 k1 u1 => by
    rw [← hX]
    exact hf (fun b => b < W.heap.size) l0 l1 y0 y1 W (fun b hb => hb) (k0.at.mono (fun b hb => Nat.lt_of_lt_of_le hb.2 u0)) hs.len hs.2 k0.full (k1.at.mono (fun b hb => Nat.lt_of_lt_of_le hb.2 u1)) hm.len (fun W' hW' => hT W' (good_below hW hW'))
  have RUN : Hid (∀ {f : Nat}, RunSagaC f T C → UStepsLim 1048576 l0 → UMsgsLim 1048576 l1 → ∀ {L U L' U' : Nat} {y0 y1 : Value} {W : World}, Below w.heap.size w W → CpSteps L U W y0 l0 → U ≤ W.heap.size → CpMsgs L' U' W y1 l1 → U' ≤ W.heap.size → Calls Tryd.prog f #[y0, y1] W fun e w' => (∃ v, e = .returned v ∧ OwnLog W.heap.size w' v X) ∧ Below W.heap.size W w') := run
  rw [hX] at hP
  have HP : Hid (LogLim X) := hP
  have HSP : Hid (RunSagaC 6 T C) := hSp
  have HIM : Hid (RunSagaC 9 T C) := hIm
  have CT0 : Hid (∀ (hl : UStepsLim 1048576 l0) (W : World) (hW : Below w.heap.size w W), Calls Tryd.prog 7 #[.slice a0 l0.length cap0] W fun e w' => (∃ v', e = .returned v' ∧ CpSteps W.heap.size w'.heap.size w' v' l0) ∧ Below W.heap.size W w') := ct0
  have CT1 : Hid (∀ (hl : UMsgsLim 1048576 l1) (W : World) (hW : Below w.heap.size w W), Calls Tryd.prog 8 #[.slice a1 l1.length cap1] W fun e w' => (∃ v', e = .returned v' ∧ CpMsgs W.heap.size w'.heap.size w' v' l1) ∧ Below W.heap.size W w') := ct1
  clear hSp hIm hlim hP hX h0 h1 hf0 hf1 hT ct0 ct1 run
  go_enter Tryd.func3, Tryd.ntmps3
  go_upto_region 3 with (go_at_call 4; go_must (refine cz0.mono ?_; rintro e w1 ⟨⟨r0, rfl, hr0⟩, b1⟩))
  clear cz0
  rcases hr0 with rfl | ⟨ha0, hc0, hm0⟩
  case inl =>
    go_wp2_with fail
    go_ret
    exact ⟨rfl, b1⟩
  have hrn0 : ¬ (r0 < 0) := by omega
  have HL0 : Hid (UStepsLim 1048576 l0) := hm0.mono (by omega)
  have cz1' := cz1 w1 b1 r0 ha0 (by omega)
  clear cz1 hm0
  go_upto_region 6 with (go_at_call 5; go_must (refine cz1'.mono ?_; rintro e w2 ⟨⟨r1, rfl, hr1⟩, b2⟩))
  clear cz1'
  rcases hr1 with rfl | ⟨ha1, hc1, hm1⟩
  case inl =>
    go_wp2_with fail
    go_ret
    exact ⟨rfl, good_below b1 b2⟩
  have hrn1 : ¬ (r1 < 0) := by omega
  have HL1 : Hid (UMsgsLim 1048576 l1) := hm1.mono (by omega)
  have g2 := good_below b1 b2
  clear hm1 b1 b2
  have c3 := CT0.out HL0.out w2 g2
  -- the document's answer
  go_upto_region 9 with (first
    | (go_at_call 6; have hchk := g4; refine (RUN.out HSP.out HL0.out HL1.out g4 k0 u0 k1 (Nat.le_refl _)).mono ?_; rintro e w5 ⟨⟨q, rfl, ow⟩, b5⟩; obtain ⟨ra, rc, ca, cc, na, nc, e9, -⟩ := ow.shape; subst e9)
    | (go_at_call 8; have hchk := g3; refine (CT1.out HL1.out w3 g3).mono ?_; rintro e w4 ⟨⟨y1, rfl, k1⟩, b4⟩; have g4 := good_below g3 b4; have k0 := CpSteps.below k00 b4 (Nat.le_refl _); have u0 := b4.size)
    | (go_at_call 7; go_must (refine c3.mono ?_; rintro e w3 ⟨⟨y0, rfl, k00⟩, b3⟩; have g3 := good_below g2 b3)))
  have g5 := good_below g4 b5
  have w6e : ∃ w6, w5.alloc (.cells #[.int .i64 X.code, .int .i64 X.st, .slice ra X.reps.length rc, .slice ca X.cmds.length cc, .slice na X.done.length nc] 30) = w6 := ⟨_, rfl⟩
  obtain ⟨w6, hw6⟩ := w6e
  have b6 : Below w5.heap.size w5 w6 := by rw [← hw6]; exact (Below.refl _ w5).alloc (Nat.le_refl _) _
  have bx6 : BoxLog w6 w5.heap.size X ra ca na rc cc nc := by rw [← hw6]; exact heap_alloc_last w5 _
  have ow6 := OwnLog.below ow b6
  have g6 := good_below g5 b6
  rw [hw6]
  obtain ⟨p6, hp6⟩ : ∃ p6, w5.heap.size = p6 := ⟨_, rfl⟩
  rw [hp6] at bx6
  (try rw [hp6])
  clear c3 k00 b3 g3 k0 u0 k1 b4 g4 b5 ow g5 b6 hw6 g2
  have hlw : ∀ b, LogBlk (.agg #[.int .i64 X.code, .int .i64 X.st, .slice ra X.reps.length rc, .slice ca X.cmds.length cc, .slice na X.done.length nc]) b → b < w6.heap.size := fun b hb => (OwnLog.blks ow6 hb).2
  have HLW : Hid _ := hlw
  have hp6l := bx6.lt
  clear hlw hp6
  have c7 := CT0.out HL0.out w6 g6
  go_upto_region 10 with (go_at_call 7; go_must (refine c7.mono ?_; rintro e w7 ⟨⟨x0, rfl, kx⟩, b7⟩))
  have g7 := good_below g6 b7
  have c8 := CT1.out HL1.out w7 g7
  clear c7
  go_upto_region 11 with (go_at_call 8; go_must (refine c8.mono ?_; rintro e w8 ⟨⟨x1, rfl, ky⟩, b8⟩))
  have g8 := good_below g7 b8
  have kx8 := CpSteps.below kx b8 (Nat.le_refl _)
  have c9 := RUN.out HIM.out HL0.out HL1.out g8 kx8 b8.size ky (Nat.le_refl _)
  clear c8
  go_upto_region 12 with (go_at_call 9; go_must (refine c9.mono ?_; rintro e w9 ⟨⟨qg, rfl, og⟩, b9⟩; obtain ⟨rb, rd, cb, cd, nb, nd, e9, -⟩ := og.shape; subst e9))
  have g9 := good_below g8 b9
  obtain ⟨wA, hwA⟩ : ∃ wA, w9.alloc (.cells #[.int .i64 X.code, .int .i64 X.st, .slice rb X.reps.length rd, .slice cb X.cmds.length cd, .slice nb X.done.length nd] 30) = wA := ⟨_, rfl⟩
  have bA : Below w9.heap.size w9 wA := by rw [← hwA]; exact (Below.refl _ w9).alloc (Nat.le_refl _) _
  have bx9 : BoxLog wA w9.heap.size X rb cb nb rd cd nd := by rw [← hwA]; exact heap_alloc_last w9 _
  rw [hwA]
  have gA := good_below g9 bA
  have ogA := OwnLog.below og bA
  have b6A : Below w6.heap.size w6 wA := good_below (good_below (good_below b7 b8) b9) bA
  have owA := OwnLog.below ow6 b6A
  have bx6A := BoxLog.below bx6 b6A hp6l
  have kxA := CpSteps.below kx8 (good_below b9 bA) b8.size
  have kyA := CpMsgs.below ky (good_below b9 bA) (Nat.le_refl _)
  obtain ⟨p9, hp9⟩ : ∃ p9, w9.heap.size = p9 := ⟨_, rfl⟩
  rw [hp9] at bx9
  (try rw [hp9])
  have hs67 := b7.size
  have hs78 := b8.size
  have hs89 : w8.heap.size ≤ p9 := by rw [← hp9]; exact b9.size
  have hs0 := g6.size
  have u7A : w7.heap.size ≤ wA.heap.size := by have := bA.size; have := b9.size; omega
  have u8A : w8.heap.size ≤ wA.heap.size := by have := bA.size; have := b9.size; omega
  have ceq := eqLog ogA owA
  obtain ⟨i0, i1, i2, i3, i4⟩ := bx9.cells
  obtain ⟨j0, j1, j2, j3, j4⟩ := bx6A.cells
  clear c9 og ow6 bx6 hwA kx8 kx ky b7 b8 b9 bA g7 g8 g9 b6A hp9
  go_upto_region 14 with (go_at_call 10; go_must (refine ceq.mono ?_; rintro e wB ⟨rfl, bB⟩))
  have gB := good_below gA bB
  have cB := CT0.out HL0.out wB gB
  clear ceq i0 i1 i2 i3 i4 j0 j1 j2 j3 j4
  go_upto_region 16 with (first
    | (go_at_call 11; have hchk := bC; refine (eqSagaStepS (w := wC) (fun b hb => Nat.lt_of_lt_of_le hb.2 (Nat.le_trans u7A (Nat.le_trans bB.size bC.size))) (fun b hb => hb.2) (CpSteps.at (CpSteps.below kxA (good_below bB bC) u7A)) (CpSteps.at kC)).mono ?_; rintro e wD ⟨rfl, bD⟩)
    | (go_at_call 7; go_must (refine cB.mono ?_; rintro e wC ⟨⟨y2, rfl, kC⟩, bC⟩)))
  have b1D := good_below (good_below bB bC) bD
  have gD := good_below gA b1D
  have cD := CT1.out HL1.out wD gD
  clear cB kC
  go_upto_region 19 with (first
    | (go_at_call 12; have hchk := bE; refine (eqSagaMsgS (w := wE) (fun b hb => Nat.lt_of_lt_of_le hb.2 (Nat.le_trans u8A (Nat.le_trans b1D.size bE.size))) (fun b hb => hb.2) (CpMsgs.at (CpMsgs.below kyA (good_below b1D bE) u8A)) (CpMsgs.at kE)).mono ?_; rintro e wF ⟨rfl, bF⟩)
    | (go_at_call 8; go_must (refine cD.mono ?_; rintro e wE ⟨⟨y3, rfl, kE⟩, bE⟩)))
  have b1F := good_below (good_below b1D bE) bF
  have gF := good_below gA b1F
  clear cD kE
  have kxF := CpSteps.below kxA b1F u7A
  have kyF := CpMsgs.below kyA b1F u8A
  have ogF := OwnLog.below ogA b1F
  have owF := OwnLog.below owA b1F
  have bx6F := BoxLog.below bx6A b1F bx6A.lt
  have bx9F := BoxLog.below bx9 b1F bx9.lt
  have u7F : w7.heap.size ≤ wF.heap.size := Nat.le_trans u7A b1F.size
  have u8F : w8.heap.size ≤ wF.heap.size := Nat.le_trans u8A b1F.size
  have cm0 := UStepsMark 1 (by omega) (by omega) HL0.out u7F kxF
  clear kxA kyA ogA owA bx6A bx9 b1D gD bB bC bD bE bF gB gA b1F u7A u8A
  go_upto_region 20 with (go_at_call 13; go_must (refine cm0.mono ?_; rintro e wG ⟨⟨t0, rfl, hq0, hq1⟩, oG⟩))
  have gG : Below w.heap.size w wG := gF.trans (OutS.below oG (fun b hb => Nat.le_trans hs0 hb.1) gF.size)
  have kyG := CpMsgs.outS kyF oG (fun b hb => .inl hb.2) u8F
  have ogG := OwnLog.outA ogF oG (fun b hb hb' => by have := (OwnLog.blks ogF hb).1; omega)
  have owG := OwnLog.outA owF oG (fun b hb hb' => by have := HLW.out b hb; omega)
  have bx6G : BoxLog wG p6 X ra ca na rc cc nc := (oG.block p6 bx6F.lt (fun hb => by omega)).trans bx6F
  have bx9G : BoxLog wG p9 X rb cb nb rd cd nd := (oG.block p9 bx9F.lt (fun hb => by omega)).trans bx9F
  have u8G : w8.heap.size ≤ wG.heap.size := Nat.le_trans u8F oG.size
  have cm1 := UMsgsMark t0 hq0 (by omega) HL1.out u8G kyG
  clear cm0 kxF kyF ogF owF bx6F bx9F gF oG
  go_upto_region 21 with (go_at_call 14; go_must (refine cm1.mono ?_; rintro e wH ⟨⟨t1, rfl, hq2, hq3⟩, oH⟩))
  have gH : Below w.heap.size w wH := gG.trans (OutS.below oH (fun b hb => Nat.le_trans (Nat.le_trans hs0 hs67) hb.1) gG.size)
  have ogH := OwnLog.outA ogG oH (fun b hb hb' => by have := (OwnLog.blks ogG hb).1; omega)
  have owH := OwnLog.outA owG oH (fun b hb hb' => by have := HLW.out b hb; omega)
  have bx6H : BoxLog wH p6 X ra ca na rc cc nc := (oH.block p6 bx6G.lt (fun hb => by omega)).trans bx6G
  have bx9H : BoxLog wH p9 X rb cb nb rd cd nd := (oH.block p9 bx9G.lt (fun hb => by omega)).trans bx9G
  have hq2' : ¬ ((t1 : Int) < 0) := by omega
  have ce2 := eqLog ogH owH
  obtain ⟨i0, i1, i2, i3, i4⟩ := bx9H.cells
  obtain ⟨j0, j1, j2, j3, j4⟩ := bx6H.cells
  clear cm1 kyG ogG owG bx6G bx9G gG oH
  go_upto_region 24 with (go_at_call 10; go_must (refine ce2.mono ?_; rintro e wI ⟨rfl, bI⟩))
  have gI := good_below gH bI
  have ogI := OwnLog.below ogH bI
  have owI := OwnLog.below owH bI
  have bx6I := BoxLog.below bx6H bI bx6H.lt
  have bx9I := BoxLog.below bx9H bI bx9H.lt
  have cmk := markLog HP.out ogI
  clear ce2 i0 i1 i2 i3 i4 j0 j1 j2 j3 j4 ogH owH bx6H bx9H bI gH
  obtain ⟨i0, i1, i2, i3, i4⟩ := bx9I.cells
  go_upto_region 26 with (go_at_call 15; go_must (refine cmk.mono ?_; rintro e wJ ⟨⟨TT, rfl, hTT, mg⟩, oJ⟩))
  have gJ : Below w.heap.size w wJ := gI.trans (OutS.below oJ (fun b hb => by have := (OwnLog.blks ogI hb).1; omega) gI.size)
  have owJ := OwnLog.outA owI oJ (fun b hb hb' => by have := HLW.out b hb; have := (OwnLog.blks ogI hb').1; omega)
  have bx6J : BoxLog wJ p6 X ra ca na rc cc nc := (oJ.block p6 bx6I.lt (OwnLog.notBox ogI bx6I)).trans bx6I
  have bx9J : BoxLog wJ p9 X rb cb nb rd cd nd := (oJ.block p9 bx9I.lt (OwnLog.notBox ogI bx9I)).trans bx9I
  have ch := heldLog mg
  have hnT : ¬ ((TT : Int) < 0) := by omega
  clear cmk i0 i1 i2 i3 i4 ogI owI bx6I bx9I oJ gI
  obtain ⟨i0, i1, i2, i3, i4⟩ := bx9J.cells
  go_upto_region 31 with (go_at_call 16; go_must (refine ch.mono ?_; rintro e wK ⟨rfl, bK⟩))
  have gK := good_below gJ bK
  have mgK := mg.below bK
  have owK := OwnLog.below owJ bK
  have bx6K := BoxLog.below bx6J bK bx6J.lt
  have bx9K := BoxLog.below bx9J bK bx9J.lt
  have cK := CT0.out HL0.out wK gK
  clear ch i0 i1 i2 i3 i4 mg owJ bx6J bx9J bK gJ
  go_upto_region 32 with (first
    | (go_at_call 9; have hchk := gM; refine (RUN.out HIM.out HL0.out HL1.out gM kL uL kM (Nat.le_refl _)).mono ?_; rintro e wN ⟨⟨qh, rfl, oh⟩, bN⟩; obtain ⟨rh, re, ch, ce, nh, ne, e9, -⟩ := oh.shape; subst e9)
    | (go_at_call 8; have hchk := gL; refine (CT1.out HL1.out wL gL).mono ?_; rintro e wM ⟨⟨y5, rfl, kM⟩, bM⟩; have gM := good_below gL bM; have kL := CpSteps.below kL0 bM (Nat.le_refl _); have uL := bM.size)
    | (go_at_call 7; go_must (refine cK.mono ?_; rintro e wL ⟨⟨y4, rfl, kL0⟩, bL⟩; have gL := good_below gK bL)))
  obtain ⟨wO, hwO⟩ : ∃ wO, wN.alloc (.cells #[.int .i64 X.code, .int .i64 X.st, .slice rh X.reps.length re, .slice ch X.cmds.length ce, .slice nh X.done.length ne] 30) = wO := ⟨_, rfl⟩
  have bO : Below wN.heap.size wN wO := by rw [← hwO]; exact (Below.refl _ wN).alloc (Nat.le_refl _) _
  have bxO : BoxLog wO wN.heap.size X rh ch nh re ce ne := by rw [← hwO]; exact heap_alloc_last wN _
  rw [hwO]
  have bKO := good_below (good_below (good_below bL bM) bN) bO
  have ohO := OwnLog.below oh bO
  have owO := OwnLog.below owK bKO
  have mgO := mgK.below bKO
  have bx6O := BoxLog.below bx6K bKO bx6K.lt
  have bx9O := BoxLog.below bx9K bKO bx9K.lt
  have gO := good_below gK bKO
  have ce3 := eqLog ohO owO
  obtain ⟨i0, i1, i2, i3, i4⟩ := bxO.cells
  obtain ⟨j0, j1, j2, j3, j4⟩ := bx6O.cells
  clear cK kL0 kL uL kM oh mgK owK bx6K bx9K bL bM bN bO gL gM gK hwO bKO
  go_upto_region 35 with (go_at_call 10; go_must (refine ce3.mono ?_; rintro e wP ⟨rfl, bP⟩))
  have gP := good_below gO bP
  have mgP := mgO.below bP
  have bx9P := BoxLog.below bx9O bP bx9O.lt
  have ch4 := heldLog mgP
  clear ce3 i0 i1 i2 i3 i4 j0 j1 j2 j3 j4 ohO owO bx6O bxO
  obtain ⟨i0, i1, i2, i3, i4⟩ := bx9P.cells
  go_wp2_with (go_at_call 16; go_must (refine ch4.mono ?_; rintro e wQ ⟨rfl, bQ⟩))
  go_ret
  exact ⟨rfl, good_below gP bQ⟩
end Go.Proofs.YtbpijollcjdkhaaDoor
