/-
  The law on SagaEnds: its walk, over what both SagaEnds answer. What a SagaEnds answers is not too long. A row of texts that came in. What came in is opened. No statement of the seat is proved here.
-/
import Derived.Test.YtdheogonghcokaaGreatDoorZj6
import Derived.Deep.Strs
namespace Go.Proofs.YtdheogonghcokaaGreatDoor
open Go.ChangeShapes Go.WideShapes Go.ChangeAt Go.RowKit
set_option linter.unusedVariables false
set_option linter.unusedSimpArgs false

theorem blkE {v : Value} {b : Nat} (h : BlkOf v b) : v.ownBlock = some b := by
  obtain ⟨n, c, rfl⟩ := h
  rfl
theorem OwnTxts.blks {B b : Nat} {w : World} {v : Value} {l : List ByteArray} (h : OwnTxts B w v l) (hb : BlkOf v b) : B ≤ b ∧ b < w.heap.size := World.ownsRow.lt h b (blkE hb)
set_option maxRecDepth 100000 in
set_option maxHeartbeats 16000000 in
theorem endsWalk {T : World → Prop} {C : List Step → List ByteArray → List ByteArray → Int × List ByteArray × Int} (hSp : EndsC 6 T C) (hIm : EndsC 9 T C) (hlim : ∀ l0 l1 l2, (C l0 l1 l2).2.1.length ≤ 1000000) (w : World) (v0 v1 v2 : Value) (l0 : List Step) (l1 l2 : List ByteArray)
    (h0 : StepsAt (fun b => b < w.heap.size) w v0 l0) (hf0 : ∀ y ∈ l0, StepsFit y) (h1 : TxtsAt (fun b => b < w.heap.size) w v1 l1) (hf1 : ∀ y ∈ l1, TxtsFit y) (h2 : TxtsAt (fun b => b < w.heap.size) w v2 l2) (hf2 : ∀ y ∈ l2, TxtsFit y) (hT : ∀ W, Below w.heap.size w W → T W) :
    Calls Tryz.prog 3 #[v0, v1, v2] w fun e w' => e = .returned (.bool true) ∧ Below w.heap.size w w' := by
  obtain ⟨a0, cap0, hv0⟩ := h0.shape
  subst hv0
  obtain ⟨a1, cap1, hv1⟩ := h1.shape
  subst hv1
  obtain ⟨a2, cap2, hv2⟩ := h2.shape
  subst hv2
  have hP := hlim l0 l1 l2
  obtain ⟨X0, X1, X2, hX⟩ : ∃ X0 X1 X2, C l0 l1 l2 = (X0, X1, X2) := ⟨_, _, _, rfl⟩
  have cz0 := UStepsSz (fun b hb => hb) h0 hf0 1048576 (by omega) (by omega)
  have cz1 := fun (W : World) (hW : Below w.heap.size w W) (left : Int) (q0 : 0 ≤ left) (q1 : left ≤ 1048576) => UTxtsSz (w := W) (fun b hb => Nat.lt_of_lt_of_le hb hW.size) (h1.keep (cells_below (fun b hb => hb) hW)) hf1 left q0 q1
  have cz2 := fun (W : World) (hW : Below w.heap.size w W) (left : Int) (q0 : 0 ≤ left) (q1 : left ≤ 1048576) => UTxtsSz (w := W) (fun b hb => Nat.lt_of_lt_of_le hb hW.size) (h2.keep (cells_below (fun b hb => hb) hW)) hf2 left q0 q1
  have ct0 := fun (hl : UStepsLim 1048576 l0) (W : World) (hW : Below w.heap.size w W) => UStepsTo (w := W) (fun b hb => Nat.lt_of_lt_of_le hb hW.size) (h0.keep (cells_below (fun b hb => hb) hW)) hl
  have ct1 := fun (hl : UTxtsLim 1048576 l1) (W : World) (hW : Below w.heap.size w W) => UTxtsTo (w := W) (fun b hb => Nat.lt_of_lt_of_le hb hW.size) (h1.keep (cells_below (fun b hb => hb) hW)) hl
  have ct2 := fun (hl : UTxtsLim 1048576 l2) (W : World) (hW : Below w.heap.size w W) => UTxtsTo (w := W) (fun b hb => Nat.lt_of_lt_of_le hb hW.size) (h2.keep (cells_below (fun b hb => hb) hW)) hl
  have run : ∀ {f : Nat}, EndsC f T C → UStepsLim 1048576 l0 → UTxtsLim 1048576 l1 → UTxtsLim 1048576 l2 → ∀ {L U L' U' L'' U'' : Nat} {y0 y1 y2 : Value} {W : World}, Below w.heap.size w W → CpSteps L U W y0 l0 → U ≤ W.heap.size → CpTxts L' U' W y1 l1 → U' ≤ W.heap.size → CpTxts L'' U'' W y2 l2 → U'' ≤ W.heap.size → Calls Tryz.prog f #[y0, y1, y2] W fun e w' => (∃ v, e = .returned (.tuple #[.int .i64 X0, v, .int .i64 X2]) ∧ OwnTxts W.heap.size w' v X1) ∧ Below W.heap.size W w' := fun {f} hf hs hm hn {L U L' U' L'' U'' y0 y1 y2 W} hW k0 u0 k1 u1 k2 u2 => by
    have := hf (fun b => b < W.heap.size) l0 l1 l2 y0 y1 y2 W (fun b hb => hb) (k0.at.mono (fun b hb => Nat.lt_of_lt_of_le hb.2 u0)) hs.len hs.2 k0.full (k1.at.mono (fun b hb => Nat.lt_of_lt_of_le hb.2 u1)) hm.len (k2.at.mono (fun b hb => Nat.lt_of_lt_of_le hb.2 u2)) hn.len (fun W' hW' => hT W' (good_below hW hW'))
    rw [hX] at this
    exact this
  have RUN : Hid (∀ {f : Nat}, EndsC f T C → UStepsLim 1048576 l0 → UTxtsLim 1048576 l1 → UTxtsLim 1048576 l2 → ∀ {L U L' U' L'' U'' : Nat} {y0 y1 y2 : Value} {W : World}, Below w.heap.size w W → CpSteps L U W y0 l0 → U ≤ W.heap.size → CpTxts L' U' W y1 l1 → U' ≤ W.heap.size → CpTxts L'' U'' W y2 l2 → U'' ≤ W.heap.size → Calls Tryz.prog f #[y0, y1, y2] W fun e w' => (∃ v, e = .returned (.tuple #[.int .i64 X0, v, .int .i64 X2]) ∧ OwnTxts W.heap.size w' v X1) ∧ Below W.heap.size W w') := run
  rw [hX] at hP
  have HP : Hid (X1.length ≤ 1000000) := hP
  have HSP : Hid (EndsC 6 T C) := hSp
  have HIM : Hid (EndsC 9 T C) := hIm
  have CT0 : Hid (∀ (hl : UStepsLim 1048576 l0) (W : World) (hW : Below w.heap.size w W), Calls Tryz.prog 7 #[.slice a0 l0.length cap0] W fun e w' => (∃ v', e = .returned v' ∧ CpSteps W.heap.size w'.heap.size w' v' l0) ∧ Below W.heap.size W w') := ct0
  have CT1 : Hid (∀ (hl : UTxtsLim 1048576 l1) (W : World) (hW : Below w.heap.size w W), Calls Tryz.prog 8 #[.slice a1 l1.length cap1] W fun e w' => (∃ v', e = .returned v' ∧ CpTxts W.heap.size w'.heap.size w' v' l1) ∧ Below W.heap.size W w') := ct1
  have CT2 : Hid (∀ (hl : UTxtsLim 1048576 l2) (W : World) (hW : Below w.heap.size w W), Calls Tryz.prog 8 #[.slice a2 l2.length cap2] W fun e w' => (∃ v', e = .returned v' ∧ CpTxts W.heap.size w'.heap.size w' v' l2) ∧ Below W.heap.size W w') := ct2
  clear hSp hIm hlim hP hX h0 h1 h2 hf0 hf1 hf2 hT ct0 ct1 ct2 run
  go_enter Tryz.func3, Tryz.ntmps3
  go_upto_region 3 with (go_at_call 4; go_must (refine cz0.mono ?_; rintro e w1 ⟨⟨r0, rfl, hr0⟩, b1⟩))
  clear cz0
  rcases hr0 with rfl | ⟨ha0, hc0, hm0⟩
  case inl =>
    go_wp2_with fail
    go_ret
    exact ⟨rfl, b1⟩
  have hrn0 : ¬ (r0 < 0) := by omega
  have HL0 : Hid (UStepsLim 1048576 l0) := hm0.mono (by omega)
  have cz1' := cz1 w1 b1 r0 ha0 (by omega)
  clear cz1 hm0
  go_upto_region 6 with (go_at_call 5; go_must (refine cz1'.mono ?_; rintro e w2 ⟨⟨r1, rfl, hr1⟩, b2⟩))
  clear cz1'
  rcases hr1 with rfl | ⟨ha1, hc1, hm1⟩
  case inl =>
    go_wp2_with fail
    go_ret
    exact ⟨rfl, good_below b1 b2⟩
  have hrn1 : ¬ (r1 < 0) := by omega
  have HL1 : Hid (UTxtsLim 1048576 l1) := hm1.mono (by omega)
  have g2 := good_below b1 b2
  have cz2' := cz2 w2 g2 r1 ha1 (by omega)
  clear cz2 hm1 b1 b2
  go_upto_region 9 with (go_at_call 5; go_must (refine cz2'.mono ?_; rintro e w3 ⟨⟨r2, rfl, hr2⟩, b3⟩))
  clear cz2'
  rcases hr2 with rfl | ⟨ha2, hc2, hm2⟩
  case inl =>
    go_wp2_with fail
    go_ret
    exact ⟨rfl, good_below g2 b3⟩
  have hrn2 : ¬ (r2 < 0) := by omega
  have HL2 : Hid (UTxtsLim 1048576 l2) := hm2.mono (by omega)
  have g3 := good_below g2 b3
  clear hm2 b3 g2
  have c3 := CT0.out HL0.out w3 g3
  -- the document's answer
  go_upto_region 12 with (first
    | (go_at_call 6; have hchk := k2; refine (RUN.out HSP.out HL0.out HL1.out HL2.out g6 k0' u0' k1' u1' k2 (Nat.le_refl _)).mono ?_; rintro e w7 ⟨⟨q, rfl, ow⟩, b7⟩; obtain ⟨na, nc, e9, -⟩ := ow.value; subst e9)
    | (go_at_call 8; have hchk := k1; refine (CT2.out HL2.out w5 g5).mono ?_; rintro e w6 ⟨⟨y2, rfl, k2⟩, b6⟩; have g6 := good_below g5 b6; have k0' := CpSteps.below k0 b6 u0; have u0' := Nat.le_trans u0 b6.size; have k1' := CpTxts.below k1 b6 (Nat.le_refl _); have u1' := b6.size)
    | (go_at_call 8; have hchk := g4; refine (CT1.out HL1.out w4 g4).mono ?_; rintro e w5 ⟨⟨y1, rfl, k1⟩, b5⟩; have g5 := good_below g4 b5; have k0 := CpSteps.below k00 b5 (Nat.le_refl _); have u0 := b5.size)
    | (go_at_call 7; go_must (refine c3.mono ?_; rintro e w4 ⟨⟨y0, rfl, k00⟩, b4⟩; have g4 := good_below g3 b4)))
  have g7 := good_below g6 b7
  have hlw : ∀ b, BlkOf (.slice na X1.length nc) b → b < w7.heap.size := fun b hb => (OwnTxts.blks ow hb).2
  have HLW : Hid _ := hlw
  clear hlw c3 k00 k0 k0' u0 u0' k1 k1' u1' k2 b4 b5 b6 b7 g3 g4 g5 g6
  have c8 := CT0.out HL0.out w7 g7
  go_upto_region 13 with (go_at_call 7; go_must (refine c8.mono ?_; rintro e w8 ⟨⟨x0, rfl, kx⟩, b8⟩))
  have g8 := good_below g7 b8
  have c9 := CT1.out HL1.out w8 g8
  clear c8
  go_upto_region 14 with (go_at_call 8; go_must (refine c9.mono ?_; rintro e w9 ⟨⟨x1, rfl, ky⟩, b9⟩))
  have g9 := good_below g8 b9
  have c10 := CT2.out HL2.out w9 g9
  clear c9
  go_upto_region 15 with (go_at_call 8; go_must (refine c10.mono ?_; rintro e w10 ⟨⟨x2, rfl, kz⟩, b10⟩))
  have g10 := good_below g9 b10
  have kx8 := CpSteps.below kx (good_below b9 b10) (Nat.le_refl _)
  have ky8 := CpTxts.below ky b10 (Nat.le_refl _)
  have c11 := RUN.out HIM.out HL0.out HL1.out HL2.out g10 kx8 (Nat.le_trans b9.size b10.size) ky8 b10.size kz (Nat.le_refl _)
  clear c10
  go_upto_region 16 with (go_at_call 9; go_must (refine c11.mono ?_; rintro e wA ⟨⟨qg, rfl, og⟩, bA⟩; obtain ⟨nb, nd, e9, -⟩ := og.value; subst e9))
  have gA := good_below g10 bA
  have b7A : Below w7.heap.size w7 wA := good_below (good_below (good_below b8 b9) b10) bA
  have owA := OwnTxts.below ow b7A
  have kxA := CpSteps.below kx8 bA (Nat.le_trans b9.size b10.size)
  have kyA := CpTxts.below ky8 bA b10.size
  have kzA := CpTxts.below kz bA (Nat.le_refl _)
  have hs0 := g7.size
  have hs78 := b8.size
  have hs89 := b9.size
  have hs910 := b10.size
  have hs10A := bA.size
  have u8A : w8.heap.size ≤ wA.heap.size := by omega
  have u9A : w9.heap.size ≤ wA.heap.size := by omega
  have u10A : w10.heap.size ≤ wA.heap.size := by omega
  have ceq := eqStringS (w := wA) (fun b hb => hb.2) (fun b hb => hb.2) (OwnTxts.at og) (OwnTxts.at owA)
  clear c11 ow kx8 kx ky8 ky kz b8 b9 b10 bA g8 g9 g10 b7A
  go_upto_region 18 with (go_at_call 10; go_must (refine ceq.mono ?_; rintro e wB ⟨rfl, bB⟩))
  have gB := good_below gA bB
  have cB := CT0.out HL0.out wB gB
  clear ceq
  go_upto_region 20 with (first
    | (go_at_call 11; have hchk := bC; refine (eqSagaStepS (w := wC) (fun b hb => Nat.lt_of_lt_of_le hb.2 (Nat.le_trans u8A (Nat.le_trans bB.size bC.size))) (fun b hb => hb.2) (CpSteps.at (CpSteps.below kxA (good_below bB bC) u8A)) (CpSteps.at kC)).mono ?_; rintro e wD ⟨rfl, bD⟩)
    | (go_at_call 7; go_must (refine cB.mono ?_; rintro e wC ⟨⟨y3, rfl, kC⟩, bC⟩)))
  have bAD := good_below (good_below bB bC) bD
  have gD := good_below gA bAD
  have cD := CT1.out HL1.out wD gD
  clear cB kC bB bC bD gB
  go_upto_region 22 with (first
    | (go_at_call 10; have hchk := bE; refine (eqStringS (w := wE) (fun b hb => Nat.lt_of_lt_of_le hb.2 (Nat.le_trans u9A (Nat.le_trans bAD.size bE.size))) (fun b hb => hb.2) (CpTxts.at (CpTxts.below kyA (good_below bAD bE) u9A)) (CpTxts.at kE)).mono ?_; rintro e wF ⟨rfl, bF⟩)
    | (go_at_call 8; go_must (refine cD.mono ?_; rintro e wE ⟨⟨y4, rfl, kE⟩, bE⟩)))
  have bAF := good_below (good_below bAD bE) bF
  have gF := good_below gA bAF
  have cF := CT2.out HL2.out wF gF
  clear cD kE bE bF bAD gD
  go_upto_region 24 with (first
    | (go_at_call 10; have hchk := bG; refine (eqStringS (w := wG) (fun b hb => Nat.lt_of_lt_of_le hb.2 (Nat.le_trans u10A (Nat.le_trans bAF.size bG.size))) (fun b hb => hb.2) (CpTxts.at (CpTxts.below kzA (good_below bAF bG) u10A)) (CpTxts.at kG)).mono ?_; rintro e wH ⟨rfl, bH⟩)
    | (go_at_call 8; go_must (refine cF.mono ?_; rintro e wG ⟨⟨y5, rfl, kG⟩, bG⟩)))
  have bAH := good_below (good_below bAF bG) bH
  have gH := good_below gA bAH
  clear cF kG bG bH bAF gF
  have kxH := CpSteps.below kxA bAH u8A
  have kyH := CpTxts.below kyA bAH u9A
  have kzH := CpTxts.below kzA bAH u10A
  have ogH := OwnTxts.below og bAH
  have owH := OwnTxts.below owA bAH
  have u8H : w8.heap.size ≤ wH.heap.size := Nat.le_trans u8A bAH.size
  have u9H : w9.heap.size ≤ wH.heap.size := Nat.le_trans u9A bAH.size
  have u10H : w10.heap.size ≤ wH.heap.size := Nat.le_trans u10A bAH.size
  have cm0 := UStepsMark 1 (by omega) (by omega) HL0.out u8H kxH
  clear kxA kyA kzA og owA bAH gA u8A u9A u10A
  go_upto_region 26 with (go_at_call 12; go_must (refine cm0.mono ?_; rintro e wI ⟨⟨t0, rfl, hq0, hq1⟩, oI⟩))
  have gI : Below w.heap.size w wI := gH.trans (OutS.below oI (fun b hb => Nat.le_trans hs0 hb.1) gH.size)
  have kyI := CpTxts.outS kyH oI (fun b hb => .inl hb.2) u9H
  have kzI := CpTxts.outS kzH oI (fun b hb => .inl (by have := hb.2; omega)) u10H
  have ogI := OwnTxts.outA ogH oI (fun b hb hb' => by have := (OwnTxts.blks ogH hb).1; omega)
  have owI := OwnTxts.outA owH oI (fun b hb hb' => by have := HLW.out b hb; omega)
  have u9I : w9.heap.size ≤ wI.heap.size := Nat.le_trans u9H oI.size
  have u10I : w10.heap.size ≤ wI.heap.size := Nat.le_trans u10H oI.size
  have cm1 := UTxtsMark t0 hq0 (by omega) HL1.out u9I kyI
  clear cm0 kxH kyH kzH ogH owH gH oI u8H u9H u10H
  go_upto_region 27 with (go_at_call 13; go_must (refine cm1.mono ?_; rintro e wJ ⟨⟨t1, rfl, hq2, hq3⟩, oJ⟩))
  have gJ : Below w.heap.size w wJ := gI.trans (OutS.below oJ (fun b hb => Nat.le_trans (Nat.le_trans hs0 hs78) hb.1) gI.size)
  have kzJ := CpTxts.outS kzI oJ (fun b hb => .inl hb.2) u10I
  have ogJ := OwnTxts.outA ogI oJ (fun b hb hb' => by have := (OwnTxts.blks ogI hb).1; omega)
  have owJ := OwnTxts.outA owI oJ (fun b hb hb' => by have := HLW.out b hb; omega)
  have u10J : w10.heap.size ≤ wJ.heap.size := Nat.le_trans u10I oJ.size
  have cm2 := UTxtsMark t1 hq2 (by omega) HL2.out u10J kzJ
  clear cm1 kyI kzI ogI owI gI oJ u9I u10I
  go_upto_region 28 with (go_at_call 13; go_must (refine cm2.mono ?_; rintro e wK ⟨⟨t2, rfl, hq4, hq5⟩, oK⟩))
  have gK : Below w.heap.size w wK := gJ.trans (OutS.below oK (fun b hb => Nat.le_trans (Nat.le_trans (Nat.le_trans hs0 hs78) hs89) hb.1) gJ.size)
  have ogK := OwnTxts.outA ogJ oK (fun b hb hb' => by have := (OwnTxts.blks ogJ hb).1; omega)
  have owK := OwnTxts.outA owJ oK (fun b hb hb' => by have := HLW.out b hb; omega)
  have hq4' : ¬ ((t2 : Int) < 0) := by omega
  have ce2 := eqStringS (w := wK) (fun b hb => hb.2) (fun b hb => hb.2) (OwnTxts.at ogK) (OwnTxts.at owK)
  clear cm2 kzJ ogJ owJ gJ oK u10J
  go_upto_region 30 with (go_at_call 10; go_must (refine ce2.mono ?_; rintro e wL ⟨rfl, bL⟩))
  have gL := good_below gK bL
  have ogL := OwnTxts.below ogK bL
  have owL := OwnTxts.below owK bL
  have hlX := HP.out
  obtain ⟨TT, hTT⟩ : ∃ TT : Nat, TT = 1 + X1.length := ⟨_, rfl⟩
  have cmk := markOwnTxts' 1 TT hTT (by omega) (by omega) (by omega) ogL
  clear ce2 ogK owK bL gK
  go_upto_region 32 with (go_at_call 13; go_must (refine cmk.mono ?_; rintro e wM ⟨rfl, oM, mg⟩))
  have gM : Below w.heap.size w wM := gL.trans (OutS.below oM (fun b hb => by have := (OwnTxts.blks ogL hb).1; omega) gL.size)
  have owM := OwnTxts.outA owL oM (fun b hb hb' => by have := HLW.out b hb; have := (OwnTxts.blks ogL hb').1; omega)
  have ch := heldStringS' (s := 1) TT hTT (by omega) (by omega) (by omega) mg
  have hnT : ¬ ((TT : Int) < 0) := by omega
  clear cmk ogL owL oM gL
  go_upto_region 38 with (go_at_call 14; go_must (refine ch.mono ?_; rintro e wN ⟨rfl, bN⟩))
  have gN := good_below gM bN
  have mgN := mg.below bN
  have owN := OwnTxts.below owM bN
  have cN := CT0.out HL0.out wN gN
  clear ch mg owM bN gM
  go_upto_region 39 with (first
    | (go_at_call 9; have hchk := k2; refine (RUN.out HIM.out HL0.out HL1.out HL2.out g6 k0' u0' k1' u1' k2 (Nat.le_refl _)).mono ?_; rintro e wR ⟨⟨qh, rfl, oh⟩, bR⟩; obtain ⟨nh, ne, e9, -⟩ := oh.value; subst e9)
    | (go_at_call 8; have hchk := k1; refine (CT2.out HL2.out wP g5).mono ?_; rintro e wQ ⟨⟨y8, rfl, k2⟩, bQ⟩; have g6 := good_below g5 bQ; have k0' := CpSteps.below k0 bQ u0; have u0' := Nat.le_trans u0 bQ.size; have k1' := CpTxts.below k1 bQ (Nat.le_refl _); have u1' := bQ.size)
    | (go_at_call 8; have hchk := g4; refine (CT1.out HL1.out wO g4).mono ?_; rintro e wP ⟨⟨y7, rfl, k1⟩, bP⟩; have g5 := good_below g4 bP; have k0 := CpSteps.below k00 bP (Nat.le_refl _); have u0 := bP.size)
    | (go_at_call 7; go_must (refine cN.mono ?_; rintro e wO ⟨⟨y6, rfl, k00⟩, bO⟩; have g4 := good_below gN bO)))
  have bNR := good_below (good_below (good_below bO bP) bQ) bR
  have gR := good_below gN bNR
  have owR := OwnTxts.below owN bNR
  have mgR := mgN.below bNR
  have ce3 := eqStringS (w := wR) (fun b hb => hb.2) (fun b hb => hb.2) (OwnTxts.at oh) (OwnTxts.at owR)
  clear cN k00 k0 k0' u0 u0' k1 k1' u1' k2 bO bP bQ bR g4 g5 g6 oh owN mgN gN bNR owR
  go_upto_region 41 with (go_at_call 10; go_must (refine ce3.mono ?_; rintro e wS ⟨rfl, bS⟩))
  have gS := good_below gR bS
  have ch4 := heldStringS' (s := 1) TT hTT (by omega) (by omega) (by omega) (mgR.below bS)
  clear ce3 gR bS mgR
  go_wp2_with (go_at_call 14; go_must (refine ch4.mono ?_; rintro e wT ⟨rfl, bT⟩))
  go_ret
  exact ⟨rfl, good_below gS bT⟩
end Go.Proofs.YtdheogonghcokaaGreatDoor

namespace Go.Proofs.YtdheogonghcokaaGreatDoor
open Go.ChangeShapes Go.WideShapes Go.ChangeAt Go.RowKit
set_option linter.unusedVariables false
set_option linter.unusedSimpArgs false

theorem endF_lim (l : List Step) (f u : List ByteArray) : (endF l f u).2.1.length ≤ 1000000 := by
  unfold endF
  by_cases h1 : 4096 < l.length ∨ 4096 < f.length ∨ 4096 < u.length
  · rw [if_pos h1]; simp
  rw [if_neg h1]
  by_cases h2 : sagaB l = false
  · rw [if_pos h2]; simp
  rw [if_neg h2]
  by_cases h3 : f.all (hasB (names l)) = false ∨ u.all (hasB (names l)) = false
  · rw [if_pos h3]; simp
  rw [if_neg h3]
  have hlen : l.length ≤ 4096 := by omega
  dsimp only
  rw [List.length_map]
  unfold doneF
  have := List.length_filter_le (fun i => decide (isAt (endsN l f u (phi l (beginS l)) (beginS l)) i = 2)) (List.range l.length)
  rw [List.length_range] at this
  omega
end Go.Proofs.YtdheogonghcokaaGreatDoor

namespace Go.Proofs.YtdheogonghcokaaGreatDoor
open Go.ChangeShapes Go.WideShapes Go.ChangeAt Go.RowKit
set_option linter.unusedVariables false
section
variable {H : Type} {enc : TypeId × Value → H} {w : World} {base : Nat} {spare : Nat → Bool} {held : Bool}
set_option maxRecDepth 100000 in
theorem openTxts {fuel : Nat} {cs : List Value} {x : DataW H × List MemPlace} (h : DataW.trod enc Tryz.prog w base spare held fuel 23 cs = some x) :
    ∃ v l, cs = [v] ∧ TxtsAt (fun b => b < w.heap.size) w v l ∧ ∀ y ∈ l, TxtsFit y := by
  rcases Deep.open_strs Tryz.underlying23 Tryz.underlying9 (by kernel_rfl) h with ⟨rfl, rfl⟩ | ⟨a, len, cap, m, Sx, rfl, hb, hl, hm, hmm, rfl, hx⟩
  · exact ⟨_, [], rfl, ⟨by simp, none, 0, rfl, fun h0 => by simp at h0⟩, fun y hy => by cases hy⟩
  have hlm : len ≤ m := by rw [hmm]; split <;> omega
  refine ⟨_, (List.range len).map Sx, rfl, ⟨by simp; omega, some a, cap, by simp, fun h0 => ?_⟩, fun y hy => ?_⟩
  · have hlen : 0 < len := by simpa using h0
    have h00 := (hx 0 (by omega)).1
    have hsp := World.cell?_spot h00
    obtain ⟨b, off, spot⟩ := a
    have hspot : spot = none := by simpa [Addr.add] using hsp
    subst hspot
    refine ⟨b, off, rfl, ?_, fun i hi => ?_⟩
    · cases hh : w.heap[b]? with
      | none => simp [Addr.add, World.cell?, hh] at h00
      | some o => exact (Array.getElem?_eq_some_iff.1 hh).1
    · have hi' : i < len := by simpa using hi
      have := (hx i (by omega)).1
      simp only [add_plain] at this
      rw [this]; simp
  · obtain ⟨i, hi, rfl⟩ := List.mem_map.1 hy
    exact (hx i (by have := List.mem_range.1 hi; omega)).2
end
end Go.Proofs.YtdheogonghcokaaGreatDoor

namespace Go.Proofs.YtdheogonghcokaaGreatDoor
open Go.ChangeShapes Go.WideShapes Go.ChangeAt Go.RowKit
set_option linter.unusedVariables false
set_option linter.unusedSimpArgs false

section
variable {H : Type} {enc : TypeId × Value → H} {w : World} {base : Nat} {spare : Nat → Bool} {held : Bool}
set_option maxRecDepth 100000 in
theorem open_rows4 {t e : TypeId} {f0 f1 f2 f3 : Field} {fuel : Nat} {cs : List Value} {x : DataW H × List MemPlace} (ht : Tryz.prog.underlying t = some (.slice e)) (he : Tryz.prog.underlying e = some (.struct #[f0, f1, f2, f3]))
    (ce : Tryz.prog.cellsOf e = 4) (o0 : f0.offset = 0) (o1 : f1.offset = 1) (o2 : f2.offset = 2) (o3 : f3.offset = 3) (c0 : Tryz.prog.cellsOf f0.type = 1) (c1 : Tryz.prog.cellsOf f1.type = 1) (c2 : Tryz.prog.cellsOf f2.type = 1) (c3 : Tryz.prog.cellsOf f3.type = 1)
    (h : DataW.trod enc Tryz.prog w base spare held fuel t cs = some x) :
    ∃ (a : Option Addr) (len cap n : Nat), cs = [.slice a len cap] ∧ len ≤ maxLen ∧ ((a = none ∧ len = 0 ∧ cap = 0) ∨ ∃ a', a = some a') ∧
      ∀ i, i < len → ∃ b off, a = some ⟨b, off, none⟩ ∧ b < w.heap.size ∧ ∃ v0 v1 v2 v3 y0 y1 y2 y3, w.cell? ⟨b, off + i * 4, none⟩ = some v0 ∧ w.cell? ⟨b, off + i * 4 + 1, none⟩ = some v1 ∧ w.cell? ⟨b, off + i * 4 + 2, none⟩ = some v2 ∧ w.cell? ⟨b, off + i * 4 + 3, none⟩ = some v3 ∧ DataW.trod enc Tryz.prog w base spare held n f0.type [v0] = some y0 ∧ DataW.trod enc Tryz.prog w base spare held n f1.type [v1] = some y1 ∧ DataW.trod enc Tryz.prog w base spare held n f2.type [v2] = some y2 ∧ DataW.trod enc Tryz.prog w base spare held n f3.type [v3] = some y3 := by
  rcases Deep.open_slice ht h with ⟨rfl, _⟩ | ⟨a, len, cap, m, n, D, Pl, rfl, hb, hl, hm, hmm, rfl, hx⟩
  · exact ⟨none, 0, 0, 0, rfl, Nat.zero_le _, .inl ⟨rfl, rfl, rfl⟩, fun i hi => by omega⟩
  have hlm : len ≤ m := by rw [hmm]; split <;> omega
  refine ⟨some a, len, cap, n - 1, rfl, by omega, .inr ⟨a, rfl⟩, fun i hi => ?_⟩
  obtain ⟨cs', h1, h2⟩ := hx i (by omega)
  rw [ce] at h1
  obtain ⟨_, hlen, hcell⟩ := World.cells?_some h1
  obtain ⟨xs, k, hk, hxy, _, hxl, hf⟩ := DataW.trod_struct he h2
  have hk' : k = n - 1 := by omega
  subst hk'
  match xs, hxl, cs', hlen with
  | [y0, y1, y2, y3], _, [v0, v1, v2, v3], _ =>
    have g0 := hf 0 f0 rfl
    have g1 := hf 1 f1 rfl
    have g2 := hf 2 f2 rfl
    have g3 := hf 3 f3 rfl
    simp [o0, o1, o2, o3, c0, c1, c2, c3] at g0 g1 g2 g3
    have e0 := hcell 0 (by omega)
    have e1 := hcell 1 (by omega)
    have e2 := hcell 2 (by omega)
    have e3 := hcell 3 (by omega)
    simp only [List.getElem?_cons_zero, List.getElem?_cons_succ] at e0 e1 e2 e3
    have hsp : a.spot = none := by
      obtain ⟨cs0, h10, _⟩ := hx 0 (by omega)
      rw [ce] at h10
      obtain ⟨_, hlen0, hcell0⟩ := World.cells?_some h10
      have e00 := hcell0 0 (by omega)
      rw [List.getElem?_eq_getElem (by omega)] at e00
      have := World.cell?_spot e00
      simpa [Addr.add] using this
    obtain ⟨b, off, spot⟩ := a
    have hspot : spot = none := hsp
    subst hspot
    simp only [add_plain] at e0 e1 e2 e3
    refine ⟨b, off, rfl, ?_, v0, v1, v2, v3, y0, y1, y2, y3, by simpa using e0, by simpa using e1, by simpa using e2, by simpa using e3, g0, g1, g2, g3⟩
    cases hh : w.heap[b]? with
    | none => simp [World.cell?, hh] at e0
    | some o => exact (Array.getElem?_eq_some_iff.1 hh).1
set_option maxRecDepth 100000 in
theorem openSteps {fuel : Nat} {cs : List Value} {x : DataW H × List MemPlace} (h : DataW.trod enc Tryz.prog w base spare held fuel 22 cs = some x) :
    ∃ v l, cs = [v] ∧ StepsAt (fun b => b < w.heap.size) w v l ∧ ∀ y ∈ l, StepsFit y := by
  obtain ⟨a, len, cap, n, rfl, hlm, ha, hall⟩ := open_rows4 Tryz.underlying22 Tryz.underlying37 (by kernel_rfl) rfl rfl rfl rfl (by kernel_rfl) (by kernel_rfl) (by kernel_rfl) (by kernel_rfl) h
  obtain ⟨l, hl, hr⟩ := list_of len (fun i (y : Step) => StepsFit y ∧ ∃ b off, a = some ⟨b, off, none⟩ ∧ b < w.heap.size ∧ w.cell? ⟨b, off + i * 4, none⟩ = some (.string y.name) ∧ w.cell? ⟨b, off + i * 4 + 2, none⟩ = some (.bool y.undo) ∧ w.cell? ⟨b, off + i * 4 + 3, none⟩ = some (.int .i64 y.tries) ∧ ∃ nv, w.cell? ⟨b, off + i * 4 + 1, none⟩ = some nv ∧ TxtsAt (fun b => b < w.heap.size) w nv y.needs) (fun i hi => by
    obtain ⟨b, off, rfl, hb, v0, v1, v2, v3, y0, y1, y2, y3, c0, c1, c2, c3, t0, t1, t2, t3⟩ := hall i hi
    obtain ⟨s0, q0, _, fit0⟩ := DataW.trod_string Tryz.underlying9 t0
    obtain ⟨nv, s1, q1, hn, fit1⟩ := openTxts t1
    obtain ⟨s2, q2, _⟩ := DataW.trod_bool Tryz.underlying4 t2
    obtain ⟨s3, q3, _, _⟩ := DataW.trod_int Tryz.underlying3 t3
    simp at q0 q1 q2 q3
    subst q0 q1 q2 q3
    exact ⟨⟨s0, s1, s2, s3⟩, ⟨fit0, fit1⟩, b, off, rfl, hb, c0, c2, c3, _, c1, hn⟩)
  refine ⟨_, l, rfl, ⟨by omega, a, cap, by rw [hl], fun h0 => ?_⟩, fun y hy => ?_⟩
  · obtain ⟨_, b, off, rfl, hb, _⟩ := hr 0 h0
    refine ⟨b, off, rfl, hb, fun i hi => ?_⟩
    obtain ⟨_, b', off', he, _, c0, c2, c3, nv, c1, hn⟩ := hr i hi
    simp at he
    obtain ⟨rfl, rfl⟩ := he
    exact ⟨c0, c2, c3, nv, c1, hn⟩
  · obtain ⟨i, hi, rfl⟩ := List.getElem_of_mem hy
    exact (hr i hi).1
end
end Go.Proofs.YtdheogonghcokaaGreatDoor
