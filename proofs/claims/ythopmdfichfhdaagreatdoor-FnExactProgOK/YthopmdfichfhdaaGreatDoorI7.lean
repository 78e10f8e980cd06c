/-
  An instruction's words, as the program reads them: the walk of (*progReader).ins. No statement of the seat is proved here.
-/
import Derived.Test.YthopmdfichfhdaaGreatDoorI6
namespace Go.Proofs.YthopmdfichfhdaaGreatDoor
open Go.ChangeShapes Go.WideShapes Go.ChangeAt Go.RowKit
set_option linter.unusedVariables false
set_option linter.unusedSimpArgs false

theorem meet_then {J K' : Act → World → Prop} {Q' : Exit → Act → World → Prop} {a : Act} {w : World} (h : ∀ a' w', Met J a' w' → K' a' w') (hm : Met J a w) : Exit.then K' Q' .normal a w := h a w hm
set_option maxRecDepth 100000 in
set_option maxHeartbeats 16000000 in
theorem implIns (ws : List ByteArray) (wb wo wq gr ic n : Nat) (ia : Option Addr) (w : World) (h0 : 0 < ws.length) (hlen : ws.length ≤ 70000) (hsz : ∀ t ∈ ws, t.size ≤ 65536) (hn : n ≤ 8)
    (hws : ∀ i, i < ws.length → w.cell? ⟨wb, wo + i, none⟩ = some (.string (ws.getD i ⟨#[]⟩))) (hr : w.cell? ⟨gr, 0, none⟩ = some (.slice ia n ic)) :
    Calls Tryz.prog 77 #[.pointer (some ⟨gr, 0, none⟩), .slice (some ⟨wb, wo, none⟩) ws.length wq] w fun e w' => (∃ (x : Ins) (b : Bool), e = .returned (.tuple #[insV x, .bool b]) ∧ b = (insI ws n).isSome ∧ ∀ y, insI ws n = some y → x = y) ∧ Below w.heap.size w w' := by
  have hmf : ∀ (fn : Fn) (first cap : Array Value) (w : World), (Instr.makeFunc fn first cap).run Tryz.prog w = .ok (.func fn first cap) w := fun _ _ _ _ => rfl
  have hlen' : (ws.length : Int) ≤ 70000 := by omega
  have hn' : (n : Int) ≤ 8 := by omega
  have hgr : gr < w.heap.size := by
    cases hh : w.heap[gr]? with
    | none => simp [World.cell?, hh] at hr
    | some o => exact (Array.getElem?_eq_some_iff.1 hh).1
  have hwb : wb < w.heap.size := by
    have hr := hws 0 h0
    cases hh : w.heap[wb]? with
    | none => simp [World.cell?, hh] at hr
    | some o => exact (Array.getElem?_eq_some_iff.1 hh).1
  have HWS : Hid (∀ W, Below w.heap.size w W → ∀ i, i < ws.length → W.cell? ⟨wb, wo + i, none⟩ = some (.string (ws.getD i ⟨#[]⟩))) := fun W hW i hi => (hW.cell (p := ⟨wb, wo + i, none⟩) hwb).trans (hws i hi)
  have HR : Hid (∀ W, Below w.heap.size w W → W.cell? ⟨gr, 0, none⟩ = some (.slice ia n ic)) := fun W hW => (hW.cell (p := ⟨gr, 0, none⟩) hgr).trans hr
  have HSZ : Hid (∀ i, i < ws.length → (ws.getD i ⟨#[]⟩).size ≤ 65536) := fun i hi => by
    rw [List.getD_eq_getElem?_getD, List.getElem?_eq_getElem hi]
    exact hsz _ (List.getElem_mem hi)
  clear hws hr hsz
  -- the two boxes
  have b1 : Below w.heap.size w (w.alloc (.cells #[.slice (some ⟨wb, wo, none⟩) ws.length wq] 76)) := (Below.refl _ w).alloc (Nat.le_refl _) _
  have b2 : Below w.heap.size w ((w.alloc (.cells #[.slice (some ⟨wb, wo, none⟩) ws.length wq] 76)).alloc (.cells (insC ins0) 43)) := b1.alloc b1.size _
  have k1 : Blk ((w.alloc (.cells #[.slice (some ⟨wb, wo, none⟩) ws.length wq] 76)).alloc (.cells (insC ins0) 43)) w.heap.size 76 #[.slice (some ⟨wb, wo, none⟩) ws.length wq] := Blk.below (heap_alloc_last w _) ((Below.refl _ _).alloc (Nat.le_refl _) _)
  have k2 : Blk ((w.alloc (.cells #[.slice (some ⟨wb, wo, none⟩) ws.length wq] 76)).alloc (.cells (insC ins0) 43)) (w.heap.size + 1) 43 (insC ins0) := by
    have := heap_alloc_last (w.alloc (.cells #[.slice (some ⟨wb, wo, none⟩) ws.length wq] 76)) (.cells (insC ins0) 43)
    rwa [World.size_alloc] at this
  have z2 : ((w.alloc (.cells #[.slice (some ⟨wb, wo, none⟩) ws.length wq] 76)).alloc (.cells (insC ins0) 43)).heap.size = w.heap.size + 2 := by simp
  unfold insC ins0 at b2 k1 k2 z2
  dsimp only at b2 k1 k2 z2
  obtain ⟨wz, hwz⟩ : ∃ W, (w.alloc (.cells #[.slice (some ⟨wb, wo, none⟩) ws.length wq] 76)).alloc (.cells #[.int .i64 0, .int .i64 0, .int .i64 0, .int .i64 0, .int .i64 0, .int .i64 0, .int .i64 0, .int .i64 0, .int .i64 0, .int .i64 0] 43) = W := ⟨_, rfl⟩
  obtain ⟨gw, hgw⟩ : ∃ g, w.heap.size = g := ⟨_, rfl⟩
  rw [hwz] at b2 k1 k2 z2
  rw [hgw] at b2 k1 k2 z2 hgr hwb HWS HR ⊢
  have HKW : Hid (Blk wz gw 76 #[.slice (some ⟨wb, wo, none⟩) ws.length wq]) := k1
  have HK4 : Hid (Blk wz (gw + 1) 43 (insC ins0)) := k2
  have HBZ : Hid (Below gw w wz) := b2
  have ci := implInsForms wz
  clear b1 b2 k1 k2
  go_enter Tryz.func77, Tryz.ntmps77
  go_upto_region 1 with fail
  clear hwz
  go_upto_region 2 with (first
    | (go_at_call 55; go_must (refine ci.mono ?_; rintro e w3 ⟨rfl, hb3⟩))
    | (refine wpList_store_row rfl 103 _ _ rfl w3.heap.size frmV rfl rfl 103 _ (heap_alloc_last _ _) (by kernel_rfl) (by kernel_rfl) (by kernel_rfl) ?_; rw [World.setRow_alloc_new]))
  simp only [Act.put]
  have bF : Below w3.heap.size w3 (w3.alloc (.cells frmV 103)) := (Below.refl _ w3).alloc (Nat.le_refl _) _
  have kF : Blk (w3.alloc (.cells frmV 103)) w3.heap.size 103 frmV := heap_alloc_last w3 _
  have hz4 := good_below hb3 bF
  have hgf : gw + 2 ≤ w3.heap.size := by have := hb3.size; omega
  generalize w3.alloc (.cells frmV 103) = w4 at bF kF hz4 ⊢
  generalize w3.heap.size = gf at kF hgf ⊢
  have HKF : Hid (Blk w4 gf 103 frmV) := kF
  have B4 : Below gw w w4 := HBZ.out.trans (hz4.mono (by omega))
  have HB4 : Hid (Below gw w w4) := B4
  have HKW4 : Hid (Blk w4 gw 76 #[.slice (some ⟨wb, wo, none⟩) ws.length wq]) := HKW.out.below hz4
  have HK44 : Hid (Blk w4 (gw + 1) 43 (insC ins0)) := HK4.out.below hz4
  have hg4 : gw + 2 ≤ w4.heap.size := by have := hz4.size; omega
  have hbox := HKW4.out.cell 0
  simp at hbox
  have hw0 := HWS.out w4 B4 0 h0
  rw [Nat.add_zero] at hw0
  have cf := implFormAt (ws.getD 0 ⟨#[]⟩) gf gw wb wo ws.length wq w4 h0 HKF.out hbox hw0
  have hI : insI ws n = if idxV frmW (ws.getD 0 ⟨#[]⟩) < 0 then none else if ws.length ≠ 1 + (frmFAt (idxV frmW (ws.getD 0 ⟨#[]⟩)).toNat).size then none else readI (frmFAt (idxV frmW (ws.getD 0 ⟨#[]⟩)).toNat) ws (idxV frmW (ws.getD 0 ⟨#[]⟩)) n (frmFAt (idxV frmW (ws.getD 0 ⟨#[]⟩)).toNat).size := rfl
  have hrg := idx_range (l := frmW) (t := ws.getD 0 ⟨#[]⟩)
  obtain ⟨OP, hOP⟩ : ∃ r, idxV frmW (ws.getD 0 ⟨#[]⟩) = r := ⟨_, rfl⟩
  simp only [hOP] at cf hI hrg
  have HI : Hid (insI ws n = if OP < 0 then none else if ws.length ≠ 1 + (frmFAt OP.toNat).size then none else readI (frmFAt OP.toNat) ws OP n (frmFAt OP.toNat).size) := hI
  clear hw0 hbox kF bF hz4 hb3 hOP hI B4 HKW HK4 HBZ z2 ci
  go_upto_region 3 with (go_at_call 87; go_must (refine cf.mono ?_; rintro e w5 ⟨rfl, hb5⟩))
  have HB5 : Hid (Below w4.heap.size w4 w5) := hb5
  clear cf hb5
  go_cut [27] from 15 to 26 (fun s27 wx => s27 = .bool (decide (OP < 0) || decide (ws.length ≠ 1 + (frmFAt OP.toNat).size)) ∧ Below w5.heap.size w5 wx)
  case first =>
    rcases hrg with rfl | ⟨k, hk, rfl⟩
    · go_quiet (fail)
      refine meet_then (by assumption) ?_
      go_meet
      exact ⟨rfl, bel_drewN (Below.refl _ w5) _⟩
    · have hk14 : k < 14 := hk
      have hk' : (k : Int) < 14 := by omega
      have hk0 : ¬ ((k : Int) < 0) := by omega
      obtain ⟨x0, x1⟩ := frm_at (HKF.out.below HB5.out) k hk14
      have hbox := (HKW4.out.below HB5.out).cell 0
      simp at hbox
      have hf5 := frm_five hk14
      obtain ⟨F, hF⟩ : ∃ F, frmFAt k = F := ⟨_, rfl⟩
      rw [hF] at x1 hf5
      have HFF : Hid (frmFAt k = F) := hF
      have hf5' : (F.size : Int) ≤ 5 := by omega
      clear x0 hF
      by_cases hl : ws.length = 1 + F.size
      · have hlf : ((ws.length : Int) != 1 + (F.size : Int)) = false := by rw [bne_eq_false_iff_eq]; omega
        have HL : Hid (ws.length = 1 + F.size) := hl
        clear hl
        go_quiet (fail)
        refine meet_then (by assumption) ?_
        go_meet
        exact ⟨by rw [decide_eq_false hk0, Int.toNat_natCast, HFF.out, decide_eq_false (fun h => h HL.out)]; rfl, bel_drewN (Below.refl _ w5) _⟩
      · have hlf : ((ws.length : Int) != 1 + (F.size : Int)) = true := by rw [bne_iff_ne]; omega
        have HL : Hid (¬ ws.length = 1 + F.size) := hl
        clear hl
        go_quiet (fail)
        refine meet_then (by assumption) ?_
        go_meet
        exact ⟨by rw [decide_eq_false hk0, Int.toNat_natCast, HFF.out, decide_eq_true HL.out]; rfl, bel_drewN (Below.refl _ w5) _⟩
  case rest =>
  obtain ⟨rfl, hbc⟩ := hcut
  obtain ⟨wC, hwC⟩ : ∃ W, W = wc := ⟨_, rfl⟩
  subst hwC
  have h4C : Below w4.heap.size w4 wC := good_below HB5.out hbc
  have HBC : Hid (Below gw w wC) := HB4.out.trans (h4C.mono (by omega))
  have HKWC : Hid (Blk wC gw 76 #[.slice (some ⟨wb, wo, none⟩) ws.length wq]) := HKW4.out.below h4C
  have HK4C : Hid (Blk wC (gw + 1) 43 (insC ins0)) := HK44.out.below h4C
  have HKFC : Hid (Blk wC gf 103 frmV) := HKF.out.below h4C
  have hgC : gw + 2 ≤ wC.heap.size := by have := h4C.size; omega
  clear hbc h4C HB5 HB4 HKW4 HK44 HKF
  cases hbad : (decide (OP < 0) || decide (ws.length ≠ 1 + (frmFAt OP.toNat).size))
  case true =>
    have hnone : insI ws n = none := by
      rw [HI.out]
      rw [Bool.or_eq_true] at hbad
      rcases hbad with h | h
      · rw [if_pos (of_decide_eq_true h)]
      · split
        · rfl
        · rw [if_pos (of_decide_eq_true h)]
    have HNONE : Hid (insI ws n = none) := hnone
    clear hnone hbad hrg
    have h4b := setI_blk HK4C.out ins0
    go_wp2_with (refine wpList_store_row rfl 43 _ _ rfl (gw + 1) (insC ins0) rfl rfl 43 _ HK4C.out (by kernel_rfl) (by kernel_rfl) (by kernel_rfl) ?_)
    exact bodyPost_ret (results_ins Tryz.results77 _ _ (gw + 1) ins0 rfl h4b (.bool false) rfl) rfl ⟨⟨ins0, false, rfl, by rw [HNONE.out]; rfl, fun y hy => by rw [HNONE.out] at hy; cases hy⟩, setI_below HBC.out (Nat.le_succ gw) ins0⟩
  case false =>
    rw [Bool.or_eq_false_iff] at hbad
    have hop0 := of_decide_eq_false hbad.1
    have hlen1 := Classical.not_not.1 (of_decide_eq_false hbad.2)
    rcases hrg with rfl | ⟨k, hk, rfl⟩
    · omega
    rw [Int.toNat_natCast] at hlen1
    have hk14 : k < 14 := hk
    have hk' : (k : Int) < 14 := by omega
    obtain ⟨-, x1⟩ := frm_at HKFC.out k hk14
    have hf5 := frm_five hk14
    have HCH : Hid (∀ j, j < (frmFAt k).size → byt (frmFAt k) j = 82 ∨ byt (frmFAt k) j = 67 ∨ byt (frmFAt k) j = 65 ∨ byt (frmFAt k) j = 66 ∨ byt (frmFAt k) j = 79 ∨ byt (frmFAt k) j = 63 ∨ byt (frmFAt k) j = 78) := fun j hj => frm_chars hk14 hj
    have hI2 : insI ws n = readI (frmFAt k) ws (k : Int) n (frmFAt k).size := by
      rw [HI.out, if_neg hop0, Int.toNat_natCast, if_neg (fun h => h hlen1)]
    obtain ⟨F, hF⟩ : ∃ F, frmFAt k = F := ⟨_, rfl⟩
    rw [hF] at x1 hf5 HCH hI2 hlen1
    have HI2 : Hid (insI ws n = readI F ws (k : Int) n F.size) := hI2
    have HLEN : Hid (ws.length = 1 + F.size) := hlen1
    have hf5' : (F.size : Int) ≤ 5 := by omega
    clear hbad hop0 hI2 hF hlen1 HI
    have kX : Blk (wC.alloc (.cells (insC { ins0 with op := (k : Int) }) 43)) wC.heap.size 43 (insC { ins0 with op := (k : Int) }) := heap_alloc_last wC _
    have bX : Below wC.heap.size wC (wC.alloc (.cells (insC { ins0 with op := (k : Int) }) 43)) := (Below.refl _ wC).alloc (Nat.le_refl _) _
    have x1X := (bX.cell (World.block_lt_of_cell? _ _ x1)).trans x1
    have hXs : (wC.alloc (.cells (insC { ins0 with op := (k : Int) }) 43)).heap.size = wC.heap.size + 1 := by simp
    clear x1
    go_upto_region 6 with (refine wpList_store_row rfl 43 _ _ rfl wC.heap.size (insC { ins0 with op := (k : Int) }) rfl rfl 43 _ (heap_alloc_last _ _) (by first | kernel_rfl | rfl) (by first | kernel_rfl | rfl) (by first | kernel_rfl | rfl) ?_; rw [World.setRow_alloc_new])
    simp only [Act.put]
    have hgxw : gw + 2 ≤ wC.heap.size := hgC
    generalize wC.alloc (.cells (insC { ins0 with op := (k : Int) }) 43) = wX at kX bX x1X hXs ⊢
    obtain ⟨gx, hgx⟩ : ∃ g, wC.heap.size = g := ⟨_, rfl⟩
    rw [hgx] at kX bX hXs hgxw hgC ⊢
    clear hgx
    have hi0 : (wX.iter F 0).heap[gx + 1]? = some (.stringIter F 0) := by rw [← hXs]; exact iter_fresh wX F 0
    have hB0 : Below gx wC (wX.iter F 0) := bX.alloc (by omega) _
    have hk0 : Blk (wX.iter F 0) gx 43 (insC { ins0 with op := (k : Int) }) := kX.below ((Below.refl _ wX).alloc (Nat.le_refl _) _)
    have HST : Hid ((wX.iter F 0).heap[gx + 1]? = some (.stringIter F 0) ∧ Below gx wC (wX.iter F 0) ∧ Blk (wX.iter F 0) gx 43 (insC { ins0 with op := (k : Int) }) ∧ gx + 2 ≤ (wX.iter F 0).heap.size) := ⟨hi0, hB0, hk0, by have := (Array.getElem?_eq_some_iff.1 hi0).1; omega⟩
    have HF0 : Hid (Below gx wC wX) := bX
    clear hi0 hB0 hk0 kX bX
    go_wp2_with fail
    go_loopw [9] (fun _ wr => ∃ (j : Nat) (x : Ins), wr.heap[gx + 1]? = some (.stringIter F j) ∧ j ≤ F.size ∧ readI F ws (k : Int) n j = some x ∧ Below gx wC wr ∧ Blk wr gx 43 (insC x) ∧ gx + 2 ≤ wr.heap.size) (fun _ wr => F.size - wr.iterPos (gx + 1))
    case atStart => exact ⟨0, { ins0 with op := (k : Int) }, HST.out.1, by omega, rfl, HST.out.2.1, HST.out.2.2.1, HST.out.2.2.2⟩
    case round =>
      obtain ⟨j, x, hi, hj, hrd, hB, hkx, hsz⟩ := hrel
      have hip := iterPos_of hi
      have HKX : Hid (Blk wr gx 43 (insC x)) := hkx
      have HRD : Hid (readI F ws (k : Int) n j = some x) := hrd
      have hBw : Below gw w wr := HBC.out.trans (hB.mono (by omega))
      have HBW : Hid (Below gw w wr) := hBw
      have h4r : Blk wr (gw + 1) 43 (insC ins0) := (hB.block (gw + 1) (by omega)).trans HK4C.out
      have HK4R : Hid (Blk wr (gw + 1) 43 (insC ins0)) := h4r
      clear hkx hrd h4r HST HF0 x1X
      by_cases hjn : j < F.size
      · have hnx : ∀ ty, (Instr.next (.pointer (some ⟨gx + 1, 0, none⟩)) true ty).run Tryz.prog wr = _ := fun ty => Lib.run_next_any_at wr (gx + 1) F j ty hi hjn
        have hch := HCH.out j hjn
        rw [decode_low (by omega)] at hnx
        obtain ⟨wt, hwt⟩ : ∃ wt, wr.iterAt (gx + 1) F (j + 1) = wt := ⟨_, rfl⟩
        have hiT : wt.heap[gx + 1]? = some (.stringIter F (j + 1)) := by rw [← hwt]; exact Lib.iterAt_heap wr _ _ _ _ hi
        have hBT : Below gx wC wt := by rw [← hwt]; exact Lib.below_iterAt hB (by omega) _ _
        have hkT : Blk wt gx 43 (insC x) := by rw [← hwt]; exact (Lib.iterAt_other wr (gx + 1) gx F (j + 1) (by omega)).trans HKX.out
        have hsT : gx + 2 ≤ wt.heap.size := by rw [← hwt, Lib.iterAt_size]; exact hsz
        have h4T : Blk wt (gw + 1) 43 (insC ins0) := by rw [← hwt]; exact (Lib.iterAt_other wr (gx + 1) (gw + 1) F (j + 1) (by omega)).trans HK4R.out
        have hBWT : Below gw w wt := by rw [← hwt]; exact Lib.below_iterAt HBW.out (by omega) _ _
        have hbox : wt.cell? ⟨gw, 0, none⟩ = some (.slice (some ⟨wb, wo, none⟩) ws.length wq) := by
          have h1 : Blk wt gw 76 #[.slice (some ⟨wb, wo, none⟩) ws.length wq] := (hBT.block gw (by omega)).trans HKWC.out
          exact h1.cell 0
        have hj1 : j + 1 < ws.length := by have := HLEN.out; omega
        have hj1' : (1 : Int) + (j : Int) < (ws.length : Int) := by omega
        have hwj := HWS.out wt hBWT (j + 1) hj1
        have hrt := HR.out wt hBWT
        obtain ⟨c, hc⟩ : ∃ c, byt F j = c := ⟨_, rfl⟩
        obtain ⟨tj, htj⟩ : ∃ t, ws.getD (j + 1) ⟨#[]⟩ = t := ⟨_, rfl⟩
        have htz := HSZ.out (j + 1) hj1
        have hsucc : readI F ws (k : Int) n (j + 1) = if fldB c tj x n = true then some (fldX c tj x) else none := by
          show (match readI F ws (k : Int) n j with | none => none | some x => _) = _
          rw [HRD.out, ← hc, ← htj]
        rw [hc] at hnx hch
        rw [htj] at hwj htz
        have cfd := implField hch tj x n gr gx ia ic wt htz hn hkT hrt (by omega)
        simp only at hnx
        rw [hwt] at hnx
        rw [show wo + (j + 1) = wo + (1 + j) by omega] at hwj
        obtain ⟨B, hB2⟩ : ∃ B, fldB c tj x n = B := ⟨_, rfl⟩
        rw [hB2] at cfd hsucc
        obtain ⟨x2, hx2⟩ : ∃ y, fldX c tj x = y := ⟨_, rfl⟩
        rw [hx2] at cfd hsucc
        have HSUC : Hid (readI F ws (k : Int) n (j + 1) = if B = true then some x2 else none) := hsucc
        have HIT : Hid (wt.heap[gx + 1]? = some (.stringIter F (j + 1)) ∧ Below gx wC wt ∧ gx + 2 ≤ wt.heap.size ∧ Below gw w wt ∧ Blk wt (gw + 1) 43 (insC ins0)) := ⟨hiT, hBT, hsT, hBWT, h4T⟩
        clear hsucc hx2 hB2 htj hc hwt hiT hBT hkT hsT h4T hBWT hi hB hBw hrt hch htz
        cases B
        · have hnone : insI ws n = none := by
            rw [HI2.out]
            refine readI_none (j := j + 1) ?_ _ hjn
            rw [HSUC.out, if_neg (by simp)]
          have HNONE : Hid (insI ws n = none) := hnone
          clear hnone
          go_upto_if 48 with (go_at_call 89; go_must (refine cfd.mono ?_; rintro e w9 ⟨rfl, hk9, hs9⟩))
          have h49 : Blk w9 (gw + 1) 43 (insC ins0) := (hs9.2 (gw + 1) (by have := HIT.out.2.2.1; omega) (by omega)).trans HIT.out.2.2.2.2
          have hb9 : Below gw w w9 := HIT.out.2.2.2.1.trans (hs9.below (by omega) (by have := HIT.out.2.2.1; omega))
          have h4b := setI_blk h49 ins0
          go_wp2_with (refine wpList_store_row rfl 43 _ _ rfl (gw + 1) (insC ins0) rfl rfl 43 _ h49 (by kernel_rfl) (by kernel_rfl) (by kernel_rfl) ?_)
          exact bodyPost_ret (results_ins Tryz.results77 _ _ (gw + 1) ins0 rfl h4b (.bool false) rfl) rfl ⟨⟨ins0, false, rfl, by rw [HNONE.out]; rfl, fun y hy => by rw [HNONE.out] at hy; cases hy⟩, setI_below hb9 (Nat.le_succ gw) ins0⟩
        · go_wp2_with (go_at_call 89; go_must (refine cfd.mono ?_; rintro e w9 ⟨rfl, hk9, hs9⟩))
          have hi9 : w9.heap[gx + 1]? = some (.stringIter F (j + 1)) := (hs9.2 (gx + 1) (by have := HIT.out.2.2.1; omega) (by omega)).trans HIT.out.1
          refine ⟨⟨j + 1, x2, hi9, by omega, by rw [HSUC.out]; simp, HIT.out.2.1.trans (hs9.below (Nat.le_refl _) (by have := HIT.out.2.2.1; omega)), hk9, by have := hs9.1.size; have := HIT.out.2.2.1; omega⟩, by rw [hip, iterPos_of hi9]; omega⟩
      · obtain rfl : j = F.size := by omega
        have hnx : ∀ ty, (Instr.next (.pointer (some ⟨gx + 1, 0, none⟩)) true ty).run Tryz.prog wr = _ := fun ty => Lib.run_next_end_at wr (gx + 1) F F.size ty hi hjn
        have hsome : insI ws n = some x := by rw [HI2.out, HRD.out]
        have h4b := setI_blk HK4R.out x
        clear hi hip hB
        go_wp2_with (first
          | (refine wpList_load_row rfl 43 _ rfl gx rfl 43 (insC x) (0, 0) _ HKX.out Tryz.underlying43 rfl (by first | kernel_rfl | rfl) ?_)
          | (refine wpList_store_row rfl 43 _ _ rfl (gw + 1) (insC x) rfl rfl 43 _ HK4R.out (by first | kernel_rfl | rfl) (by first | kernel_rfl | rfl) (by first | kernel_rfl | rfl) ?_))
        exact bodyPost_ret (results_ins Tryz.results77 _ _ (gw + 1) x rfl h4b (.bool true) rfl) rfl ⟨⟨x, true, rfl, by rw [hsome]; rfl, fun y hy => by rw [hsome] at hy; injection hy⟩, setI_below HBW.out (Nat.le_succ gw) x⟩
end Go.Proofs.YthopmdfichfhdaaGreatDoor
