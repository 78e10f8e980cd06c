/-
  spec.l08Merge: its walk. No statement of the seat is proved here.
-/
import Derived.Test.YtnlakebhkfbpfaaGreatDoorH5a
namespace Go.Proofs.YtnlakebhkfbpfaaGreatDoor
open Go.ChangeShapes Go.WideShapes Go.ChangeAt Go.RowKit
set_option linter.unusedVariables false

theorem specWithinQ (p q : ByteArray) (hp : p.size ≤ 100000) (hq : q.size ≤ 100000) (w : World) :
    Calls Tryz.prog 18 #[.string p, .string q] w fun e w' => e = .returned (.bool (withinB p q)) ∧ w' = w :=
  (specWithin p q hp hq w).mono fun e w' h => ⟨h.1, h.2.symm⟩
theorem meet_then {J K' : Act → World → Prop} {Q' : Exit → Act → World → Prop} {a : Act} {w : World} (h : ∀ a' w', Met J a' w' → K' a' w') (hm : Met J a w) : Exit.then K' Q' .normal a w := h a w hm
/-- A layer's entries lie there, and are short. -/
def LaySmall (S : Nat → Prop) (w : World) (x : LayV) : Prop := EntrysAt S w x.nv x.x.entries ∧ x.x.entries.length ≤ 100 ∧ ∀ e ∈ x.x.entries, e.path.size ≤ 205

set_option maxRecDepth 100000 in
set_option maxHeartbeats 16000000 in
theorem specMergeL {S : Nat → Prop} {lv : List LayV} {v : Value} {w : World} (hS : ∀ b, S b → b < w.heap.size) (h : LayVsAt S w v lv) (hone : LayVsOne lv) (hsm : ∀ x ∈ lv, LaySmall S w x) (hl : lv.length ≤ 20) :
    Calls Tryz.prog 12 #[v] w fun e w' => (∃ p, e = .returned p ∧ OwnSettings w.heap.size w' p (laidF ((overF lv).map (·.x)))) ∧ Below w.heap.size w w' := by
  have c26 := specOver hS h hone (fun x hx => (by obtain ⟨a, c, hq⟩ := (hsm x hx).1.shape; exact ⟨a, _, c, hq⟩)) hl
  have hsm2 : ∀ x ∈ overF lv, LaySmall S w x := fun x hx => hsm x (over_mem hx)
  have hll := over_len lv
  obtain ⟨LV, hLV⟩ : ∃ LV, overF lv = LV := ⟨_, rfl⟩
  rw [hLV] at c26 hsm2 hll ⊢
  obtain ⟨a, cap, hv⟩ := h.shape
  subst hv
  have HS : Hid (∀ b, S b → b < w.heap.size) := hS
  have HSM : Hid (∀ x ∈ LV, LaySmall S w x) := hsm2
  have hL20 : (LV.length : Int) ≤ 20 := by omega
  unfold laidF
  obtain ⟨F, hF⟩ : ∃ F, (LV.map (·.x)).foldl layLayer [] = F := ⟨_, rfl⟩
  have HF : Hid ((LV.map (·.x)).foldl layLayer [] = F) := hF
  rw [hF]
  clear hF hS h hone hsm hsm2 hll hLV
  go_enter Tryz.func12, Tryz.ntmps12
  go_upto_region 2 with (go_at_call 26; go_must (refine c26.mono ?_; rintro e w1 ⟨⟨p, rfl, hown⟩, hb1⟩; obtain ⟨pa, pc, rfl, -, hpc⟩ := hown.value))
  have HPC : Hid (0 < LV.length → ∃ g, pa = some ⟨g, 0, none⟩ ∧ w.heap.size ≤ g ∧ g < w1.heap.size ∧ ∀ j (hj : j < LV.length), w1.cell? ⟨g, j * 3, none⟩ = some (.string LV[j].x.name) ∧ w1.cell? ⟨g, j * 3 + 1, none⟩ = some (.int .i64 LV[j].x.rank) ∧ w1.cell? ⟨g, j * 3 + 2, none⟩ = some (LV[j].nv)) := hpc
  have HB1 : Hid (Below w.heap.size w w1) := hb1
  have HE : Hid (OwnSettings w1.heap.size (w1.alloc (.cells #[] 32)) (.slice (some ⟨w1.heap.size, 0, none⟩) 0 0) []) := OwnSettings.empty w1.heap.size w1 (Nat.le_refl _)
  clear hpc hown c26 hb1
  go_wp2_with fail
  go_loopw [4, 5] (fun i4 i5 wr => ∃ (k : Nat) (oa : Option Addr) (oc : Nat) (out : List Setting), i5 = .int .i64 (k : Int) ∧ i4 = .slice oa out.length oc ∧ k ≤ LV.length ∧ out.length ≤ k * 100 ∧ OwnSettings w1.heap.size wr (.slice oa out.length oc) out ∧ (∀ o ∈ out, o.path.size ≤ 205) ∧ ((LV.drop k).map (·.x)).foldl layLayer out = F ∧ Below w1.heap.size w1 wr) (fun _ i5 _ => LV.length - (intOf i5).toNat)
  case atStart => exact ⟨0, some ⟨w1.heap.size, 0, none⟩, 0, [], rfl, rfl, by omega, by simp, HE.out, fun x hx => (by cases hx), HF.out, (Below.refl _ w1).alloc (Nat.le_refl _) _⟩
  case round =>
    obtain ⟨k, oa, oc, out, rfl, rfl, hk, hol, hown, hsml, hfold, hb⟩ := hrel
    have HOW : Hid (OwnSettings w1.heap.size wr (.slice oa out.length oc) out) := hown
    have HFO : Hid (((LV.drop k).map (·.x)).foldl layLayer out = F) := hfold
    have HSL : Hid (∀ o ∈ out, o.path.size ≤ 205) := hsml
    have HBL : Hid (Below w1.heap.size w1 wr) := hb
    clear hfold hsml hown
    by_cases hkn : k < LV.length
    · have hkn' : (k : Int) < (LV.length : Int) := by omega
      obtain ⟨gl, rfl, -, hgl, hcell⟩ := HPC.out (by omega)
      obtain ⟨c0, -, c2⟩ := hcell k hkn
      have hnx : ((LV.drop (k + 1)).map (·.x)).foldl layLayer (layLayer out LV[k].x) = F := by
        have := HFO.out
        rw [List.drop_eq_getElem_cons hkn, List.map_cons, List.foldl_cons] at this
        exact this
      have hxs := HSM.out LV[k] (List.getElem_mem hkn)
      obtain ⟨x, hx⟩ : ∃ x, LV[k] = x := ⟨_, rfl⟩
      rw [hx] at c0 c2 hnx hxs
      obtain ⟨⟨xn, xr, es⟩, xv⟩ := x
      obtain ⟨hes, hel, hep⟩ := hxs
      dsimp only at c0 c2 hes hel hep
      obtain ⟨ea, ec, hxv⟩ := hes.shape
      subst hxv
      unfold layLayer at hnx
      dsimp only at hnx
      obtain ⟨G, hG⟩ : ∃ G, es.foldl (layStep xn) out = G := ⟨_, rfl⟩
      have HG : Hid (es.foldl (layStep xn) out = G) := hG
      have HNX : Hid (((LV.drop (k + 1)).map (·.x)).foldl layLayer G = F) := (show ((LV.drop (k + 1)).map (·.x)).foldl layLayer G = F by rw [← hG]; exact hnx)
      have C0 : Hid (w1.cell? ⟨gl, k * 3, none⟩ = some (.string xn)) := c0
      have C2 : Hid (w1.cell? ⟨gl, k * 3 + 2, none⟩ = some (.slice ea es.length ec)) := c2
      have HES : Hid (EntrysAt S w (.slice ea es.length ec) es) := hes
      have HEP : Hid (∀ e ∈ es, e.path.size ≤ 205) := hep
      have hel' : (es.length : Int) ≤ 100 := by omega
      clear hnx hG hx hcell c0 c2 hes hep HFO
      go_wp2_with fail
      go_loopw [4, 6] (fun i4 i6 wx => ∃ (m : Nat) (oa2 : Option Addr) (oc2 : Nat) (ou : List Setting), i6 = .int .i64 (m : Int) ∧ i4 = .slice oa2 ou.length oc2 ∧ m ≤ es.length ∧ ou.length ≤ k * 100 + m ∧ OwnSettings w1.heap.size wx (.slice oa2 ou.length oc2) ou ∧ (∀ o ∈ ou, o.path.size ≤ 205) ∧ (es.drop m).foldl (layStep xn) ou = G ∧ Below w1.heap.size w1 wx) (fun _ i6 _ => es.length - (intOf i6).toNat)
      case atStart => exact ⟨0, oa, oc, out, rfl, rfl, by omega, by omega, HOW.out, HSL.out, HG.out, hb⟩
      case round =>
        obtain ⟨m, oa2, oc2, ou, rfl, rfl, hm, hou, hown2, hsml2, hfold2, hb2⟩ := hrel
        obtain ⟨wM, hwM⟩ : ∃ wM, wM = wr := ⟨_, rfl⟩
        subst hwM
        have HOW2 : Hid (OwnSettings w1.heap.size wM (.slice oa2 ou.length oc2) ou) := hown2
        have HFO2 : Hid ((es.drop m).foldl (layStep xn) ou = G) := hfold2
        have HSL2 : Hid (∀ o ∈ ou, o.path.size ≤ 205) := hsml2
        have HB2 : Hid (Below w1.heap.size w1 wM) := hb2
        have d0 := (hb2.cell (p := ⟨gl, k * 3, none⟩) hgl).trans C0.out
        have d2 := (hb2.cell (p := ⟨gl, k * 3 + 2, none⟩) hgl).trans C2.out
        clear hfold2 hsml2 hown2
        by_cases hmn : m < es.length
        · have hmn' : (m : Int) < (es.length : Int) := by omega
          obtain ⟨_, ea', ec', huv, huc⟩ := HES.out
          simp only [Value.slice.injEq] at huv
          obtain ⟨rfl, -, rfl⟩ := huv
          obtain ⟨eb, eo, rfl, heS, hecell⟩ := huc (by omega)
          have hew := HS.out eb heS
          obtain ⟨p0, p1⟩ := hecell m hmn
          have hbw := HB1.out.trans (HB2.out.mono HB1.out.size)
          have q0 := (hbw.cell (p := ⟨eb, eo + m * 2, none⟩) hew).trans p0
          have q1 := (hbw.cell (p := ⟨eb, eo + m * 2 + 1, none⟩) hew).trans p1
          have hnx2 : (es.drop (m + 1)).foldl (layStep xn) (layStep xn ou es[m]) = G := by
            have := HFO2.out
            rw [List.drop_eq_getElem_cons hmn, List.foldl_cons] at this
            exact this
          have hyp := HEP.out es[m] (List.getElem_mem hmn)
          obtain ⟨y, hy⟩ : ∃ y, es[m] = y := ⟨_, rfl⟩
          rw [hy] at q0 q1 hnx2 hyp
          obtain ⟨yp, yt⟩ := y
          dsimp only at q0 q1 hyp
          have HNX2 : Hid ((es.drop (m + 1)).foldl (layStep xn) (layStep xn ou ⟨yp, yt⟩) = G) := hnx2
          obtain ⟨ge, hge⟩ : ∃ ge, wM.heap.size = ge := ⟨_, rfl⟩
          clear hnx2 hy p0 p1 hecell huc HFO2 hbw
          go_upto_region 10 with fail
          have hbA : Blk (wM.alloc (.cells #[.string yp, .string yt] 35)) ge 35 #[.string yp, .string yt] := by rw [← hge]; exact heap_alloc_last wM _
          have hbMA : Below wM.heap.size wM (wM.alloc (.cells #[.string yp, .string yt] 35)) := (Below.refl _ wM).alloc (Nat.le_refl _) _
          obtain ⟨wA, hwA⟩ : ∃ wA, wM.alloc (.cells #[.string yp, .string yt] 35) = wA := ⟨_, rfl⟩
          rw [hwA] at hbA hbMA ⊢
          have HBA : Hid (Blk wA ge 35 #[.string yp, .string yt]) := hbA
          have HBWA : Hid (Below w1.heap.size w1 wA) := good_below HB2.out hbMA
          have howA := OwnSettings.below HOW2.out hbMA
          obtain ⟨_, _, hve, -, hoc⟩ := howA.value
          simp only [Value.slice.injEq] at hve
          obtain ⟨rfl, -, rfl⟩ := hve
          have HOC : Hid (0 < ou.length → ∃ g, oa2 = some ⟨g, 0, none⟩ ∧ w1.heap.size ≤ g ∧ g < wA.heap.size ∧ ∀ j (hj : j < ou.length), wA.cell? ⟨g, j * 3, none⟩ = some (.string ou[j].path) ∧ wA.cell? ⟨g, j * 3 + 1, none⟩ = some (.string ou[j].text) ∧ wA.cell? ⟨g, j * 3 + 2, none⟩ = some (.string ou[j].from')) := hoc
          have HE2 : Hid (OwnSettings wA.heap.size (wA.alloc (.cells #[] 32)) (.slice (some ⟨wA.heap.size, 0, none⟩) 0 0) []) := OwnSettings.empty wA.heap.size wA (Nat.le_refl _)
          have hbE : Below wA.heap.size wA (wA.alloc (.cells #[] 32)) := (Below.refl _ wA).alloc (Nat.le_refl _) _
          have hk1 : out.length ≤ 2000 := by omega
          have hou2 : ou.length ≤ 2000 := by omega
          have hou' : (ou.length : Int) ≤ 2000 := by omega
          clear hbA hbMA hoc howA hwA hge d0 d2 q0 q1 hb2 hk1
          obtain ⟨sA, hsA⟩ : ∃ sA, wA.heap.size = sA := ⟨_, rfl⟩
          go_upto_region 11 with fail
          rw [hsA] at HE2
          obtain ⟨wE, hwE⟩ : ∃ wE, wA.alloc (.cells #[] 32) = wE := ⟨_, rfl⟩
          rw [hwE] at hbE HE2 ⊢
          have hbk := Blk.below HBA.out hbE
          have e0 := hbk.cell 0
          have e1 := hbk.cell 1
          simp at e0 e1
          have HBE : Hid (Below wA.heap.size wA wE) := hbE
          clear hbE hwE hbk
          go_wp2_with fail
          go_loopw [8, 9, 10] (fun i8 i9 i10 wx => ∃ (j : Nat) (ra : Option Addr) (rc : Nat) (r : List Setting) (p : Bool), i10 = .int .i64 (j : Int) ∧ i8 = .slice ra r.length rc ∧ i9 = .bool p ∧ j ≤ ou.length ∧ restUp ou ⟨yp, yt⟩ xn j = (r, p) ∧ OwnSettings wA.heap.size wx (.slice ra r.length rc) r ∧ Below wA.heap.size wA wx) (fun _ _ i10 _ => ou.length - (intOf i10).toNat)
          case atStart => exact ⟨0, some ⟨sA, 0, none⟩, 0, [], (yt.toList == [126]), rfl, rfl, rfl, by omega, rfl, (by rw [hsA]; exact HE2.out), HBE.out⟩
          case round =>
            obtain ⟨j, ra, rc, r, p, rfl, rfl, rfl, hj, hup, hownr, hB⟩ := hrel
            have HUP : Hid (restUp ou ⟨yp, yt⟩ xn j = (r, p)) := hup
            have hrl : r.length ≤ j + 1 := by
              have := restUp_len (out := ou) (e := ⟨yp, yt⟩) (nm := xn) j
              rw [hup] at this
              cases p <;> simp at this <;> omega
            have HOR : Hid (OwnSettings wA.heap.size wr (.slice ra r.length rc) r) := hownr
            have HBr : Hid (Below wA.heap.size wA wr) := hB
            have hbk := Blk.below HBA.out hB
            have e0 := hbk.cell 0
            have e1 := hbk.cell 1
            simp at e0 e1
            have hbx := good_below HBWA.out hB
            have d0 := (hbx.cell (p := ⟨gl, k * 3, none⟩) hgl).trans C0.out
            have hsAr := hB.size
            clear hup hownr hbk hsA
            by_cases hjn : j < ou.length
            · have hjn' : (j : Int) < (ou.length : Int) := by omega
              obtain ⟨go, rfl, -, hgo, hoc⟩ := HOC.out (by omega)
              obtain ⟨o0, o1, o2⟩ := hoc j hjn
              have hos := HSL2.out ou[j] (List.getElem_mem hjn)
              have hoj : ou[j]? = some ou[j] := List.getElem?_eq_getElem hjn
              obtain ⟨o, ho⟩ : ∃ o, ou[j] = o := ⟨_, rfl⟩
              rw [ho] at o0 o1 o2 hos hoj
              obtain ⟨op, ot, of⟩ := o
              dsimp only at o0 o1 o2 hos
              have HOJ : Hid (ou[j]? = some ⟨op, ot, of⟩) := hoj
              have O0 : Hid (wA.cell? ⟨go, j * 3, none⟩ = some (.string op)) := o0
              have O1 : Hid (wA.cell? ⟨go, j * 3 + 1, none⟩ = some (.string ot)) := o1
              have O2 : Hid (wA.cell? ⟨go, j * 3 + 2, none⟩ = some (.string of)) := o2
              have z0 := (hB.cell (p := ⟨go, j * 3, none⟩) hgo).trans o0
              have hs1 : op.size ≤ 100000 := by omega
              have hs2 : yp.size ≤ 100000 := by omega
              clear hoj ho hoc o0 o1 o2 e1 d0
              go_upto_region 15 with fail
              go_cut [65] from 48 to 66 (fun s65 wx => s65 = .bool (hits ⟨op, ot, of⟩ ⟨yp, yt⟩) ∧ Below wr.heap.size wr wx)
              case first =>
                have HHI : Hid (hits ⟨op, ot, of⟩ ⟨yp, yt⟩ = (withinB op yp || withinB yp op)) := (show hits ⟨op, ot, of⟩ ⟨yp, yt⟩ = (withinB op yp || withinB yp op) from rfl)
                have HS1 : Hid (op.size ≤ 100000) := hs1
                have HS2 : Hid (yp.size ≤ 100000) := hs2
                clear HUP hrl HOR HBr HBA HBWA HOC HE2 HNX2 HB2 HSL2 HOW2 HBE hbx hsAr C0 C2 HES HEP hel HNX HG HBL HSL HOW HPC HB1 HE HS HSM HF O1 O2 HOJ hos hs1 hs2
                by_cases hA1 : withinB op yp = true
                · have c1 := fun w => specWithinQ op yp HS1.out HS2.out w
                  rw [hA1] at c1 HHI
                  clear hA1
                  go_quiet ((go_at_call 18; exact Calls.quiet_of_same (c1 _)))
                  refine meet_then (by assumption) ?_
                  go_meet
                  exact ⟨by rw [HHI.out]; rfl, bel_drewN (Below.refl _ wr) nq⟩
                · have hH1 : withinB op yp = false := by simpa using hA1
                  clear hA1
                  have cw := fun (p q : ByteArray) (w : World) (hp : p.size ≤ 100000) (hq : q.size ≤ 100000) => specWithinQ p q hp hq w
                  cases hH2 : withinB yp op
                  · go_quiet ((go_at_call 18; exact Calls.quiet_of_same (cw _ _ _ (by first | exact HS1.out | exact HS2.out) (by first | exact HS2.out | exact HS1.out))))
                    refine meet_then (by assumption) ?_
                    go_meet
                    exact ⟨by rw [HHI.out, hH1, hH2]; rfl, bel_drewN (Below.refl _ wr) nq⟩
                  · go_quiet ((go_at_call 18; exact Calls.quiet_of_same (cw _ _ _ (by first | exact HS1.out | exact HS2.out) (by first | exact HS2.out | exact HS1.out))))
                    refine meet_then (by assumption) ?_
                    go_meet
                    exact ⟨by rw [HHI.out, hH1, hH2]; rfl, bel_drewN (Below.refl _ wr) nq⟩
              case rest =>
                obtain ⟨rfl, hb15⟩ := hcut
                obtain ⟨w15, hw15⟩ : ∃ w15, w15 = wc := ⟨_, rfl⟩
                subst hw15
                have HB15 : Hid (Below wA.heap.size wA w15) := good_below HBr.out hb15
                have HOR15 : Hid (OwnSettings wA.heap.size w15 (.slice ra r.length rc) r) := OwnSettings.below HOR.out hb15
                clear e0 z0 hB hbx hb15 HOR HBr hsAr
                cases hh : hits ⟨op, ot, of⟩ ⟨yp, yt⟩
                · have HH : Hid (hits ⟨op, ot, of⟩ ⟨yp, yt⟩ = false) := hh
                  have hbk := Blk.below HBA.out HB15.out
                  have e0 := hbk.cell 0
                  simp at e0
                  have z0 := (HB15.out.cell (p := ⟨go, j * 3, none⟩) hgo).trans O0.out
                  clear hbk hh
                  go_upto_region 16 with fail
                  go_cut [77] from 66 to 78 (fun s77 wx => s77 = .bool (!p && Go.Op.bytesLess yp.toList op.toList) ∧ Below w15.heap.size w15 wx)
                  case first =>
                    cases p
                    · cases hless : Go.Op.bytesLess yp.toList op.toList
                      · go_quiet (fail)
                        refine meet_then (by assumption) ?_
                        go_meet
                        exact ⟨by rw [hless]; rfl, bel_drewN (Below.refl _ w15) nq⟩
                      · go_quiet (fail)
                        refine meet_then (by assumption) ?_
                        go_meet
                        exact ⟨by rw [hless]; rfl, bel_drewN (Below.refl _ w15) nq⟩
                    · go_quiet (fail)
                      refine meet_then (by assumption) ?_
                      go_meet
                      exact ⟨rfl, bel_drewN (Below.refl _ w15) nq⟩
                  case rest =>
                    obtain ⟨rfl, hb16⟩ := hcut
                    obtain ⟨w16, hw16⟩ : ∃ w16, w16 = wc := ⟨_, rfl⟩
                    subst hw16
                    have hB16 := good_below HB15.out hb16
                    have HB16 : Hid (Below wA.heap.size wA w16) := hB16
                    have HOR16 : Hid (OwnSettings wA.heap.size w16 (.slice ra r.length rc) r) := OwnSettings.below HOR15.out hb16
                    have hsA16 := hB16.size
                    clear e0 z0 hb16 HOR15
                    cases hq : (!p && Go.Op.bytesLess yp.toList op.toList)
                    · have HQ : Hid ((!p && Go.Op.bytesLess yp.toList op.toList) = false) := hq
                      have z0 := (hB16.cell (p := ⟨go, j * 3, none⟩) hgo).trans O0.out
                      have z1 := (hB16.cell (p := ⟨go, j * 3 + 1, none⟩) hgo).trans O1.out
                      have z2 := (hB16.cell (p := ⟨go, j * 3 + 2, none⟩) hgo).trans O2.out
                      clear hq
                      go_wp2_with (at_builtin; go_must (refine wpList_appendSettings rfl (.tmp 91) (.tmp 96) rfl wA.heap.size (.slice ra r.length rc) r rfl (OwnSettings.below HOR16.out ((Below.refl _ w16).alloc (Nat.le_refl _) _)) (.slice (some ⟨w16.heap.size, 0, none⟩) 1 1) [⟨op, ot, of⟩] rfl (SettingsAt.new w16 op ot of) (by simp; omega) (by simp; omega) ?_; intro v4 w4 hown4 hB4 hgr4 hnil4; obtain ⟨a4, c4, rfl, -⟩ := hown4.value))
                      exact ⟨⟨j + 1, a4, c4, r ++ [⟨op, ot, of⟩], p, by go_num, by simp, rfl, by omega, restUp_keep HUP.out HOJ.out HH.out HQ.out, hown4, (HB16.out.alloc hsA16 _).trans hB4⟩, by simp [intOf]; omega⟩
                    · have hp : p = false := by cases p <;> simp_all
                      subst hp
                      have HLS : Hid (Go.Op.bytesLess yp.toList op.toList = true) := (show Go.Op.bytesLess yp.toList op.toList = true by simpa using hq)
                      have hbk := Blk.below HBA.out hB16
                      have e0 := hbk.cell 0
                      have e1 := hbk.cell 1
                      simp at e0 e1
                      have d0 := ((good_below HBWA.out hB16).cell (p := ⟨gl, k * 3, none⟩) hgl).trans C0.out
                      obtain ⟨r2, hr2⟩ : ∃ r2, r ++ [(⟨yp, yt, xn⟩ : Setting)] = r2 := ⟨_, rfl⟩
                      have hr2l : r2.length ≤ j + 2 := by rw [← hr2]; simp; omega
                      have HR2 : Hid (r ++ [(⟨yp, yt, xn⟩ : Setting)] = r2) := hr2
                      clear hq hbk hr2
                      go_upto_region 17 with fail
                      go_region_law (refine step_appendSettings rfl (.tmp 78) (.tmp 89) rfl wA.heap.size (.slice ra r.length rc) r (by simp [Act.eval]) (OwnSettings.below HOR16.out (((Below.refl _ w16).alloc (Nat.le_refl _) _).drew)) (.slice (some ⟨w16.heap.size, 0, none⟩) 1 1) [⟨yp, yt, xn⟩] (by simp [Act.eval]) ((SettingsAt.new w16 yp yt xn).keep (fun b i _ => rfl)) (by simp; omega) (by simp; omega) ?_; intro va vn vc w5 hown5 hB5 hgr5 hnil5; rw [HR2.out] at hown5; obtain ⟨a5, c5, e5, -⟩ := hown5.value; simp only [Value.slice.injEq] at e5; obtain ⟨rfl, rfl, rfl⟩ := e5; have hB5' := ((HB16.out.alloc hsA16 (.cells #[.string yp, .string yt, .string xn] 32)).drew).trans hB5)
                      all_goals
                        have z0 := (hB5'.cell (p := ⟨go, j * 3, none⟩) hgo).trans O0.out
                        have z1 := (hB5'.cell (p := ⟨go, j * 3 + 1, none⟩) hgo).trans O1.out
                        have z2 := (hB5'.cell (p := ⟨go, j * 3 + 2, none⟩) hgo).trans O2.out
                        have hs5 := hB5'.size
                        have HB5 : Hid (Below wA.heap.size wA w5) := hB5'
                        have HOR5 : Hid _ := hown5
                        clear hown5 hB5 hB5' hnil5 hgr5
                        go_wp2_with (at_builtin; go_must (refine wpList_appendSettings rfl (.tmp 91) (.tmp 96) rfl wA.heap.size _ r2 rfl (OwnSettings.below HOR5.out ((Below.refl _ w5).alloc (Nat.le_refl _) _)) (.slice (some ⟨w5.heap.size, 0, none⟩) 1 1) [⟨op, ot, of⟩] rfl (SettingsAt.new w5 op ot of) (by simp; omega) (by simp; omega) ?_; intro v4 w4 hown4 hB4 hgr4 hnil4; obtain ⟨a4, c4, rfl, -⟩ := hown4.value))
                        exact ⟨⟨j + 1, a4, c4, r2 ++ [⟨op, ot, of⟩], true, by go_num, by simp, rfl, by omega, (by rw [← HR2.out]; exact restUp_put HUP.out HOJ.out HH.out HLS.out), hown4, (HB5.out.alloc hs5 _).trans hB4⟩, by simp [intOf]; omega⟩
                · have HH : Hid (hits ⟨op, ot, of⟩ ⟨yp, yt⟩ = true) := hh
                  clear hh
                  go_wp2_with fail
                  exact ⟨⟨j + 1, ra, rc, r, p, by go_num, rfl, rfl, by omega, restUp_hit HUP.out HOJ.out HH.out, HOR15.out, HB15.out⟩, by simp [intOf]; omega⟩
            · obtain rfl : j = ou.length := by omega
              have hjn' : ¬ ((ou.length : Int) < (ou.length : Int)) := by omega
              have hyn : (newS ⟨yp, yt⟩ xn).path.size ≤ 205 := hyp
              have hmem := layStep_mem (P := fun o => o.path.size ≤ 205) HSL2.out hyn
              have hlen := layStep_len (nm := xn) (out := ou) (e := ⟨yp, yt⟩)
              cases p
              · have hst := layStep_end HUP.out
                rw [hst] at hmem hlen
                have HNX3 : Hid ((es.drop (m + 1)).foldl (layStep xn) (r ++ [newS ⟨yp, yt⟩ xn]) = G) := (show (es.drop (m + 1)).foldl (layStep xn) (r ++ [newS ⟨yp, yt⟩ xn]) = G by rw [← hst]; exact HNX2.out)
                have HMEM : Hid (∀ o ∈ r ++ [newS ⟨yp, yt⟩ xn], o.path.size ≤ 205) := hmem
                have HLEN : Hid ((r ++ [newS ⟨yp, yt⟩ xn]).length ≤ ou.length + 1) := hlen
                clear hmem hlen hst hyn
                go_upto_region 21 with fail
                go_region_law (refine step_appendSettings rfl (.tmp 100) (.tmp 111) rfl wA.heap.size (.slice ra r.length rc) r (by simp [Act.eval]) (OwnSettings.below HOR.out (((Below.refl _ wr).alloc (Nat.le_refl _) _).drew)) (.slice (some ⟨wr.heap.size, 0, none⟩) 1 1) [newS ⟨yp, yt⟩ xn] (by simp [Act.eval]) ((SettingsAt.new wr yp yt xn).keep (fun b i _ => rfl)) (by simp; omega) (by simp; omega) ?_; intro va vn vc w5 hown5 hB5 hgr5 hnil5; obtain ⟨a5, c5, e5, -⟩ := hown5.value; simp only [Value.slice.injEq] at e5; obtain ⟨rfl, rfl, rfl⟩ := e5; have hB5' := ((HBr.out.alloc hsAr (.cells #[.string yp, .string yt, .string xn] 32)).drew).trans hB5)
                all_goals
                  go_wp2_with fail
                  exact ⟨⟨m + 1, _, _, r ++ [newS ⟨yp, yt⟩ xn], by go_num, by simp, by omega, by have := HLEN.out; omega, OwnSettings.mono hown5 HBWA.out.size, HMEM.out, HNX3.out, good_below HBWA.out hB5'⟩, by simp [intOf]; omega⟩
              · have hst := layStep_put HUP.out
                rw [hst] at hmem hlen
                have HNX3 : Hid ((es.drop (m + 1)).foldl (layStep xn) r = G) := (show (es.drop (m + 1)).foldl (layStep xn) r = G by rw [← hst]; exact HNX2.out)
                have HMEM : Hid (∀ o ∈ r, o.path.size ≤ 205) := hmem
                have HLEN : Hid (r.length ≤ ou.length + 1) := hlen
                clear hmem hlen hst hyn
                go_wp2_with fail
                exact ⟨⟨m + 1, ra, rc, r, by go_num, rfl, by omega, by have := HLEN.out; omega, OwnSettings.mono HOR.out HBWA.out.size, HMEM.out, HNX3.out, hbx⟩, by simp [intOf]; omega⟩
        · obtain rfl : m = es.length := by omega
          have hmn' : ¬ ((es.length : Int) < (es.length : Int)) := by omega
          have hG := HFO2.out
          simp at hG
          have HNX3 : Hid (((LV.drop (k + 1)).map (·.x)).foldl layLayer ou = F) := (show ((LV.drop (k + 1)).map (·.x)).foldl layLayer ou = F by rw [hG]; exact HNX.out)
          clear hG
          go_wp2_with fail
          exact ⟨⟨k + 1, oa2, oc2, ou, by go_num, rfl, by omega, by omega, HOW2.out, HSL2.out, HNX3.out, HB2.out⟩, by simp [intOf]; omega⟩
    · obtain rfl : k = LV.length := by omega
      have hkn' : ¬ ((LV.length : Int) < (LV.length : Int)) := by omega
      have hfin := HFO.out
      simp at hfin
      subst hfin
      go_wp2_with fail
      go_ret
      exact ⟨⟨_, rfl, OwnSettings.mono HOW.out HB1.out.size⟩, good_below HB1.out HBL.out⟩
end Go.Proofs.YtnlakebhkfbpfaaGreatDoor
