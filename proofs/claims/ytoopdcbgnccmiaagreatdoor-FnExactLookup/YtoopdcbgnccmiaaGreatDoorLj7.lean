/-
  spec.l08Merge: its walk. The law on Watch: its walk, over what both Watch answer. What spec's l08Text and Watch answer. What spec's Watch answers: its walk. No statement of the seat is proved here.
-/
import Derived.Test.YtoopdcbgnccmiaaGreatDoorLj6
import Derived.Deep.Cut
namespace Go.Proofs.YtoopdcbgnccmiaaGreatDoor
open Go.ChangeShapes Go.WideShapes Go.ChangeAt Go.RowKit
set_option linter.unusedVariables false

theorem specWithinQ (p q : ByteArray) (hp : p.size ≤ 100000) (hq : q.size ≤ 100000) (w : World) :
    Calls Tryz.prog 61 #[.string p, .string q] w fun e w' => e = .returned (.bool (withinB p q)) ∧ w' = w :=
  (specWithin p q hp hq w).mono fun e w' h => ⟨h.1, h.2.symm⟩
theorem meet_then {J K' : Act → World → Prop} {Q' : Exit → Act → World → Prop} {a : Act} {w : World} (h : ∀ a' w', Met J a' w' → K' a' w') (hm : Met J a w) : Exit.then K' Q' .normal a w := h a w hm
/-- A layer's entries lie there, and are short. -/
def LaySmall (S : Nat → Prop) (w : World) (x : LayV) : Prop := EntrysAt S w x.nv x.x.entries ∧ x.x.entries.length ≤ 100 ∧ ∀ e ∈ x.x.entries, e.path.size ≤ 205

set_option maxRecDepth 100000 in
set_option maxHeartbeats 16000000 in
theorem specMergeL {S : Nat → Prop} {lv : List LayV} {v : Value} {w : World} (hS : ∀ b, S b → b < w.heap.size) (h : LayVsAt S w v lv) (hone : LayVsOne lv) (hsm : ∀ x ∈ lv, LaySmall S w x) (hl : lv.length ≤ 20) :
    Calls Tryz.prog 46 #[v] w fun e w' => (∃ p, e = .returned p ∧ OwnSettings w.heap.size w' p (laidF ((overF lv).map (·.x)))) ∧ Below w.heap.size w w' := by
  have c26 := specOver hS h hone (fun x hx => (by obtain ⟨a, c, hq⟩ := (hsm x hx).1.shape; exact ⟨a, _, c, hq⟩)) hl
  have hsm2 : ∀ x ∈ overF lv, LaySmall S w x := fun x hx => hsm x (over_mem hx)
  have hll := over_len lv
  obtain ⟨LV, hLV⟩ : ∃ LV, overF lv = LV := ⟨_, rfl⟩
  rw [hLV] at c26 hsm2 hll ⊢
  obtain ⟨a, cap, hv⟩ := h.shape
  subst hv
  have HS : Hid (∀ b, S b → b < w.heap.size) := hS
  have HSM : Hid (∀ x ∈ LV, LaySmall S w x) := hsm2
  have hL20 : (LV.length : Int) ≤ 20 := by omega
  unfold laidF
  obtain ⟨F, hF⟩ : ∃ F, (LV.map (·.x)).foldl layLayer [] = F := ⟨_, rfl⟩
  have HF : Hid ((LV.map (·.x)).foldl layLayer [] = F) := hF
  rw [hF]
  clear hF hS h hone hsm hsm2 hll hLV
  go_enter Tryz.func46, Tryz.ntmps46
  go_upto_region 2 with (go_at_call 87; go_must (refine c26.mono ?_; rintro e w1 ⟨⟨p, rfl, hown⟩, hb1⟩; obtain ⟨pa, pc, rfl, -, hpc⟩ := hown.value))
  have HPC : Hid (0 < LV.length → ∃ g, pa = some ⟨g, 0, none⟩ ∧ w.heap.size ≤ g ∧ g < w1.heap.size ∧ ∀ j (hj : j < LV.length), w1.cell? ⟨g, j * 3, none⟩ = some (.string LV[j].x.name) ∧ w1.cell? ⟨g, j * 3 + 1, none⟩ = some (.int .i64 LV[j].x.rank) ∧ w1.cell? ⟨g, j * 3 + 2, none⟩ = some (LV[j].nv)) := hpc
  have HB1 : Hid (Below w.heap.size w w1) := hb1
  have HE : Hid (OwnSettings w1.heap.size (w1.alloc (.cells #[] 81)) (.slice (some ⟨w1.heap.size, 0, none⟩) 0 0) []) := OwnSettings.empty w1.heap.size w1 (Nat.le_refl _)
  clear hpc hown c26 hb1
  go_wp2_with fail
  go_loopw [4, 5] (fun i4 i5 wr => ∃ (k : Nat) (oa : Option Addr) (oc : Nat) (out : List Setting), i5 = .int .i64 (k : Int) ∧ i4 = .slice oa out.length oc ∧ k ≤ LV.length ∧ out.length ≤ k * 100 ∧ OwnSettings w1.heap.size wr (.slice oa out.length oc) out ∧ (∀ o ∈ out, o.path.size ≤ 205) ∧ ((LV.drop k).map (·.x)).foldl layLayer out = F ∧ Below w1.heap.size w1 wr) (fun _ i5 _ => LV.length - (intOf i5).toNat)
  case atStart => exact ⟨0, some ⟨w1.heap.size, 0, none⟩, 0, [], rfl, rfl, by omega, by simp, HE.out, fun x hx => (by cases hx), HF.out, (Below.refl _ w1).alloc (Nat.le_refl _) _⟩
  case round =>
    obtain ⟨k, oa, oc, out, rfl, rfl, hk, hol, hown, hsml, hfold, hb⟩ := hrel
    have HOW : Hid (OwnSettings w1.heap.size wr (.slice oa out.length oc) out) := hown
    have HFO : Hid (((LV.drop k).map (·.x)).foldl layLayer out = F) := hfold
    have HSL : Hid (∀ o ∈ out, o.path.size ≤ 205) := hsml
    have HBL : Hid (Below w1.heap.size w1 wr) := hb
    clear hfold hsml hown
    by_cases hkn : k < LV.length
    · have hkn' : (k : Int) < (LV.length : Int) := by omega
      obtain ⟨gl, rfl, -, hgl, hcell⟩ := HPC.out (by omega)
      obtain ⟨c0, -, c2⟩ := hcell k hkn
      have hnx : ((LV.drop (k + 1)).map (·.x)).foldl layLayer (layLayer out LV[k].x) = F := by
        have := HFO.out
        rw [List.drop_eq_getElem_cons hkn, List.map_cons, List.foldl_cons] at this
        exact this
      have hxs := HSM.out LV[k] (List.getElem_mem hkn)
      obtain ⟨x, hx⟩ : ∃ x, LV[k] = x := ⟨_, rfl⟩
      rw [hx] at c0 c2 hnx hxs
      obtain ⟨⟨xn, xr, es⟩, xv⟩ := x
      obtain ⟨hes, hel, hep⟩ := hxs
      dsimp only at c0 c2 hes hel hep
      obtain ⟨ea, ec, hxv⟩ := hes.shape
      subst hxv
      unfold layLayer at hnx
      dsimp only at hnx
      obtain ⟨G, hG⟩ : ∃ G, es.foldl (layStep xn) out = G := ⟨_, rfl⟩
      have HG : Hid (es.foldl (layStep xn) out = G) := hG
      have HNX : Hid (((LV.drop (k + 1)).map (·.x)).foldl layLayer G = F) := (show ((LV.drop (k + 1)).map (·.x)).foldl layLayer G = F by rw [← hG]; exact hnx)
      have C0 : Hid (w1.cell? ⟨gl, k * 3, none⟩ = some (.string xn)) := c0
      have C2 : Hid (w1.cell? ⟨gl, k * 3 + 2, none⟩ = some (.slice ea es.length ec)) := c2
      have HES : Hid (EntrysAt S w (.slice ea es.length ec) es) := hes
      have HEP : Hid (∀ e ∈ es, e.path.size ≤ 205) := hep
      have hel' : (es.length : Int) ≤ 100 := by omega
      clear hnx hG hx hcell c0 c2 hes hep HFO
      go_wp2_with fail
      go_loopw [4, 6] (fun i4 i6 wx => ∃ (m : Nat) (oa2 : Option Addr) (oc2 : Nat) (ou : List Setting), i6 = .int .i64 (m : Int) ∧ i4 = .slice oa2 ou.length oc2 ∧ m ≤ es.length ∧ ou.length ≤ k * 100 + m ∧ OwnSettings w1.heap.size wx (.slice oa2 ou.length oc2) ou ∧ (∀ o ∈ ou, o.path.size ≤ 205) ∧ (es.drop m).foldl (layStep xn) ou = G ∧ Below w1.heap.size w1 wx) (fun _ i6 _ => es.length - (intOf i6).toNat)
      case atStart => exact ⟨0, oa, oc, out, rfl, rfl, by omega, by omega, HOW.out, HSL.out, HG.out, hb⟩
      case round =>
        obtain ⟨m, oa2, oc2, ou, rfl, rfl, hm, hou, hown2, hsml2, hfold2, hb2⟩ := hrel
        obtain ⟨wM, hwM⟩ : ∃ wM, wM = wr := ⟨_, rfl⟩
        subst hwM
        have HOW2 : Hid (OwnSettings w1.heap.size wM (.slice oa2 ou.length oc2) ou) := hown2
        have HFO2 : Hid ((es.drop m).foldl (layStep xn) ou = G) := hfold2
        have HSL2 : Hid (∀ o ∈ ou, o.path.size ≤ 205) := hsml2
        have HB2 : Hid (Below w1.heap.size w1 wM) := hb2
        have d0 := (hb2.cell (p := ⟨gl, k * 3, none⟩) hgl).trans C0.out
        have d2 := (hb2.cell (p := ⟨gl, k * 3 + 2, none⟩) hgl).trans C2.out
        clear hfold2 hsml2 hown2
        by_cases hmn : m < es.length
        · have hmn' : (m : Int) < (es.length : Int) := by omega
          obtain ⟨_, ea', ec', huv, huc⟩ := HES.out
          simp only [Value.slice.injEq] at huv
          obtain ⟨rfl, -, rfl⟩ := huv
          obtain ⟨eb, eo, rfl, heS, hecell⟩ := huc (by omega)
          have hew := HS.out eb heS
          obtain ⟨p0, p1⟩ := hecell m hmn
          have hbw := HB1.out.trans (HB2.out.mono HB1.out.size)
          have q0 := (hbw.cell (p := ⟨eb, eo + m * 2, none⟩) hew).trans p0
          have q1 := (hbw.cell (p := ⟨eb, eo + m * 2 + 1, none⟩) hew).trans p1
          have hnx2 : (es.drop (m + 1)).foldl (layStep xn) (layStep xn ou es[m]) = G := by
            have := HFO2.out
            rw [List.drop_eq_getElem_cons hmn, List.foldl_cons] at this
            exact this
          have hyp := HEP.out es[m] (List.getElem_mem hmn)
          obtain ⟨y, hy⟩ : ∃ y, es[m] = y := ⟨_, rfl⟩
          rw [hy] at q0 q1 hnx2 hyp
          obtain ⟨yp, yt⟩ := y
          dsimp only at q0 q1 hyp
          have HNX2 : Hid ((es.drop (m + 1)).foldl (layStep xn) (layStep xn ou ⟨yp, yt⟩) = G) := hnx2
          obtain ⟨ge, hge⟩ : ∃ ge, wM.heap.size = ge := ⟨_, rfl⟩
          clear hnx2 hy p0 p1 hecell huc HFO2 hbw
          go_upto_region 10 with fail
          have hbA : Blk (wM.alloc (.cells #[.string yp, .string yt] 137)) ge 137 #[.string yp, .string yt] := by rw [← hge]; exact heap_alloc_last wM _
          have hbMA : Below wM.heap.size wM (wM.alloc (.cells #[.string yp, .string yt] 137)) := (Below.refl _ wM).alloc (Nat.le_refl _) _
          obtain ⟨wA, hwA⟩ : ∃ wA, wM.alloc (.cells #[.string yp, .string yt] 137) = wA := ⟨_, rfl⟩
          rw [hwA] at hbA hbMA ⊢
          have HBA : Hid (Blk wA ge 137 #[.string yp, .string yt]) := hbA
          have HBWA : Hid (Below w1.heap.size w1 wA) := good_below HB2.out hbMA
          have howA := OwnSettings.below HOW2.out hbMA
          obtain ⟨_, _, hve, -, hoc⟩ := howA.value
          simp only [Value.slice.injEq] at hve
          obtain ⟨rfl, -, rfl⟩ := hve
          have HOC : Hid (0 < ou.length → ∃ g, oa2 = some ⟨g, 0, none⟩ ∧ w1.heap.size ≤ g ∧ g < wA.heap.size ∧ ∀ j (hj : j < ou.length), wA.cell? ⟨g, j * 3, none⟩ = some (.string ou[j].path) ∧ wA.cell? ⟨g, j * 3 + 1, none⟩ = some (.string ou[j].text) ∧ wA.cell? ⟨g, j * 3 + 2, none⟩ = some (.string ou[j].from')) := hoc
          have HE2 : Hid (OwnSettings wA.heap.size (wA.alloc (.cells #[] 81)) (.slice (some ⟨wA.heap.size, 0, none⟩) 0 0) []) := OwnSettings.empty wA.heap.size wA (Nat.le_refl _)
          have hbE : Below wA.heap.size wA (wA.alloc (.cells #[] 81)) := (Below.refl _ wA).alloc (Nat.le_refl _) _
          have hk1 : out.length ≤ 2000 := by omega
          have hou2 : ou.length ≤ 2000 := by omega
          have hou' : (ou.length : Int) ≤ 2000 := by omega
          clear hbA hbMA hoc howA hwA hge d0 d2 q0 q1 hb2 hk1
          obtain ⟨sA, hsA⟩ : ∃ sA, wA.heap.size = sA := ⟨_, rfl⟩
          go_upto_region 11 with fail
          rw [hsA] at HE2
          obtain ⟨wE, hwE⟩ : ∃ wE, wA.alloc (.cells #[] 81) = wE := ⟨_, rfl⟩
          rw [hwE] at hbE HE2 ⊢
          have hbk := Blk.below HBA.out hbE
          have e0 := hbk.cell 0
          have e1 := hbk.cell 1
          simp at e0 e1
          have HBE : Hid (Below wA.heap.size wA wE) := hbE
          clear hbE hwE hbk
          go_wp2_with fail
          go_loopw [8, 9, 10] (fun i8 i9 i10 wx => ∃ (j : Nat) (ra : Option Addr) (rc : Nat) (r : List Setting) (p : Bool), i10 = .int .i64 (j : Int) ∧ i8 = .slice ra r.length rc ∧ i9 = .bool p ∧ j ≤ ou.length ∧ restUp ou ⟨yp, yt⟩ xn j = (r, p) ∧ OwnSettings wA.heap.size wx (.slice ra r.length rc) r ∧ Below wA.heap.size wA wx) (fun _ _ i10 _ => ou.length - (intOf i10).toNat)
          case atStart => exact ⟨0, some ⟨sA, 0, none⟩, 0, [], (yt.toList == [126]), rfl, rfl, rfl, by omega, rfl, (by rw [hsA]; exact HE2.out), HBE.out⟩
          case round =>
            obtain ⟨j, ra, rc, r, p, rfl, rfl, rfl, hj, hup, hownr, hB⟩ := hrel
            have HUP : Hid (restUp ou ⟨yp, yt⟩ xn j = (r, p)) := hup
            have hrl : r.length ≤ j + 1 := by
              have := restUp_len (out := ou) (e := ⟨yp, yt⟩) (nm := xn) j
              rw [hup] at this
              cases p <;> simp at this <;> omega
            have HOR : Hid (OwnSettings wA.heap.size wr (.slice ra r.length rc) r) := hownr
            have HBr : Hid (Below wA.heap.size wA wr) := hB
            have hbk := Blk.below HBA.out hB
            have e0 := hbk.cell 0
            have e1 := hbk.cell 1
            simp at e0 e1
            have hbx := good_below HBWA.out hB
            have d0 := (hbx.cell (p := ⟨gl, k * 3, none⟩) hgl).trans C0.out
            have hsAr := hB.size
            clear hup hownr hbk hsA
            by_cases hjn : j < ou.length
            · have hjn' : (j : Int) < (ou.length : Int) := by omega
              obtain ⟨go, rfl, -, hgo, hoc⟩ := HOC.out (by omega)
              obtain ⟨o0, o1, o2⟩ := hoc j hjn
              have hos := HSL2.out ou[j] (List.getElem_mem hjn)
              have hoj : ou[j]? = some ou[j] := List.getElem?_eq_getElem hjn
              obtain ⟨o, ho⟩ : ∃ o, ou[j] = o := ⟨_, rfl⟩
              rw [ho] at o0 o1 o2 hos hoj
              obtain ⟨op, ot, of⟩ := o
              dsimp only at o0 o1 o2 hos
              have HOJ : Hid (ou[j]? = some ⟨op, ot, of⟩) := hoj
              have O0 : Hid (wA.cell? ⟨go, j * 3, none⟩ = some (.string op)) := o0
              have O1 : Hid (wA.cell? ⟨go, j * 3 + 1, none⟩ = some (.string ot)) := o1
              have O2 : Hid (wA.cell? ⟨go, j * 3 + 2, none⟩ = some (.string of)) := o2
              have z0 := (hB.cell (p := ⟨go, j * 3, none⟩) hgo).trans o0
              have hs1 : op.size ≤ 100000 := by omega
              have hs2 : yp.size ≤ 100000 := by omega
              clear hoj ho hoc o0 o1 o2 e1 d0
              go_upto_region 15 with fail
              go_cut [65] from 48 to 66 (fun s65 wx => s65 = .bool (hits ⟨op, ot, of⟩ ⟨yp, yt⟩) ∧ Below wr.heap.size wr wx)
              case first =>
                have HHI : Hid (hits ⟨op, ot, of⟩ ⟨yp, yt⟩ = (withinB op yp || withinB yp op)) := (show hits ⟨op, ot, of⟩ ⟨yp, yt⟩ = (withinB op yp || withinB yp op) from rfl)
                have HS1 : Hid (op.size ≤ 100000) := hs1
                have HS2 : Hid (yp.size ≤ 100000) := hs2
                clear HUP hrl HOR HBr HBA HBWA HOC HE2 HNX2 HB2 HSL2 HOW2 HBE hbx hsAr C0 C2 HES HEP hel HNX HG HBL HSL HOW HPC HB1 HE HS HSM HF O1 O2 HOJ hos hs1 hs2
                by_cases hA1 : withinB op yp = true
                · have c1 := fun w => specWithinQ op yp HS1.out HS2.out w
                  rw [hA1] at c1 HHI
                  clear hA1
                  go_quiet ((go_at_call 61; exact Calls.quiet_of_same (c1 _)))
                  refine meet_then (by assumption) ?_
                  go_meet
                  exact ⟨by rw [HHI.out]; rfl, bel_drewN (Below.refl _ wr) nq⟩
                · have hH1 : withinB op yp = false := by simpa using hA1
                  clear hA1
                  have cw := fun (p q : ByteArray) (w : World) (hp : p.size ≤ 100000) (hq : q.size ≤ 100000) => specWithinQ p q hp hq w
                  cases hH2 : withinB yp op
                  · go_quiet ((go_at_call 61; exact Calls.quiet_of_same (cw _ _ _ (by first | exact HS1.out | exact HS2.out) (by first | exact HS2.out | exact HS1.out))))
                    refine meet_then (by assumption) ?_
                    go_meet
                    exact ⟨by rw [HHI.out, hH1, hH2]; rfl, bel_drewN (Below.refl _ wr) nq⟩
                  · go_quiet ((go_at_call 61; exact Calls.quiet_of_same (cw _ _ _ (by first | exact HS1.out | exact HS2.out) (by first | exact HS2.out | exact HS1.out))))
                    refine meet_then (by assumption) ?_
                    go_meet
                    exact ⟨by rw [HHI.out, hH1, hH2]; rfl, bel_drewN (Below.refl _ wr) nq⟩
              case rest =>
                obtain ⟨rfl, hb15⟩ := hcut
                obtain ⟨w15, hw15⟩ : ∃ w15, w15 = wc := ⟨_, rfl⟩
                subst hw15
                have HB15 : Hid (Below wA.heap.size wA w15) := good_below HBr.out hb15
                have HOR15 : Hid (OwnSettings wA.heap.size w15 (.slice ra r.length rc) r) := OwnSettings.below HOR.out hb15
                clear e0 z0 hB hbx hb15 HOR HBr hsAr
                cases hh : hits ⟨op, ot, of⟩ ⟨yp, yt⟩
                · have HH : Hid (hits ⟨op, ot, of⟩ ⟨yp, yt⟩ = false) := hh
                  have hbk := Blk.below HBA.out HB15.out
                  have e0 := hbk.cell 0
                  simp at e0
                  have z0 := (HB15.out.cell (p := ⟨go, j * 3, none⟩) hgo).trans O0.out
                  clear hbk hh
                  go_upto_region 16 with fail
                  go_cut [77] from 66 to 78 (fun s77 wx => s77 = .bool (!p && Go.Op.bytesLess yp.toList op.toList) ∧ Below w15.heap.size w15 wx)
                  case first =>
                    cases p
                    · cases hless : Go.Op.bytesLess yp.toList op.toList
                      · go_quiet (fail)
                        refine meet_then (by assumption) ?_
                        go_meet
                        exact ⟨by rw [hless]; rfl, bel_drewN (Below.refl _ w15) nq⟩
                      · go_quiet (fail)
                        refine meet_then (by assumption) ?_
                        go_meet
                        exact ⟨by rw [hless]; rfl, bel_drewN (Below.refl _ w15) nq⟩
                    · go_quiet (fail)
                      refine meet_then (by assumption) ?_
                      go_meet
                      exact ⟨rfl, bel_drewN (Below.refl _ w15) nq⟩
                  case rest =>
                    obtain ⟨rfl, hb16⟩ := hcut
                    obtain ⟨w16, hw16⟩ : ∃ w16, w16 = wc := ⟨_, rfl⟩
                    subst hw16
                    have hB16 := good_below HB15.out hb16
                    have HB16 : Hid (Below wA.heap.size wA w16) := hB16
                    have HOR16 : Hid (OwnSettings wA.heap.size w16 (.slice ra r.length rc) r) := OwnSettings.below HOR15.out hb16
                    have hsA16 := hB16.size
                    clear e0 z0 hb16 HOR15
                    cases hq : (!p && Go.Op.bytesLess yp.toList op.toList)
                    · have HQ : Hid ((!p && Go.Op.bytesLess yp.toList op.toList) = false) := hq
                      have z0 := (hB16.cell (p := ⟨go, j * 3, none⟩) hgo).trans O0.out
                      have z1 := (hB16.cell (p := ⟨go, j * 3 + 1, none⟩) hgo).trans O1.out
                      have z2 := (hB16.cell (p := ⟨go, j * 3 + 2, none⟩) hgo).trans O2.out
                      clear hq
                      go_wp2_with (at_builtin; go_must (refine wpList_appendSettings rfl (.tmp 91) (.tmp 96) rfl wA.heap.size (.slice ra r.length rc) r rfl (OwnSettings.below HOR16.out ((Below.refl _ w16).alloc (Nat.le_refl _) _)) (.slice (some ⟨w16.heap.size, 0, none⟩) 1 1) [⟨op, ot, of⟩] rfl (SettingsAt.new w16 op ot of) (by simp; omega) (by simp; omega) ?_; intro v4 w4 hown4 hB4 hgr4 hnil4; obtain ⟨a4, c4, rfl, -⟩ := hown4.value))
                      exact ⟨⟨j + 1, a4, c4, r ++ [⟨op, ot, of⟩], p, by go_num, by simp, rfl, by omega, restUp_keep HUP.out HOJ.out HH.out HQ.out, hown4, (HB16.out.alloc hsA16 _).trans hB4⟩, by simp [intOf]; omega⟩
                    · have hp : p = false := by cases p <;> simp_all
                      subst hp
                      have HLS : Hid (Go.Op.bytesLess yp.toList op.toList = true) := (show Go.Op.bytesLess yp.toList op.toList = true by simpa using hq)
                      have hbk := Blk.below HBA.out hB16
                      have e0 := hbk.cell 0
                      have e1 := hbk.cell 1
                      simp at e0 e1
                      have d0 := ((good_below HBWA.out hB16).cell (p := ⟨gl, k * 3, none⟩) hgl).trans C0.out
                      obtain ⟨r2, hr2⟩ : ∃ r2, r ++ [(⟨yp, yt, xn⟩ : Setting)] = r2 := ⟨_, rfl⟩
                      have hr2l : r2.length ≤ j + 2 := by rw [← hr2]; simp; omega
                      have HR2 : Hid (r ++ [(⟨yp, yt, xn⟩ : Setting)] = r2) := hr2
                      clear hq hbk hr2
                      go_upto_region 17 with fail
                      go_region_law (refine step_appendSettings rfl (.tmp 78) (.tmp 89) rfl wA.heap.size (.slice ra r.length rc) r (by simp [Act.eval]) (OwnSettings.below HOR16.out (((Below.refl _ w16).alloc (Nat.le_refl _) _).drew)) (.slice (some ⟨w16.heap.size, 0, none⟩) 1 1) [⟨yp, yt, xn⟩] (by simp [Act.eval]) ((SettingsAt.new w16 yp yt xn).keep (fun b i _ => rfl)) (by simp; omega) (by simp; omega) ?_; intro va vn vc w5 hown5 hB5 hgr5 hnil5; rw [HR2.out] at hown5; obtain ⟨a5, c5, e5, -⟩ := hown5.value; simp only [Value.slice.injEq] at e5; obtain ⟨rfl, rfl, rfl⟩ := e5; have hB5' := ((HB16.out.alloc hsA16 (.cells #[.string yp, .string yt, .string xn] 81)).drew).trans hB5)
                      all_goals
                        have z0 := (hB5'.cell (p := ⟨go, j * 3, none⟩) hgo).trans O0.out
                        have z1 := (hB5'.cell (p := ⟨go, j * 3 + 1, none⟩) hgo).trans O1.out
                        have z2 := (hB5'.cell (p := ⟨go, j * 3 + 2, none⟩) hgo).trans O2.out
                        have hs5 := hB5'.size
                        have HB5 : Hid (Below wA.heap.size wA w5) := hB5'
                        have HOR5 : Hid _ := hown5
                        clear hown5 hB5 hB5' hnil5 hgr5
                        go_wp2_with (at_builtin; go_must (refine wpList_appendSettings rfl (.tmp 91) (.tmp 96) rfl wA.heap.size _ r2 rfl (OwnSettings.below HOR5.out ((Below.refl _ w5).alloc (Nat.le_refl _) _)) (.slice (some ⟨w5.heap.size, 0, none⟩) 1 1) [⟨op, ot, of⟩] rfl (SettingsAt.new w5 op ot of) (by simp; omega) (by simp; omega) ?_; intro v4 w4 hown4 hB4 hgr4 hnil4; obtain ⟨a4, c4, rfl, -⟩ := hown4.value))
                        exact ⟨⟨j + 1, a4, c4, r2 ++ [⟨op, ot, of⟩], true, by go_num, by simp, rfl, by omega, (by rw [← HR2.out]; exact restUp_put HUP.out HOJ.out HH.out HLS.out), hown4, (HB5.out.alloc hs5 _).trans hB4⟩, by simp [intOf]; omega⟩
                · have HH : Hid (hits ⟨op, ot, of⟩ ⟨yp, yt⟩ = true) := hh
                  clear hh
                  go_wp2_with fail
                  exact ⟨⟨j + 1, ra, rc, r, p, by go_num, rfl, rfl, by omega, restUp_hit HUP.out HOJ.out HH.out, HOR15.out, HB15.out⟩, by simp [intOf]; omega⟩
            · obtain rfl : j = ou.length := by omega
              have hjn' : ¬ ((ou.length : Int) < (ou.length : Int)) := by omega
              have hyn : (newS ⟨yp, yt⟩ xn).path.size ≤ 205 := hyp
              have hmem := layStep_mem (P := fun o => o.path.size ≤ 205) HSL2.out hyn
              have hlen := layStep_len (nm := xn) (out := ou) (e := ⟨yp, yt⟩)
              cases p
              · have hst := layStep_end HUP.out
                rw [hst] at hmem hlen
                have HNX3 : Hid ((es.drop (m + 1)).foldl (layStep xn) (r ++ [newS ⟨yp, yt⟩ xn]) = G) := (show (es.drop (m + 1)).foldl (layStep xn) (r ++ [newS ⟨yp, yt⟩ xn]) = G by rw [← hst]; exact HNX2.out)
                have HMEM : Hid (∀ o ∈ r ++ [newS ⟨yp, yt⟩ xn], o.path.size ≤ 205) := hmem
                have HLEN : Hid ((r ++ [newS ⟨yp, yt⟩ xn]).length ≤ ou.length + 1) := hlen
                clear hmem hlen hst hyn
                go_upto_region 21 with fail
                go_region_law (refine step_appendSettings rfl (.tmp 100) (.tmp 111) rfl wA.heap.size (.slice ra r.length rc) r (by simp [Act.eval]) (OwnSettings.below HOR.out (((Below.refl _ wr).alloc (Nat.le_refl _) _).drew)) (.slice (some ⟨wr.heap.size, 0, none⟩) 1 1) [newS ⟨yp, yt⟩ xn] (by simp [Act.eval]) ((SettingsAt.new wr yp yt xn).keep (fun b i _ => rfl)) (by simp; omega) (by simp; omega) ?_; intro va vn vc w5 hown5 hB5 hgr5 hnil5; obtain ⟨a5, c5, e5, -⟩ := hown5.value; simp only [Value.slice.injEq] at e5; obtain ⟨rfl, rfl, rfl⟩ := e5; have hB5' := ((HBr.out.alloc hsAr (.cells #[.string yp, .string yt, .string xn] 81)).drew).trans hB5)
                all_goals
                  go_wp2_with fail
                  exact ⟨⟨m + 1, _, _, r ++ [newS ⟨yp, yt⟩ xn], by go_num, by simp, by omega, by have := HLEN.out; omega, OwnSettings.mono hown5 HBWA.out.size, HMEM.out, HNX3.out, good_below HBWA.out hB5'⟩, by simp [intOf]; omega⟩
              · have hst := layStep_put HUP.out
                rw [hst] at hmem hlen
                have HNX3 : Hid ((es.drop (m + 1)).foldl (layStep xn) r = G) := (show (es.drop (m + 1)).foldl (layStep xn) r = G by rw [← hst]; exact HNX2.out)
                have HMEM : Hid (∀ o ∈ r, o.path.size ≤ 205) := hmem
                have HLEN : Hid (r.length ≤ ou.length + 1) := hlen
                clear hmem hlen hst hyn
                go_wp2_with fail
                exact ⟨⟨m + 1, ra, rc, r, by go_num, rfl, by omega, by have := HLEN.out; omega, OwnSettings.mono HOR.out HBWA.out.size, HMEM.out, HNX3.out, hbx⟩, by simp [intOf]; omega⟩
        · obtain rfl : m = es.length := by omega
          have hmn' : ¬ ((es.length : Int) < (es.length : Int)) := by omega
          have hG := HFO2.out
          simp at hG
          have HNX3 : Hid (((LV.drop (k + 1)).map (·.x)).foldl layLayer ou = F) := (show ((LV.drop (k + 1)).map (·.x)).foldl layLayer ou = F by rw [hG]; exact HNX.out)
          clear hG
          go_wp2_with fail
          exact ⟨⟨k + 1, oa2, oc2, ou, by go_num, rfl, by omega, by omega, HOW2.out, HSL2.out, HNX3.out, HB2.out⟩, by simp [intOf]; omega⟩
    · obtain rfl : k = LV.length := by omega
      have hkn' : ¬ ((LV.length : Int) < (LV.length : Int)) := by omega
      have hfin := HFO.out
      simp at hfin
      subst hfin
      go_wp2_with fail
      go_ret
      exact ⟨⟨_, rfl, OwnSettings.mono HOW.out HB1.out.size⟩, good_below HB1.out HBL.out⟩
end Go.Proofs.YtoopdcbgnccmiaaGreatDoor

namespace Go.Proofs.YtoopdcbgnccmiaaGreatDoor
open Go.ChangeShapes Go.WideShapes Go.ChangeAt Go.RowKit
set_option linter.unusedVariables false
set_option linter.unusedSimpArgs false

/-- A copy, in blocks between L and U. -/
def CpLayers (L U : Nat) (w : World) (v : Value) (l : List Layer) : Prop := L < U ∧ RowLayers L U w v l
theorem CpLayers.keepU {L U : Nat} {w w' : World} {v : Value} {l : List Layer} (h : CpLayers L U w v l) (hk : ∀ b, L ≤ b → b < U → w'.heap[b]? = w.heap[b]?) : CpLayers L U w' v l := ⟨h.1, h.2.keep hk h.1⟩
theorem CpLayers.at {L U : Nat} {w : World} {v : Value} {l : List Layer} (h : CpLayers L U w v l) : LayersAt (fun b => L ≤ b ∧ b < U) w v l := h.2.at h.1
theorem cpToLayers {S : Nat → Prop} {l : List Layer} {v : Value} {w : World} (hS : ∀ b, S b → b < w.heap.size) (h : LayersAt S w v l) (hl : l.length ≤ 1048576) (hok : ∀ x ∈ l, LayersOK 1048576 x) :
    Calls Tryz.prog 11 #[v] w fun e w' => (∃ v', e = .returned v' ∧ CpLayers w.heap.size w'.heap.size w' v' l) ∧ Below w.heap.size w w' :=
  (toLayerS hS h hl (fun x hx => by have := (hok x hx).2.1; omega)).mono fun e w' ⟨⟨v', he, hr, hlt⟩, hb⟩ => ⟨⟨v', he, hlt, hr⟩, hb⟩
theorem cpMarkLayers {L U : Nat} {l : List Layer} {v : Value} {w : World} (s : Nat) (hs0 : 0 < s) (hs1 : s ≤ 10000000000000) (hl : l.length ≤ 1048576) (hok : ∀ x ∈ l, LayersOK 1048576 x) (hUw : U ≤ w.heap.size) (h : CpLayers L U w v l) :
    Calls Tryz.prog 17 #[v, .int .i64 s] w fun e w' => (∃ r : Nat, e = .returned (.int .i64 (r : Int)) ∧ 0 < r ∧ r ≤ s + 2300000000000) ∧ OutS (fun b => L ≤ b ∧ b < U) w w' := by
  refine (markLayerS s hs0 hs1 (by simpa using hl) (fun m hm => by
    obtain ⟨x, hx, rfl⟩ := List.mem_map.1 hm
    have := (hok x hx).2.1
    omega) h.1 hUw h.2.sh).mono ?_
  rintro e w' ⟨⟨r, he, h1, h2⟩, ho⟩
  simp only [List.length_map] at h2
  exact ⟨⟨r, he, h1, by omega⟩, ho⟩
theorem CpLayers.below {B L U : Nat} {w w' : World} {v : Value} {l : List Layer} (h : CpLayers L U w v l) (hb : Below B w w') (hU : U ≤ B) : CpLayers L U w' v l := h.keepU (fun b _ hb2 => hb.block b (Nat.lt_of_lt_of_le hb2 hU))
theorem CpLayers.outS {S : Nat → Prop} {L U : Nat} {w w' : World} {v : Value} {l : List Layer} (h : CpLayers L U w v l) (ho : OutS S w w') (hS : ∀ b, S b → b < L ∨ U ≤ b) (hU : U ≤ w.heap.size) : CpLayers L U w' v l := h.keepU (fun b h1 h2 => ho.block b (Nat.lt_of_lt_of_le h2 hU) (fun hs => by have := hS b hs; omega))
/-- A copy, in a block between L and U. -/
def CpTxts (L U : Nat) (w : World) (v : Value) (l : List ByteArray) : Prop := ∃ g, L ≤ g ∧ g < U ∧ RowTxts w g v l
theorem CpTxts.keepU {L U : Nat} {w w' : World} {v : Value} {l : List ByteArray} (h : CpTxts L U w v l) (hk : ∀ b, L ≤ b → b < U → w'.heap[b]? = w.heap[b]?) : CpTxts L U w' v l := by
  obtain ⟨g, h1, h2, h3⟩ := h
  exact ⟨g, h1, h2, h3.keep (hk g h1 h2)⟩
theorem CpTxts.at {L U : Nat} {w : World} {v : Value} {l : List ByteArray} (h : CpTxts L U w v l) : TxtsAt (fun b => L ≤ b ∧ b < U) w v l := by
  obtain ⟨g, h1, h2, h3⟩ := h
  exact h3.at ⟨h1, h2⟩
theorem cpToTxts {S : Nat → Prop} {l : List ByteArray} {v : Value} {w : World} (hS : ∀ b, S b → b < w.heap.size) (h : TxtsAt S w v l) (hl : l.length ≤ 1048576) (hok : ∀ x ∈ l, TxtsOK 1048576 x) :
    Calls Tryz.prog 24 #[v] w fun e w' => (∃ v', e = .returned v' ∧ CpTxts w.heap.size w'.heap.size w' v' l) ∧ Below w.heap.size w w' :=
  (toStringS hS h hl).mono fun e w' ⟨⟨v', he, hr⟩, hb⟩ => ⟨⟨v', he, w.heap.size, Nat.le_refl _, hr.lt, hr⟩, hb⟩
theorem cpMarkTxts {L U : Nat} {l : List ByteArray} {v : Value} {w : World} (s : Nat) (hs0 : 0 < s) (hs1 : s ≤ 10000000000000) (hl : l.length ≤ 1048576) (hok : ∀ x ∈ l, TxtsOK 1048576 x) (hUw : U ≤ w.heap.size) (h : CpTxts L U w v l) :
    Calls Tryz.prog 28 #[v, .int .i64 s] w fun e w' => (∃ r : Nat, e = .returned (.int .i64 (r : Int)) ∧ 0 < r ∧ r ≤ s + 2300000000000) ∧ OutS (fun b => L ≤ b ∧ b < U) w w' := by
  obtain ⟨g, h1, h2, h3⟩ := h
  refine (markShTxts s hs0 (by omega) hl h3.sh).mono ?_
  rintro e w' ⟨he, ho, _⟩
  exact ⟨⟨_, he, by omega, by omega⟩, ho.mono (fun b hb => by subst hb; exact ⟨h1, h2⟩)⟩
theorem CpTxts.below {B L U : Nat} {w w' : World} {v : Value} {l : List ByteArray} (h : CpTxts L U w v l) (hb : Below B w w') (hU : U ≤ B) : CpTxts L U w' v l := h.keepU (fun b _ hb2 => hb.block b (Nat.lt_of_lt_of_le hb2 hU))
theorem CpTxts.outS {S : Nat → Prop} {L U : Nat} {w w' : World} {v : Value} {l : List ByteArray} (h : CpTxts L U w v l) (ho : OutS S w w') (hS : ∀ b, S b → b < L ∨ U ≤ b) (hU : U ≤ w.heap.size) : CpTxts L U w' v l := h.keepU (fun b h1 h2 => ho.block b (Nat.lt_of_lt_of_le h2 hU) (fun hs => by have := hS b hs; omega))
/-- What a Watch answers, whatever it is. -/
def WatchC (f : Nat) (T : World → Prop) (C0 : (List Layer) → (List Layer) → (List ByteArray) → List Change) (C1 : (List Layer) → (List Layer) → (List ByteArray) → Int) : Prop := ∀ (S : Nat → Prop) (l0 : List Layer) (l1 : List Layer) (l2 : List ByteArray) (v0 : Value) (v1 : Value) (v2 : Value) (w : World), (∀ b, S b → b < w.heap.size) → LayersAt S w v0 l0 → l0.length ≤ 1048576 → (∀ x ∈ l0, LayersOK 1048576 x) → LayersAt S w v1 l1 → l1.length ≤ 1048576 → (∀ x ∈ l1, LayersOK 1048576 x) → TxtsAt S w v2 l2 → l2.length ≤ 1048576 → (∀ x ∈ l2, TxtsOK 1048576 x) → (∀ W, Below w.heap.size w W → T W) →
  Calls Tryz.prog f #[v0, v1, v2] w fun e w' => (∃ p0, e = .returned (.tuple #[p0, .int .i64 (C1 l0 l1 l2)]) ∧ OwnChanges w.heap.size w' p0 (C0 l0 l1 l2)) ∧ Below w.heap.size w w'

set_option maxRecDepth 100000 in
set_option maxHeartbeats 16000000 in
theorem watchWalk {T : World → Prop} {C0 : (List Layer) → (List Layer) → (List ByteArray) → List Change} {C1 : (List Layer) → (List Layer) → (List ByteArray) → Int} (hSp : WatchC 23 T C0 C1) (hIm : WatchC 25 T C0 C1) (hlen0 : ∀ l0 l1 l2, (C0 l0 l1 l2).length ≤ 1000000)
    (w : World) (v0 : Value) (v1 : Value) (v2 : Value) (l0 : List Layer) (l1 : List Layer) (l2 : List ByteArray) (h0 : LayersAt (fun b => b < w.heap.size) w v0 l0) (hf0 : ∀ y ∈ l0, LayersFit y) (h1 : LayersAt (fun b => b < w.heap.size) w v1 l1) (hf1 : ∀ y ∈ l1, LayersFit y) (h2 : TxtsAt (fun b => b < w.heap.size) w v2 l2) (hf2 : ∀ y ∈ l2, TxtsFit y) (hT : ∀ W, Below w.heap.size w W → T W) :
    Calls Tryz.prog 5 #[v0, v1, v2] w fun e w' => e = .returned (.bool true) ∧ Below w.heap.size w w' := by
  have HT : Hid (∀ W, Below w.heap.size w W → T W) := hT
  have HR0 : Hid (LayersAt (fun b => b < w.heap.size) w v0 l0) := h0
  have HF0 : Hid (∀ y ∈ l0, LayersFit y) := hf0
  obtain ⟨a0, cap0, hv0⟩ := h0.shape
  subst hv0
  have HR1 : Hid (LayersAt (fun b => b < w.heap.size) w v1 l1) := h1
  have HF1 : Hid (∀ y ∈ l1, LayersFit y) := hf1
  obtain ⟨a1, cap1, hv1⟩ := h1.shape
  subst hv1
  have HR2 : Hid (TxtsAt (fun b => b < w.heap.size) w v2 l2) := h2
  have HF2 : Hid (∀ y ∈ l2, TxtsFit y) := hf2
  obtain ⟨a2, cap2, hv2⟩ := h2.shape
  subst hv2
  have hP0 := hlen0 l0 l1 l2
  have cs := fun S v0 v1 v2 w => hSp S l0 l1 l2 v0 v1 v2 w
  have ci := fun S v0 v1 v2 w => hIm S l0 l1 l2 v0 v1 v2 w
  obtain ⟨P0, hPe0⟩ : ∃ P, C0 l0 l1 l2 = P := ⟨_, rfl⟩
  rw [hPe0] at cs ci hP0
  clear hPe0
  obtain ⟨P1, hPe1⟩ : ∃ P, C1 l0 l1 l2 = P := ⟨_, rfl⟩
  rw [hPe1] at cs ci
  clear hPe1
  clear hSp hIm hT h0 hf0 h1 hf1 h2 hf2 hlen0
  have ct0 : l0.length ≤ 1048576 → (∀ x ∈ l0, LayersOK 1048576 x) → ∀ W, Below w.heap.size w W → Calls Tryz.prog 11 #[.slice a0 l0.length cap0] W fun e w' => (∃ v', e = .returned v' ∧ CpLayers W.heap.size w'.heap.size w' v' l0) ∧ Below W.heap.size W w' := fun h1 h2 W hW =>
    cpToLayers (S := fun b => b < w.heap.size) (fun b hb => Nat.lt_of_lt_of_le hb hW.size) (HR0.out.keep (cells_below (fun b hb => hb) hW)) h1 h2
  have ct1 : l1.length ≤ 1048576 → (∀ x ∈ l1, LayersOK 1048576 x) → ∀ W, Below w.heap.size w W → Calls Tryz.prog 11 #[.slice a1 l1.length cap1] W fun e w' => (∃ v', e = .returned v' ∧ CpLayers W.heap.size w'.heap.size w' v' l1) ∧ Below W.heap.size W w' := fun h1 h2 W hW =>
    cpToLayers (S := fun b => b < w.heap.size) (fun b hb => Nat.lt_of_lt_of_le hb hW.size) (HR1.out.keep (cells_below (fun b hb => hb) hW)) h1 h2
  have ct2 : l2.length ≤ 1048576 → (∀ x ∈ l2, TxtsOK 1048576 x) → ∀ W, Below w.heap.size w W → Calls Tryz.prog 24 #[.slice a2 l2.length cap2] W fun e w' => (∃ v', e = .returned v' ∧ CpTxts W.heap.size w'.heap.size w' v' l2) ∧ Below W.heap.size W w' := fun h1 h2 W hW =>
    cpToTxts (S := fun b => b < w.heap.size) (fun b hb => Nat.lt_of_lt_of_le hb hW.size) (HR2.out.keep (cells_below (fun b hb => hb) hW)) h1 h2
  go_enter Tryz.func5, Tryz.ntmps5
  have hbq : Below w.heap.size w w := Below.refl _ w
  have hr1 : (1048576 : Int) ≤ 1048576 := by omega
  have hr0 : (0 : Int) ≤ 1048576 := by omega
  have cz0 := szLayerS (w := w) (fun b hb => Nat.lt_of_lt_of_le hb hbq.size) (HR0.out.keep (cells_below (fun b hb => hb) hbq)) HF0.out (1048576) hr0 hr1
  go_upto_region 2 with fail
  go_cut [7] from 20 (fun s3 wx => ∃ r : Int, s3 = .int .i64 r ∧ (r = -1 ∨ (0 ≤ r ∧ r ≤ 1048576 ∧ (l0.length : Int) ≤ 1048576 ∧ ∀ x ∈ l0, LayersOK (1048576) x)) ∧ Below w.heap.size w wx)
  case first =>
    go_wp2_with (go_at_call 8; go_must (refine cz0.mono ?_; rintro e w1 ⟨⟨r, rfl, hr⟩, hb1⟩))
    go_meet
    exact ⟨r, rfl, hr, good_below hbq hb1⟩
  case rest =>
    clear cz0
    obtain ⟨r0, rfl, hr, hbq0⟩ := hcut
    rcases hr with rfl | ⟨ha0, hc0, hll0, hok0⟩
    case inl =>
      go_wp2_with fail
      go_ret
      exact ⟨rfl, hbq0⟩
    have hok0' : ∀ x ∈ l0, LayersOK 1048576 x := fun x hx => (hok0 x hx).mono (by omega)
    have HOK0 : Hid (∀ x ∈ l0, LayersOK 1048576 x) := hok0'
    have hlc0 : l0.length ≤ 1048576 := by omega
    have hrn0 : ¬ (r0 < 0) := by omega
    clear hok0 hok0' hbq hr0 hr1
    obtain ⟨wq0, hwq0⟩ : ∃ wq, wq = wc := ⟨_, rfl⟩
    subst hwq0
    have hbq := hbq0
    have hr0 := ha0
    have hr1 : r0 ≤ 1048576 := by omega
    clear hbq0
    have cz1 := szLayerS (w := wq0) (fun b hb => Nat.lt_of_lt_of_le hb hbq.size) (HR1.out.keep (cells_below (fun b hb => hb) hbq)) HF1.out (r0) hr0 hr1
    go_upto_region 5 with fail
    go_cut [7] from 20 (fun s3 wx => ∃ r : Int, s3 = .int .i64 r ∧ (r = -1 ∨ (0 ≤ r ∧ r ≤ r0 ∧ (l1.length : Int) ≤ r0 ∧ ∀ x ∈ l1, LayersOK (r0) x)) ∧ Below w.heap.size w wx)
    case first =>
      go_wp2_with (go_at_call 8; go_must (refine cz1.mono ?_; rintro e w1 ⟨⟨r, rfl, hr⟩, hb1⟩))
      go_meet
      exact ⟨r, rfl, hr, good_below hbq hb1⟩
    case rest =>
      clear cz1
      obtain ⟨r1, rfl, hr, hbq1⟩ := hcut
      rcases hr with rfl | ⟨ha1, hc1, hll1, hok1⟩
      case inl =>
        go_wp2_with fail
        go_ret
        exact ⟨rfl, hbq1⟩
      have hok1' : ∀ x ∈ l1, LayersOK 1048576 x := fun x hx => (hok1 x hx).mono (by omega)
      have HOK1 : Hid (∀ x ∈ l1, LayersOK 1048576 x) := hok1'
      have hlc1 : l1.length ≤ 1048576 := by omega
      have hrn1 : ¬ (r1 < 0) := by omega
      clear hok1 hok1' hbq hr0 hr1
      obtain ⟨wq1, hwq1⟩ : ∃ wq, wq = wc := ⟨_, rfl⟩
      subst hwq1
      have hbq := hbq1
      have hr0 := ha1
      have hr1 : r1 ≤ 1048576 := by omega
      clear hbq1
      have cz2 := szStringS (w := wq1) (fun b hb => Nat.lt_of_lt_of_le hb hbq.size) (HR2.out.keep (cells_below (fun b hb => hb) hbq)) HF2.out (r1) hr0 hr1
      go_upto_region 8 with fail
      go_cut [7] from 20 (fun s3 wx => ∃ r : Int, s3 = .int .i64 r ∧ (r = -1 ∨ (0 ≤ r ∧ r ≤ r1 ∧ (l2.length : Int) ≤ r1 ∧ ∀ x ∈ l2, TxtsOK (r1) x)) ∧ Below w.heap.size w wx)
      case first =>
        go_wp2_with (go_at_call 22; go_must (refine cz2.mono ?_; rintro e w1 ⟨⟨r, rfl, hr⟩, hb1⟩))
        go_meet
        exact ⟨r, rfl, hr, good_below hbq hb1⟩
      case rest =>
        clear cz2
        obtain ⟨r2, rfl, hr, hbq2⟩ := hcut
        rcases hr with rfl | ⟨ha2, hc2, hll2, hok2⟩
        case inl =>
          go_wp2_with fail
          go_ret
          exact ⟨rfl, hbq2⟩
        have hok2' : ∀ x ∈ l2, TxtsOK 1048576 x := fun x hx => (hok2 x hx).mono (by omega)
        have HOK2 : Hid (∀ x ∈ l2, TxtsOK 1048576 x) := hok2'
        have hlc2 : l2.length ≤ 1048576 := by omega
        have hrn2 : ¬ (r2 < 0) := by omega
        clear hok2 hok2' hbq hr0 hr1
        obtain ⟨wq2, hwq2⟩ : ∃ wq, wq = wc := ⟨_, rfl⟩
        subst hwq2
        have hbq := hbq2
        have hr0 := ha2
        have hr1 : r2 ≤ 1048576 := by omega
        clear hbq2
        have cs' := fun S v0 v1 v2 W (hW : Below w.heap.size w W) hS h0 h1 h2 => cs S v0 v1 v2 W hS h0 hlc0 HOK0.out h1 hlc1 HOK1.out h2 hlc2 HOK2.out (fun W' hW' => HT.out W' (good_below hW hW'))
        have ci' := fun S v0 v1 v2 W (hW : Below w.heap.size w W) hS h0 h1 h2 => ci S v0 v1 v2 W hS h0 hlc0 HOK0.out h1 hlc1 HOK1.out h2 hlc2 HOK2.out (fun W' hW' => HT.out W' (good_below hW hW'))
        clear cs ci
        go_upto_region 11 with fail
        go_cut [8, 9] from 20 (fun s8 s9 wx => s9 = .int .i64 P1 ∧ (∃ B, OwnChanges B wx s8 P0) ∧ Below w.heap.size w wx)
        case first =>
          go_wp2_with (first
                    | (go_at_call 23; have hchk := bs2; refine (cs' (fun b => b < ws2.heap.size) _ _ _ _ Bs2 (fun b hb => hb) ((ks0_2).at.mono (S' := fun b => b < ws2.heap.size) (fun b hb => Nat.lt_of_lt_of_le hb.2 (us0_2))) ((ks1_2).at.mono (S' := fun b => b < ws2.heap.size) (fun b hb => Nat.lt_of_lt_of_le hb.2 (us1_2))) ((ks2).at.mono (S' := fun b => b < ws2.heap.size) (fun b hb => Nat.lt_of_lt_of_le hb.2 (Nat.le_refl _)))).mono ?_; rintro e ws ⟨⟨qs0, rfl, os0⟩, bs⟩; have Bs := good_below Bs2 bs)
                    | (go_at_call 24; have hchk := bs1; refine (ct2 hlc2 HOK2.out _ Bs1).mono ?_; rintro e ws2 ⟨⟨ys2, rfl, ks2⟩, bs2⟩; have Bs2 := good_below Bs1 bs2; have ks0_2 := CpLayers.below ks0_1 bs2 (us0_1); have us0_2 := Nat.le_trans (us0_1) bs2.size; have ks1_2 := CpLayers.below ks1 bs2 (Nat.le_refl _); have us1_2 := Nat.le_trans (Nat.le_refl _) bs2.size)
                    | (go_at_call 11; have hchk := bs0; refine (ct1 hlc1 HOK1.out _ Bs0).mono ?_; rintro e ws1 ⟨⟨ys1, rfl, ks1⟩, bs1⟩; have Bs1 := good_below Bs0 bs1; have ks0_1 := CpLayers.below ks0 bs1 (Nat.le_refl _); have us0_1 := Nat.le_trans (Nat.le_refl _) bs1.size)
                    | (go_at_call 11; refine (ct0 hlc0 HOK0.out _ hbq).mono ?_; rintro e ws0 ⟨⟨ys0, rfl, ks0⟩, bs0⟩; have Bs0 := good_below hbq bs0))
          go_meet
          exact ⟨rfl, ⟨_, os0⟩, Bs⟩
        case rest =>
          obtain ⟨rfl, ⟨Bw0, ow0⟩, hb5⟩ := hcut
          obtain ⟨aw0, cw0, hvw0, -⟩ := ow0.value
          subst hvw0
          clear cs' hbq
          obtain ⟨w5, hw5⟩ : ∃ w5, w5 = wc := ⟨_, rfl⟩
          subst hw5
          have K5 : Below w5.heap.size w5 w5 := Below.refl _ _
          have hneg0 : ¬ ((1 : Int) + 3 * (P0.length : Int) < 0) := by omega
          go_upto_region 38 with (first
                        | (go_at_call 30; have hchk := on0; refine (heldChangeS (by omega) (by omega) (by omega) dn0).mono ?_; rintro e wp0 ⟨rfl, bp0⟩; have Kp0 := good_below Kn0 bp0; have D0_p0 := MkdChanges.below dn0 bp0)
                        | (go_at_call 29; have hchk := bi0; refine (markOwnChanges (1) (by omega) (by omega) (by omega) G0_i0).mono ?_; rintro e wn0 ⟨rfl, on0, dn0⟩; have Kn0 := Below.trans Ki0 (OutS.below on0 (fun b hb => Nat.le_trans HWX.out (OwnChanges.blk G0_i0 hb)) Ki0.size))
                        | (go_at_call 26; have hchk := om2; refine (eqChangeS (fun b hb => hb.2) (fun b hb => hb.2) G0_m2.at (OwnChanges.below ow0 Km2).at).mono ?_; rintro e wi0 ⟨rfl, bi0⟩; have Ki0 := good_below Km2 bi0; have G0_i0 := OwnChanges.below G0_m2 bi0)
                        | (go_at_call 28; have hchk := om1; refine (cpMarkTxts (rm1) (by omega) (by omega) hlc2 HOK2.out uX2_m1 X2_m1).mono ?_; rintro e wm2 ⟨⟨rm2, rfl, pm2, zm2⟩, om2⟩; have Km2 := Below.trans Km1 (OutS.below om2 (fun b hb => Nat.le_trans Lw2.out hb.1) Km1.size); have G0_m2 := OwnChanges.out G0_m1 om2 (fun b hb => Nat.lt_of_lt_of_le hb.2 (Nat.le_refl _)); have hneg : ¬ ((rm2 : Int) < 0) := by omega)
                        | (go_at_call 17; have hchk := om0; refine (cpMarkLayers (rm0) (by omega) (by omega) hlc1 HOK1.out uX1_m0 X1_m0).mono ?_; rintro e wm1 ⟨⟨rm1, rfl, pm1, zm1⟩, om1⟩; have Km1 := Below.trans Km0 (OutS.below om1 (fun b hb => Nat.le_trans Lw1.out hb.1) Km0.size); have X2_m1 := CpTxts.outS X2_m0 om1 (fun b hb => .inl (Nat.lt_of_lt_of_le hb.2 (Nat.le_refl _))) uX2_m0; have uX2_m1 := Nat.le_trans uX2_m0 om1.size; have G0_m1 := OwnChanges.out G0_m0 om1 (fun b hb => Nat.lt_of_lt_of_le hb.2 (bx2.size)))
                        | (go_at_call 17; have hchk := bh2; refine (cpMarkLayers (1) (by omega) (by omega) hlc0 HOK0.out uX0_h2 X0_h2).mono ?_; rintro e wm0 ⟨⟨rm0, rfl, pm0, zm0⟩, om0⟩; have Km0 := Below.trans Kh2 (OutS.below om0 (fun b hb => Nat.le_trans Lw0.out hb.1) Kh2.size); have X1_m0 := CpLayers.outS X1_h2 om0 (fun b hb => .inl (Nat.lt_of_lt_of_le hb.2 (Nat.le_refl _))) uX1_h2; have uX1_m0 := Nat.le_trans uX1_h2 om0.size; have X2_m0 := CpTxts.outS X2_h2 om0 (fun b hb => .inl (Nat.lt_of_lt_of_le hb.2 (bx1.size))) uX2_h2; have uX2_m0 := Nat.le_trans uX2_h2 om0.size; have G0_m0 := OwnChanges.out G0_h2 om0 (fun b hb => Nat.lt_of_lt_of_le hb.2 ((Nat.le_trans bx1.size bx2.size))))
                        | (go_at_call 27; have hchk := bf2; refine (eqStringS (fun b hb => Nat.lt_of_lt_of_le hb.2 uX2_f2) (fun b hb => hb.2) X2_f2.at kf2.at).mono ?_; rintro e wh2 ⟨rfl, bh2⟩; have Kh2 := good_below Kf2 bh2; have X0_h2 := CpLayers.below X0_f2 bh2 uX0_f2; have uX0_h2 := Nat.le_trans uX0_f2 bh2.size; have X1_h2 := CpLayers.below X1_f2 bh2 uX1_f2; have uX1_h2 := Nat.le_trans uX1_f2 bh2.size; have X2_h2 := CpTxts.below X2_f2 bh2 uX2_f2; have uX2_h2 := Nat.le_trans uX2_f2 bh2.size; have G0_h2 := OwnChanges.below G0_f2 bh2)
                        | (go_at_call 24; have hchk := bh1; refine (ct2 hlc2 HOK2.out _ (good_below hb5 Kh1)).mono ?_; rintro e wf2 ⟨⟨yf2, rfl, kf2⟩, bf2⟩; have Kf2 := good_below Kh1 bf2; have X0_f2 := CpLayers.below X0_h1 bf2 uX0_h1; have uX0_f2 := Nat.le_trans uX0_h1 bf2.size; have X1_f2 := CpLayers.below X1_h1 bf2 uX1_h1; have uX1_f2 := Nat.le_trans uX1_h1 bf2.size; have X2_f2 := CpTxts.below X2_h1 bf2 uX2_h1; have uX2_f2 := Nat.le_trans uX2_h1 bf2.size; have G0_f2 := OwnChanges.below G0_h1 bf2)
                        | (go_at_call 15; have hchk := bf1; refine (eqLayerS (fun b hb => Nat.lt_of_lt_of_le hb.2 uX1_f1) (fun b hb => hb.2) X1_f1.at kf1.at).mono ?_; rintro e wh1 ⟨rfl, bh1⟩; have Kh1 := good_below Kf1 bh1; have X0_h1 := CpLayers.below X0_f1 bh1 uX0_f1; have uX0_h1 := Nat.le_trans uX0_f1 bh1.size; have X1_h1 := CpLayers.below X1_f1 bh1 uX1_f1; have uX1_h1 := Nat.le_trans uX1_f1 bh1.size; have X2_h1 := CpTxts.below X2_f1 bh1 uX2_f1; have uX2_h1 := Nat.le_trans uX2_f1 bh1.size; have G0_h1 := OwnChanges.below G0_f1 bh1)
                        | (go_at_call 11; have hchk := bh0; refine (ct1 hlc1 HOK1.out _ (good_below hb5 Kh0)).mono ?_; rintro e wf1 ⟨⟨yf1, rfl, kf1⟩, bf1⟩; have Kf1 := good_below Kh0 bf1; have X0_f1 := CpLayers.below X0_h0 bf1 uX0_h0; have uX0_f1 := Nat.le_trans uX0_h0 bf1.size; have X1_f1 := CpLayers.below X1_h0 bf1 uX1_h0; have uX1_f1 := Nat.le_trans uX1_h0 bf1.size; have X2_f1 := CpTxts.below X2_h0 bf1 uX2_h0; have uX2_f1 := Nat.le_trans uX2_h0 bf1.size; have G0_f1 := OwnChanges.below G0_h0 bf1)
                        | (go_at_call 15; have hchk := bf0; refine (eqLayerS (fun b hb => Nat.lt_of_lt_of_le hb.2 uX0_f0) (fun b hb => hb.2) X0_f0.at kf0.at).mono ?_; rintro e wh0 ⟨rfl, bh0⟩; have Kh0 := good_below Kf0 bh0; have X0_h0 := CpLayers.below X0_f0 bh0 uX0_f0; have uX0_h0 := Nat.le_trans uX0_f0 bh0.size; have X1_h0 := CpLayers.below X1_f0 bh0 uX1_f0; have uX1_h0 := Nat.le_trans uX1_f0 bh0.size; have X2_h0 := CpTxts.below X2_f0 bh0 uX2_f0; have uX2_h0 := Nat.le_trans uX2_f0 bh0.size; have G0_h0 := OwnChanges.below G0_f0 bh0)
                        | (go_at_call 11; have hchk := be0; refine (ct0 hlc0 HOK0.out _ (good_below hb5 Ke0)).mono ?_; rintro e wf0 ⟨⟨yf0, rfl, kf0⟩, bf0⟩; have Kf0 := good_below Ke0 bf0; have X0_f0 := CpLayers.below X0_e0 bf0 uX0_e0; have uX0_f0 := Nat.le_trans uX0_e0 bf0.size; have X1_f0 := CpLayers.below X1_e0 bf0 uX1_e0; have uX1_f0 := Nat.le_trans uX1_e0 bf0.size; have X2_f0 := CpTxts.below X2_e0 bf0 uX2_e0; have uX2_f0 := Nat.le_trans uX2_e0 bf0.size; have G0_f0 := OwnChanges.below G0_e0 bf0)
                        | (go_at_call 26; have hchk := bg; refine (eqChangeS (fun b hb => hb.2) (fun b hb => hb.2) og0.at (OwnChanges.below ow0 Kg).at).mono ?_; rintro e we0 ⟨rfl, be0⟩; have Ke0 := good_below Kg be0; have X0_e0 := CpLayers.below X0_g be0 uX0_g; have uX0_e0 := Nat.le_trans uX0_g be0.size; have X1_e0 := CpLayers.below X1_g be0 uX1_g; have uX1_e0 := Nat.le_trans uX1_g be0.size; have X2_e0 := CpTxts.below X2_g be0 uX2_g; have uX2_e0 := Nat.le_trans uX2_g be0.size; have G0_e0 := OwnChanges.below og0 be0)
                        | (go_at_call 25; have hchk := bx2; refine (ci' (fun b => b < wx2.heap.size) _ _ _ _ (good_below hb5 Kx2) (fun b hb => hb) (X0_x2.at.mono (S' := fun b => b < wx2.heap.size) (fun b hb => Nat.lt_of_lt_of_le hb.2 uX0_x2)) (X1_x2.at.mono (S' := fun b => b < wx2.heap.size) (fun b hb => Nat.lt_of_lt_of_le hb.2 uX1_x2)) (kx2.at.mono (S' := fun b => b < wx2.heap.size) (fun b hb => Nat.lt_of_lt_of_le hb.2 Ux2))).mono ?_; rintro e wg ⟨⟨qg0, rfl, og0⟩, bg⟩; have Kg := good_below Kx2 bg; have X0_g := CpLayers.below X0_x2 bg uX0_x2; have uX0_g := Nat.le_trans uX0_x2 bg.size; have X1_g := CpLayers.below X1_x2 bg uX1_x2; have uX1_g := Nat.le_trans uX1_x2 bg.size; have X2_g := CpTxts.below kx2 bg Ux2; have uX2_g := Nat.le_trans Ux2 bg.size; have HWX : Hid (w5.heap.size ≤ wx2.heap.size) := Kx2.size; obtain ⟨ag0, cg0, hvg0, -⟩ := og0.value; subst hvg0)
                        | (go_at_call 24; have hchk := bx1; refine (ct2 hlc2 HOK2.out _ (good_below hb5 Kx1)).mono ?_; rintro e wx2 ⟨⟨yx2, rfl, kx2⟩, bx2⟩; have Kx2 := good_below Kx1 bx2; have X0_x2 := CpLayers.below X0_x1 bx2 uX0_x1; have uX0_x2 := Nat.le_trans uX0_x1 bx2.size; have X1_x2 := CpLayers.below kx1 bx2 Ux1; have uX1_x2 := Nat.le_trans Ux1 bx2.size; have Ux2 : wx2.heap.size ≤ wx2.heap.size := Nat.le_refl _; have Lw2 : Hid (w5.heap.size ≤ wx1.heap.size) := Kx1.size)
                        | (go_at_call 11; have hchk := bx0; refine (ct1 hlc1 HOK1.out _ (good_below hb5 Kx0)).mono ?_; rintro e wx1 ⟨⟨yx1, rfl, kx1⟩, bx1⟩; have Kx1 := good_below Kx0 bx1; have X0_x1 := CpLayers.below kx0 bx1 Ux0; have uX0_x1 := Nat.le_trans Ux0 bx1.size; have Ux1 : wx1.heap.size ≤ wx1.heap.size := Nat.le_refl _; have Lw1 : Hid (w5.heap.size ≤ wx0.heap.size) := Kx0.size)
                        | (go_at_call 11; refine (ct0 hlc0 HOK0.out _ (good_below hb5 K5)).mono ?_; rintro e wx0 ⟨⟨yx0, rfl, kx0⟩, bx0⟩; have Kx0 := good_below K5 bx0; have Ux0 : wx0.heap.size ≤ wx0.heap.size := Nat.le_refl _; have Lw0 : Hid (w5.heap.size ≤ w5.heap.size) := K5.size))
          have hb22 := good_below hb5 Kp0
          have ow22_0 := OwnChanges.below ow0 Kp0
          have dm22_0 := D0_p0
          obtain ⟨w22, hw22⟩ : ∃ w22, w22 = wp0 := ⟨_, rfl⟩
          subst hw22
          have HB22 : Hid (Below w.heap.size w w22) := hb22
          go_cut [18, 19] from 20 (fun s18 s19 wx => s19 = .int .i64 P1 ∧ (∃ B, OwnChanges B wx s18 P0) ∧ Below w22.heap.size w22 wx)
          case first =>
            go_wp2_with (first
                        | (go_at_call 25; have hchk := bz2; refine (ci' (fun b => b < wz2.heap.size) _ _ _ _ Bz2 (fun b hb => hb) ((kz0_2).at.mono (S' := fun b => b < wz2.heap.size) (fun b hb => Nat.lt_of_lt_of_le hb.2 (uz0_2))) ((kz1_2).at.mono (S' := fun b => b < wz2.heap.size) (fun b hb => Nat.lt_of_lt_of_le hb.2 (uz1_2))) ((kz2).at.mono (S' := fun b => b < wz2.heap.size) (fun b hb => Nat.lt_of_lt_of_le hb.2 (Nat.le_refl _)))).mono ?_; rintro e wz ⟨⟨qz0, rfl, oz0⟩, bz⟩)
                        | (go_at_call 24; have hchk := bz1; refine (ct2 hlc2 HOK2.out _ Bz1).mono ?_; rintro e wz2 ⟨⟨yz2, rfl, kz2⟩, bz2⟩; have Bz2 := good_below Bz1 bz2; have kz0_2 := CpLayers.below kz0_1 bz2 (uz0_1); have uz0_2 := Nat.le_trans (uz0_1) bz2.size; have kz1_2 := CpLayers.below kz1 bz2 (Nat.le_refl _); have uz1_2 := Nat.le_trans (Nat.le_refl _) bz2.size)
                        | (go_at_call 11; have hchk := bz0; refine (ct1 hlc1 HOK1.out _ Bz0).mono ?_; rintro e wz1 ⟨⟨yz1, rfl, kz1⟩, bz1⟩; have Bz1 := good_below Bz0 bz1; have kz0_1 := CpLayers.below kz0 bz1 (Nat.le_refl _); have uz0_1 := Nat.le_trans (Nat.le_refl _) bz1.size)
                        | (go_at_call 11; refine (ct0 hlc0 HOK0.out _ HB22.out).mono ?_; rintro e wz0 ⟨⟨yz0, rfl, kz0⟩, bz0⟩; have Bz0 := good_below HB22.out bz0))
            go_meet
            exact ⟨rfl, ⟨_, oz0⟩, good_below (good_below (good_below bz0 bz1) bz2) bz⟩
          case rest =>
            obtain ⟨rfl, ⟨Bh0, oh0⟩, bh⟩ := hcut
            go_wp2_with (first
                            | (go_at_call 30; have hchk := bj0; refine (heldChangeS (by omega) (by omega) (by omega) (MkdChanges.below dm22_0 Kj0)).mono ?_; rintro e wk0 ⟨rfl, bk0⟩; have Kk0 := good_below Kj0 bk0)
                            | (go_at_call 26; refine (eqChangeS (fun b hb => hb.2) (fun b hb => hb.2) oh0.at (OwnChanges.below ow22_0 bh).at).mono ?_; rintro e wj0 ⟨rfl, bj0⟩; have Kj0 := good_below bh bj0))
            go_ret
            exact ⟨rfl, good_below HB22.out Kk0⟩
end Go.Proofs.YtoopdcbgnccmiaaGreatDoor

namespace Go.Proofs.YtoopdcbgnccmiaaGreatDoor
open Go.ChangeShapes Go.WideShapes Go.ChangeAt Go.RowKit
set_option linter.unusedVariables false

theorem look_hit {l : List Setting} {p : ByteArray} {k : Nat} (hk : k < l.length) (h : ∀ i (hi : i < l.length), i < k → (l[i].path.toList == p.toList) = false) (h1 : (l[k].path.toList == p.toList) = true) : textOf l p = l[k].text := by
  unfold textOf lookS
  have : l.find? (fun s => s.path.toList == p.toList) = some l[k] := by
    rw [List.find?_eq_some_iff_getElem]
    exact ⟨h1, k, hk, rfl, fun j hj => by rw [h j (by omega) hj]; rfl⟩
  rw [this]
theorem look_miss {l : List Setting} {p : ByteArray} (h : ∀ i (hi : i < l.length), (l[i].path.toList == p.toList) = false) : textOf l p = ⟨#[]⟩ := by
  unfold textOf lookS
  have : l.find? (fun s => s.path.toList == p.toList) = none := by
    rw [List.find?_eq_none]
    intro s hs
    obtain ⟨i, hi, rfl⟩ := List.getElem_of_mem hs
    rw [h i hi]; simp
  rw [this]
set_option maxRecDepth 100000 in
set_option maxHeartbeats 1000000 in
theorem specText {S : Nat → Prop} {l : List Setting} {v : Value} {w : World} (hS : ∀ b, S b → b < w.heap.size) (h : SettingsAt S w v l) (p : ByteArray) :
    Calls Tryz.prog 62 #[v, .string p] w fun e w' => e = .returned (.string (textOf l p)) ∧ Below w.heap.size w w' := by
  obtain ⟨hlm, a, cap, rfl, hc⟩ := h
  have HC : Hid _ := hc
  have HS : Hid (∀ b, S b → b < w.heap.size) := hS
  have hlm' : (l.length : Int) ≤ 9223372036854775807 := by simp [maxLen] at hlm; omega
  clear hc hS hlm
  go_enter Tryz.func62, Tryz.ntmps62
  go_wp2_with fail
  go_loopw [5] (fun i5 wr => ∃ (k : Nat), i5 = .int .i64 (k : Int) ∧ k ≤ l.length ∧ (∀ i (h : i < l.length), i < k → (l[i].path.toList == p.toList) = false) ∧ Below w.heap.size w wr) (fun i5 _ => l.length - (intOf i5).toNat)
  case atStart => exact ⟨0, rfl, by omega, fun i _ h => by omega, Below.refl _ _⟩
  case round =>
    obtain ⟨k, rfl, hk, hno, hb⟩ := hrel
    have HN : Hid (∀ i (h : i < l.length), i < k → (l[i].path.toList == p.toList) = false) := hno
    clear hno
    by_cases hkn : k < l.length
    · have hkn' : (k : Int) < (l.length : Int) := by omega
      obtain ⟨b, off, rfl, hbS, hcell⟩ := HC.out (by omega)
      have hbw := HS.out b hbS
      obtain ⟨c0, c1, c2⟩ := hcell k hkn
      have d0 := (hb.cell (p := ⟨b, off + k * 3, none⟩) hbw).trans c0
      have d1 := (hb.cell (p := ⟨b, off + k * 3 + 1, none⟩) hbw).trans c1
      have hht := fun h1 => look_hit (p := p) hkn HN.out h1
      have hnn : (l[k].path.toList == p.toList) = false → ∀ i (h : i < l.length), i < k + 1 → (l[i].path.toList == p.toList) = false := fun h0 i hi hik => by
        by_cases e : i = k
        · subst e; exact h0
        · exact HN.out i hi (by omega)
      obtain ⟨x, hx⟩ : ∃ x, l[k] = x := ⟨_, rfl⟩
      rw [hx] at d0 d1 hht hnn
      obtain ⟨xp, xt, xf⟩ := x
      dsimp only at d0 d1 hht hnn
      have HHT : Hid ((xp.toList == p.toList) = true → textOf l p = xt) := hht
      have HNN : Hid ((xp.toList == p.toList) = false → ∀ i (h : i < l.length), i < k + 1 → (l[i].path.toList == p.toList) = false) := hnn
      clear hx hht hnn c0 c1 c2 hcell
      cases hq : (xp.toList == p.toList)
      · go_wp2_with fail
        exact ⟨⟨k + 1, rfl, by omega, HNN.out hq, hb⟩, by simp [intOf]; omega⟩
      · go_wp2_with fail
        go_ret
        exact ⟨by rw [HHT.out hq]; rfl, hb⟩
    · obtain rfl : k = l.length := by omega
      have hkn' : ¬ ((l.length : Int) < (l.length : Int)) := by omega
      go_wp2_with fail
      go_ret
      exact ⟨by rw [look_miss (fun i hi => HN.out i hi hi)]; rfl, hb⟩

theorem nameSpec : NameSpec nameOK := fun s w => specNameOK s w
/-- What spec's l08Merge makes of right layers. -/
theorem specMergeR {S : Nat → Prop} {l : List Layer} {v : Value} {w : World} (hS : ∀ b, S b → b < w.heap.size) (h : LayersAt S w v l) (hB : layersB nameOK l = true) :
    Calls Tryz.prog 46 #[v] w fun e w' => (∃ p, e = .returned p ∧ OwnSettings w.heap.size w' p (laidF (overP l))) ∧ Below w.heap.size w w' := by
  obtain ⟨f1, f2, f3⟩ := layers_fine hB
  obtain ⟨lv, hlv, hat, hen⟩ := layers_lv h
  have hone : LayVsOne lv := fun y hy => by
    obtain ⟨ya, yc, hq⟩ := (hen y hy).shape
    rw [hq]; rfl
  have hsm : ∀ y ∈ lv, LaySmall S w y := fun y hy => by
    have := f3 y.x (by rw [← hlv]; exact List.mem_map.2 ⟨y, hy, rfl⟩)
    exact ⟨hen y hy, this.1, this.2⟩
  have hl20 : lv.length ≤ 20 := by rw [← hlv, List.length_map] at f1; exact f1
  have cm := specMergeL hS hat hone hsm hl20
  have hpl := over_plain lv
  rw [hlv] at hpl
  rw [hpl] at cm
  exact cm
end Go.Proofs.YtoopdcbgnccmiaaGreatDoor

namespace Go.Proofs.YtoopdcbgnccmiaaGreatDoor
open Go.ChangeShapes Go.WideShapes Go.ChangeAt Go.RowKit
set_option linter.unusedVariables false

theorem laySteps_short (nm : ByteArray) : ∀ (es : List Entry) (out : List Setting), (∀ e ∈ es, e.path.size ≤ 205) → (∀ o ∈ out, o.path.size ≤ 205) → ∀ o ∈ es.foldl (layStep nm) out, o.path.size ≤ 205
  | [], out, _, h => h
  | e :: es, out, he, h => by
    rw [List.foldl_cons]
    exact laySteps_short nm es _ (fun y hy => he y (List.mem_cons_of_mem _ hy)) (layStep_mem (P := fun o => o.path.size ≤ 205) h (he e (List.mem_cons_self ..)))
theorem laidFold_short : ∀ (l : List Layer) (out : List Setting), (∀ x ∈ l, ∀ e ∈ x.entries, e.path.size ≤ 205) → (∀ o ∈ out, o.path.size ≤ 205) → ∀ o ∈ l.foldl layLayer out, o.path.size ≤ 205
  | [], out, _, h => h
  | x :: l, out, hx, h => by
    rw [List.foldl_cons]
    exact laidFold_short l _ (fun y hy => hx y (List.mem_cons_of_mem _ hy)) (laySteps_short x.name x.entries out (hx x (List.mem_cons_self ..)) h)
theorem laid_short {l : List Layer} (h : layersB nameOK l = true) : ∀ o ∈ laidF (overP l), o.path.size ≤ 205 :=
  laidFold_short (overP l) [] (fun x hx => ((layers_fine h).2.2 x (overP_mem hx)).2) (fun o ho => by cases ho)
theorem both_short {a b : List Setting} (ha : ∀ o ∈ a, o.path.size ≤ 205) (hb : ∀ o ∈ b, o.path.size ≤ 205) : ∀ p ∈ bothPaths a b, p.size ≤ 205 := fun p hp => by
  rcases (both_mem a b p).1 hp with ⟨s, hs, rfl⟩ | ⟨s, hs, rfl⟩
  · exact ha s hs
  · exact hb s hs
theorem path_short {p : ByteArray} (h : pathB nameOK p = true) : p.size ≤ 205 := by
  unfold pathB at h
  simp only [Bool.and_eq_true, decide_eq_true_eq] at h
  exact h.1.1
theorem ChangesAt.newAt (w : World) (x y z : ByteArray) (g : Nat) (hg : w.heap.size = g) : ChangesAt (fun b => b = g) (w.alloc (.cells #[.string x, .string y, .string z] 113)) (.slice (some ⟨g, 0, none⟩) 1 1) [⟨x, y, z⟩] := by
  subst hg; exact ChangesAt.new w x y z
theorem specWithinQ' (p q : ByteArray) (hp : p.size ≤ 205) (hq : q.size ≤ 205) (w : World) :
    Calls Tryz.prog 61 #[.string p, .string q] w fun e w' => e = .returned (.bool (withinB p q)) ∧ w' = w := specWithinQ p q (by omega) (by omega) w
set_option maxRecDepth 100000 in
set_option maxHeartbeats 16000000 in
theorem specWatch (T : World → Prop) : WatchC 23 T watchL watchC := by
  intro S l0 l1 l2 v0 v1 v2 w hS h0 hl0 hok0 h1 hl1 hok1 h2 hl2 hok2 hT
  clear hT
  obtain ⟨a0, cap0, hv0⟩ := h0.shape
  obtain ⟨a1, cap1, hv1⟩ := h1.shape
  obtain ⟨a2, cap2, hv2⟩ := h2.shape
  have m0 : (l0.length : Int) ≤ 1048576 := by omega
  have m1 : (l1.length : Int) ≤ 1048576 := by omega
  have m2 : (l2.length : Int) ≤ 1048576 := by omega
  unfold watchL watchC
  have hE : ∀ W : World, OwnChanges W.heap.size (W.alloc (.cells #[] 113)) (.slice (some ⟨W.heap.size, 0, none⟩) 0 0) [] := fun W => OwnChanges.empty W.heap.size W (Nat.le_refl _)
  have HE : Hid (∀ W : World, OwnChanges W.heap.size (W.alloc (.cells #[] 113)) (.slice (some ⟨W.heap.size, 0, none⟩) 0 0) []) := hE
  clear hE
  by_cases b0 : 4096 < l0.length
  · have b0' : (4096 : Int) < (l0.length : Int) := by omega
    have elw : longW l0 l1 l2 = true := by simp [longW, b0]
    simp only [elw, ↓reduceIte]
    clear elw
    subst hv0 hv1 hv2
    clear h0 h1 h2 hok0 hok1 hok2 hS
    go_enter Tryz.func23, Tryz.ntmps23
    go_wp2_with fail
    go_ret2
    exact ⟨⟨_, rfl, HE.out w⟩, (Below.refl _ w).alloc (Nat.le_refl _) _⟩
  by_cases b1 : 4096 < l1.length
  · have b0' : ¬ ((4096 : Int) < (l0.length : Int)) := by omega
    have b1' : (4096 : Int) < (l1.length : Int) := by omega
    have elw : longW l0 l1 l2 = true := by simp [longW, b1]
    simp only [elw, ↓reduceIte]
    clear elw
    subst hv0 hv1 hv2
    clear h0 h1 h2 hok0 hok1 hok2 hS
    go_enter Tryz.func23, Tryz.ntmps23
    go_wp2_with fail
    go_ret2
    exact ⟨⟨_, rfl, HE.out w⟩, (Below.refl _ w).alloc (Nat.le_refl _) _⟩
  by_cases b2 : 4096 < l2.length
  · have b0' : ¬ ((4096 : Int) < (l0.length : Int)) := by omega
    have b1' : ¬ ((4096 : Int) < (l1.length : Int)) := by omega
    have b2' : (4096 : Int) < (l2.length : Int) := by omega
    have elw : longW l0 l1 l2 = true := by simp [longW, b2]
    simp only [elw, ↓reduceIte]
    clear elw
    subst hv0 hv1 hv2
    clear h0 h1 h2 hok0 hok1 hok2 hS
    go_enter Tryz.func23, Tryz.ntmps23
    go_wp2_with fail
    go_ret2
    exact ⟨⟨_, rfl, HE.out w⟩, (Below.refl _ w).alloc (Nat.le_refl _) _⟩
  have b0' : ¬ ((4096 : Int) < (l0.length : Int)) := by omega
  have b1' : ¬ ((4096 : Int) < (l1.length : Int)) := by omega
  have b2' : ¬ ((4096 : Int) < (l2.length : Int)) := by omega
  have elw : longW l0 l1 l2 = false := by unfold longW; rw [decide_eq_false b0, decide_eq_false b1, decide_eq_false b2]; rfl
  simp only [elw, Bool.false_eq_true, ↓reduceIte]
  clear elw
  have c0 := specLayers nameSpec hS h0 hok0
  have c1 := fun W (hW : Below w.heap.size w W) => specLayers (w := W) nameSpec (fun b hb => Nat.lt_of_lt_of_le (hS b hb) hW.size) (h1.keep (cells_below hS hW)) hok1
  cases hA : layersB nameOK l0
  · rw [hA] at c0
    have erw : rightW l0 l1 l2 = false := by simp [rightW, hA]
    simp only [erw, Bool.false_eq_true, ↓reduceIte]
    clear erw
    subst hv0 hv1 hv2
    clear h0 h1 h2 hok0 hok1 hok2 hS c1 hA
    go_enter Tryz.func23, Tryz.ntmps23
    go_wp2_with (go_at_call 45; go_must (refine c0.mono ?_; rintro e w2 ⟨rfl, hb2⟩))
    go_ret2
    exact ⟨⟨_, rfl, OwnChanges.mono (HE.out w2) hb2.size⟩, hb2.alloc hb2.size _⟩
  rw [hA] at c0
  cases hB : layersB nameOK l1
  · rw [hB] at c1
    have erw : rightW l0 l1 l2 = false := by simp [rightW, hB]
    simp only [erw, Bool.false_eq_true, ↓reduceIte]
    clear erw
    subst hv0 hv1 hv2
    clear h0 h1 h2 hok0 hok1 hok2 hS hA hB
    go_enter Tryz.func23, Tryz.ntmps23
    go_wp2_with (first
      | (go_at_call 45; have hchk := hb2; refine (c1 _ hb2).mono ?_; rintro e w3 ⟨rfl, hb3⟩; have hb23 := good_below hb2 hb3)
      | (go_at_call 45; go_must (refine c0.mono ?_; rintro e w2 ⟨rfl, hb2⟩)))
    go_ret2
    exact ⟨⟨_, rfl, OwnChanges.mono (HE.out w3) hb23.size⟩, hb23.alloc hb23.size _⟩
  rw [hB] at c1
  have cm0 := fun W (hW : Below w.heap.size w W) => specMergeR (w := W) (fun b hb => Nat.lt_of_lt_of_le (hS b hb) hW.size) (h0.keep (cells_below hS hW)) hA
  have cm1 := fun W (hW : Below w.heap.size w W) => specMergeR (w := W) (fun b hb => Nat.lt_of_lt_of_le (hS b hb) hW.size) (h1.keep (cells_below hS hW)) hB
  have hsa := laid_short hA
  have hsb := laid_short hB
  have hla := laid_len hA
  have hlb := laid_len hB
  have hrw : rightW l0 l1 l2 = l2.all (pathB nameOK) := by unfold rightW; rw [hA, hB]; rfl
  rw [hrw]
  obtain ⟨oa, hoa⟩ : ∃ oa, laidF (overP l0) = oa := ⟨_, rfl⟩
  obtain ⟨ob, hob⟩ : ∃ ob, laidF (overP l1) = ob := ⟨_, rfl⟩
  rw [hoa] at cm0 hsa hla ⊢
  rw [hob] at cm1 hsb hlb ⊢
  have HSA : Hid (∀ o ∈ oa, o.path.size ≤ 205) := hsa
  have HSB : Hid (∀ o ∈ ob, o.path.size ≤ 205) := hsb
  have hla' : (oa.length : Int) ≤ 2000 := by omega
  have hlb' : (ob.length : Int) ≤ 2000 := by omega
  obtain ⟨PL, hPL⟩ : ∃ PL, (if l2.all (pathB nameOK) = true then changesF oa ob l2 else []) = PL := ⟨_, rfl⟩
  obtain ⟨PC, hPC⟩ : ∃ PC : Int, (if l2.all (pathB nameOK) = true then 0 else 1) = PC := ⟨_, rfl⟩
  rw [hPL, hPC]
  have HPL : Hid ((if l2.all (pathB nameOK) = true then changesF oa ob l2 else []) = PL) := hPL
  have HPC : Hid ((if l2.all (pathB nameOK) = true then (0 : Int) else 1) = PC) := hPC
  have HT2 : Hid (TxtsAt S w v2 l2) := h2
  have HOK2 : Hid (∀ x ∈ l2, TxtsOK 1048576 x) := hok2
  have HS : Hid (∀ b, S b → b < w.heap.size) := hS
  subst hv0 hv1 hv2
  clear h0 h1 h2 hok0 hok1 hok2 hS hA hB hsa hsb hrw hoa hob hPL hPC
  go_enter Tryz.func23, Tryz.ntmps23
  go_wp2_with (first
    | (go_at_call 45; have hchk := hb2; refine (c1 _ hb2).mono ?_; rintro e w3 ⟨rfl, hb3⟩; have hb23 := good_below hb2 hb3)
    | (go_at_call 45; go_must (refine c0.mono ?_; rintro e w2 ⟨rfl, hb2⟩)))
  clear c0 c1 hb2 hb3 hchk
  go_loopw [8] (fun i8 wr => ∃ (k : Nat), i8 = .int .i64 (k : Int) ∧ k ≤ l2.length ∧ (∀ i (h : i < l2.length), i < k → pathB nameOK l2[i] = true) ∧ Below w.heap.size w wr) (fun i8 _ => l2.length - (intOf i8).toNat)
  case atStart => exact ⟨0, rfl, by omega, fun i _ h => by omega, hb23⟩
  case round =>
    obtain ⟨k, rfl, hk, hall, hb⟩ := hrel
    have HAL : Hid (∀ i (h : i < l2.length), i < k → pathB nameOK l2[i] = true) := hall
    clear hall
    by_cases hkn : k < l2.length
    · have hkn' : (k : Int) < (l2.length : Int) := by omega
      obtain ⟨_, ta, tc, htv, hcell⟩ := HT2.out
      simp only [Value.slice.injEq] at htv
      obtain ⟨rfl, -, rfl⟩ := htv
      obtain ⟨b, off, rfl, hbS, hcell⟩ := hcell (by omega)
      have hbw := HS.out b hbS
      have d0 := (hb.cell (p := ⟨b, off + k, none⟩) hbw).trans (hcell k hkn)
      have hz := HOK2.out l2[k] (List.getElem_mem hkn)
      have hnn : pathB nameOK l2[k] = true → ∀ i (h : i < l2.length), i < k + 1 → pathB nameOK l2[i] = true := fun h0 i hi hik => by
        by_cases e : i = k
        · subst e; exact h0
        · exact HAL.out i hi (by omega)
      have hbd : pathB nameOK l2[k] = false → l2.all (pathB nameOK) = false := fun h0 => by
        rw [List.all_eq_false]; exact ⟨l2[k], List.getElem_mem hkn, by rw [h0]; simp⟩
      obtain ⟨x, hx⟩ : ∃ x, l2[k] = x := ⟨_, rfl⟩
      rw [hx] at d0 hz hnn hbd
      unfold TxtsOK at hz
      have cp := specPath nameSpec x (by simp [maxLen]; omega) wr
      have HNN : Hid (pathB nameOK x = true → ∀ i (h : i < l2.length), i < k + 1 → pathB nameOK l2[i] = true) := hnn
      have HBD : Hid (pathB nameOK x = false → l2.all (pathB nameOK) = false) := hbd
      obtain ⟨F, hF⟩ : ∃ F, pathB nameOK x = F := ⟨_, rfl⟩
      rw [hF] at cp
      have HF : Hid (pathB nameOK x = F) := hF
      clear hx hz hnn hbd hF hcell
      cases F
      · go_wp2_with (go_at_call 60; go_must (refine cp.mono ?_; rintro e w4 ⟨rfl, hb4⟩))
        go_ret2
        have hb4' := good_below hb hb4
        have e1 := HBD.out HF.out
        have hp1 := HPL.out
        have hp2 := HPC.out
        rw [e1, if_neg (by simp)] at hp1 hp2
        subst hp1 hp2
        exact ⟨⟨_, rfl, OwnChanges.mono (HE.out w4) hb4'.size⟩, hb4'.alloc hb4'.size _⟩
      · go_wp2_with (go_at_call 60; go_must (refine cp.mono ?_; rintro e w4 ⟨rfl, hb4⟩))
        exact ⟨⟨k + 1, rfl, by omega, HNN.out HF.out, good_below hb hb4⟩, by simp [intOf]; omega⟩
    · obtain rfl : k = l2.length := by omega
      have hkn' : ¬ ((l2.length : Int) < (l2.length : Int)) := by omega
      have hall : l2.all (pathB nameOK) = true := by
        rw [List.all_eq_true]
        intro x hx
        obtain ⟨i, hi, rfl⟩ := List.getElem_of_mem hx
        exact HAL.out i hi hi
      have hps : ∀ q ∈ l2, q.size ≤ 205 := fun q hq => path_short (List.all_eq_true.1 hall q hq)
      have HPS : Hid (∀ q ∈ l2, q.size ≤ 205) := hps
      have hp1 := HPL.out
      have hp2 := HPC.out
      rw [hall, if_pos rfl] at hp1 hp2
      have HP1 : Hid (changesF oa ob l2 = PL) := hp1
      subst hp2
      clear hall hps hp1 HPL HPC HAL hkn'
      obtain ⟨wq, hwq⟩ : ∃ wq, wq = wr := ⟨_, rfl⟩
      subst hwq
      have hkn' : ¬ ((l2.length : Int) < (l2.length : Int)) := by omega
      go_wp2_with (first
        | (go_at_call 46; have hchk := hb5; refine (cm1 _ hb5').mono ?_; rintro e w6 ⟨⟨pb, rfl, how6⟩, hb6⟩; have hb6' := good_below hb5' hb6; have how56 := OwnSettings.below how5 hb6; obtain ⟨ba, bc, hbv, -⟩ := how6.value; subst hbv)
        | (go_at_call 46; go_must (refine (cm0 _ hb).mono ?_; rintro e w5 ⟨⟨pa, rfl, how5⟩, hb5⟩; have hb5' := good_below hb hb5; obtain ⟨aa, ac, hav, -⟩ := how5.value; subst hav)))
      clear cm0 cm1 hb5 hb5' hb6 how5 hb23 hb hchk
      obtain ⟨_, _, hva, -, hca⟩ := how56.value
      simp only [Value.slice.injEq] at hva
      obtain ⟨rfl, -, rfl⟩ := hva
      obtain ⟨_, _, hvb, -, hcb⟩ := how6.value
      simp only [Value.slice.injEq] at hvb
      obtain ⟨rfl, -, rfl⟩ := hvb
      have HCA : Hid (0 < oa.length → ∃ g, aa = some ⟨g, 0, none⟩ ∧ wq.heap.size ≤ g ∧ g < w6.heap.size ∧ ∀ j (hj : j < oa.length), w6.cell? ⟨g, j * 3, none⟩ = some (.string oa[j].path) ∧ w6.cell? ⟨g, j * 3 + 1, none⟩ = some (.string oa[j].text) ∧ w6.cell? ⟨g, j * 3 + 2, none⟩ = some (.string oa[j].from')) := hca
      have HCB : Hid (0 < ob.length → ∃ g, ba = some ⟨g, 0, none⟩ ∧ w5.heap.size ≤ g ∧ g < w6.heap.size ∧ ∀ j (hj : j < ob.length), w6.cell? ⟨g, j * 3, none⟩ = some (.string ob[j].path) ∧ w6.cell? ⟨g, j * 3 + 1, none⟩ = some (.string ob[j].text) ∧ w6.cell? ⟨g, j * 3 + 2, none⟩ = some (.string ob[j].from')) := hcb
      have HAA : Hid (SettingsAt (fun b => b < w6.heap.size) w6 (.slice aa oa.length ac) oa) := how56.at.mono (fun b hb => hb.2)
      have HBB : Hid (SettingsAt (fun b => b < w6.heap.size) w6 (.slice ba ob.length bc) ob) := how6.at.mono (fun b hb => hb.2)
      have HB6 : Hid (Below w.heap.size w w6) := hb6'
      have HTE : Hid (OwnTxts w6.heap.size (w6.alloc (.cells #[] 9)) (.slice (some ⟨w6.heap.size, 0, none⟩) 0 0) []) := OwnTxts.empty w6.heap.size w6 (Nat.le_refl _)
      clear hca hcb how56 how6 hb6'
      go_loopw [11, 12] (fun i11 i12 wr => ∃ (k : Nat) (ta : Option Addr) (tc : Nat), i12 = .int .i64 (k : Int) ∧ i11 = .slice ta k tc ∧ k ≤ oa.length ∧ OwnTxts w6.heap.size wr (.slice ta k tc) ((oa.map Setting.path).take k) ∧ Below w6.heap.size w6 wr) (fun _ i12 _ => oa.length - (intOf i12).toNat)
      case atStart => exact ⟨0, _, 0, rfl, rfl, by omega, HTE.out, (Below.refl _ w6).alloc (Nat.le_refl _) _⟩
      case round =>
        obtain ⟨k, ta, tc, rfl, rfl, hk, hown, hb⟩ := hrel
        have HOW : Hid (OwnTxts w6.heap.size wr (.slice ta k tc) ((oa.map Setting.path).take k)) := hown
        have HBR : Hid (Below w6.heap.size w6 wr) := hb
        have hbs := hb.size
        clear hown
        by_cases hkn : k < oa.length
        · have hkn' : (k : Int) < (oa.length : Int) := by omega
          obtain ⟨g, rfl, -, hg, hcell⟩ := HCA.out (by omega)
          have d0 := (hb.cell (p := ⟨g, k * 3, none⟩) hg).trans (hcell k hkn).1
          have htk : (oa.map Setting.path).take (k + 1) = (oa.map Setting.path).take k ++ [oa[k].path] := by
            rw [List.take_succ_eq_append_getElem (by simpa using hkn)]
            simp
          obtain ⟨x, hx⟩ : ∃ x, oa[k].path = x := ⟨_, rfl⟩
          rw [hx] at d0 htk
          have HTK : Hid ((oa.map Setting.path).take (k + 1) = (oa.map Setting.path).take k ++ [x]) := htk
          clear hx htk hcell
          go_wp2_with (at_builtin; go_must (refine wpList_appendTxts rfl (.tmp 67) (.tmp 73) rfl w6.heap.size (.slice ta k tc) ((oa.map Setting.path).take k) rfl (OwnTxts.below HOW.out ((Below.refl _ wr).alloc (Nat.le_refl _) _)) _ [x] rfl (TxtsAt.newAt _ x _ (by simp)) (by simp <;> omega) (by simp only [World.size_alloc]; omega) ?_; intro v9 w9 hown9 hB9 hgr9 hnil9; obtain ⟨a9, c9, e9, -⟩ := hown9.value; have hl9 : ((oa.map Setting.path).take k ++ [x]).length = k + 1 := (by simp <;> omega); rw [hl9] at e9; subst e9))
          exact ⟨⟨k + 1, a9, c9, by go_num, rfl, by omega, by rw [HTK.out]; exact hown9, (HBR.out.alloc hbs _).trans hB9⟩, by simp [intOf]; omega⟩
        · obtain rfl : k = oa.length := by omega
          have hkn' : ¬ ((oa.length : Int) < (oa.length : Int)) := by omega
          have hown0 := HOW.out
          rw [List.take_of_length_le (by simp)] at hown0
          have HOW0 : Hid (OwnTxts w6.heap.size wr (.slice ta oa.length tc) (oa.map Setting.path)) := hown0
          clear hown0 HOW hb
          obtain ⟨w7, hw7⟩ : ∃ w7, w7 = wr := ⟨_, rfl⟩
          subst hw7
          go_wp2_with fail
          go_loopw [11, 13] (fun i11 i13 wx => ∃ (j : Nat) (ua : Option Addr) (uc : Nat), i13 = .int .i64 (j : Int) ∧ i11 = .slice ua (oa.length + j) uc ∧ j ≤ ob.length ∧ OwnTxts w6.heap.size wx (.slice ua (oa.length + j) uc) (oa.map Setting.path ++ (ob.map Setting.path).take j) ∧ Below w6.heap.size w6 wx) (fun _ i13 _ => ob.length - (intOf i13).toNat)
          case atStart => exact ⟨0, ta, tc, rfl, rfl, by omega, by simpa using HOW0.out, HBR.out⟩
          case round =>
            obtain ⟨j, ua, uc, rfl, rfl, hj, hown, hb⟩ := hrel
            have HOW : Hid (OwnTxts w6.heap.size wr (.slice ua (oa.length + j) uc) (oa.map Setting.path ++ (ob.map Setting.path).take j)) := hown
            have HBR2 : Hid (Below w6.heap.size w6 wr) := hb
            have hbs2 := hb.size
            clear hown
            by_cases hjn : j < ob.length
            · have hjn' : (j : Int) < (ob.length : Int) := by omega
              obtain ⟨g, rfl, -, hg, hcell⟩ := HCB.out (by omega)
              have d0 := (hb.cell (p := ⟨g, j * 3, none⟩) hg).trans (hcell j hjn).1
              have htk : oa.map Setting.path ++ (ob.map Setting.path).take (j + 1) = (oa.map Setting.path ++ (ob.map Setting.path).take j) ++ [ob[j].path] := by
                rw [List.take_succ_eq_append_getElem (by simpa using hjn), List.append_assoc]
                simp
              obtain ⟨x, hx⟩ : ∃ x, ob[j].path = x := ⟨_, rfl⟩
              rw [hx] at d0 htk
              have HTK : Hid (oa.map Setting.path ++ (ob.map Setting.path).take (j + 1) = (oa.map Setting.path ++ (ob.map Setting.path).take j) ++ [x]) := htk
              clear hx htk hcell
              go_wp2_with (at_builtin; go_must (refine wpList_appendTxts rfl (.tmp 81) (.tmp 87) rfl w6.heap.size (.slice ua (oa.length + j) uc) (oa.map Setting.path ++ (ob.map Setting.path).take j) rfl (OwnTxts.below HOW.out ((Below.refl _ wr).alloc (Nat.le_refl _) _)) _ [x] rfl (TxtsAt.newAt _ x _ (by simp)) (by simp <;> omega) (by simp only [World.size_alloc]; omega) ?_; intro v9 w9 hown9 hB9 hgr9 hnil9; obtain ⟨a9, c9, e9, -⟩ := hown9.value; have hl9 : ((oa.map Setting.path ++ (ob.map Setting.path).take j) ++ [x]).length = oa.length + (j + 1) := (by simp <;> omega); rw [hl9] at e9; subst e9))
              exact ⟨⟨j + 1, a9, c9, by go_num, rfl, by omega, by rw [HTK.out]; exact hown9, (HBR2.out.alloc hbs2 _).trans hB9⟩, by simp [intOf]; omega⟩
            · obtain rfl : j = ob.length := by omega
              have hjn' : ¬ ((ob.length : Int) < (ob.length : Int)) := by omega
              have hown0 := HOW.out
              rw [List.take_of_length_le (by simp)] at hown0
              have cs := specSort hown0.toS (by simp; omega)
              have hbl := both_len oa ob
              have hbs0 := both_short HSA.out HSB.out
              have hchF : changesF oa ob l2 = (bothPaths oa ob).filterMap (chg oa ob l2) := rfl
              unfold bothPaths at hbl hbs0 hchF
              obtain ⟨AL, hAL⟩ : ∃ AL, sortB (oa.map Setting.path ++ ob.map Setting.path) = AL := ⟨_, rfl⟩
              rw [hAL] at cs hbl hbs0 hchF
              have HP2 : Hid (AL.filterMap (chg oa ob l2) = PL) := hchF.symm.trans HP1.out
              have HSH : Hid (∀ p ∈ AL, p.size ≤ 205) := hbs0
              have hal' : (AL.length : Int) ≤ 4000 := by omega
              clear hown0 hAL hbs0 hchF HOW HP1 HOW0
              obtain ⟨w8, hw8⟩ : ∃ w8, w8 = wr := ⟨_, rfl⟩
              subst hw8
              go_wp2_with (go_at_call 50; go_must (refine cs.mono ?_; rintro e w9 ⟨⟨ps, rfl, hos⟩, hb9⟩; have hot := hos.toT; obtain ⟨sa, sc, hsv, -, hsc⟩ := hot.value; subst hsv; clear hos hot))
              have HSC : Hid (0 < AL.length → ∃ g, sa = some ⟨g, 0, none⟩ ∧ w8.heap.size ≤ g ∧ g < w9.heap.size ∧ ∀ j (hj : j < AL.length), w9.cell? ⟨g, j, none⟩ = some (.string AL[j])) := hsc
              have hb69 := good_below HBR2.out hb9
              have HB9 : Hid (Below w6.heap.size w6 w9) := hb69
              clear cs hsc hb9 hb
              go_loopw [14, 15] (fun i14 i15 wr => ∃ (k : Nat) (oa2 : Option Addr) (oc2 : Nat) (out : List Change), i15 = .int .i64 (k : Int) ∧ i14 = .slice oa2 out.length oc2 ∧ k ≤ AL.length ∧ out = (AL.take k).filterMap (chg oa ob l2) ∧ OwnChanges w9.heap.size wr (.slice oa2 out.length oc2) out ∧ Below w9.heap.size w9 wr) (fun _ i15 _ => AL.length - (intOf i15).toNat)
              case atStart => exact ⟨0, _, 0, [], rfl, rfl, by omega, rfl, HE.out w9, (Below.refl _ w9).alloc (Nat.le_refl _) _⟩
              case round =>
                obtain ⟨k, oa2, oc2, out, rfl, rfl, hk, hout, hown, hb⟩ := hrel
                have HOW : Hid (OwnChanges w9.heap.size wr (.slice oa2 out.length oc2) out) := hown
                have HOUT : Hid (out = (AL.take k).filterMap (chg oa ob l2)) := hout
                have HBR3 : Hid (Below w9.heap.size w9 wr) := hb
                have hol : out.length ≤ 4000 := by
                  have := filterMap_len (chg oa ob l2) (AL.take k)
                  rw [← hout, List.length_take] at this
                  omega
                clear hown hout
                by_cases hkn : k < AL.length
                · have hkn' : (k : Int) < (AL.length : Int) := by omega
                  obtain ⟨g, rfl, -, hg, hcell⟩ := HSC.out (by omega)
                  have hpc := hcell k hkn
                  have hps := HSH.out AL[k] (List.getElem_mem hkn)
                  have htk : (AL.take (k + 1)).filterMap (chg oa ob l2) = (AL.take k).filterMap (chg oa ob l2) ++ (match chg oa ob l2 AL[k] with | some c => [c] | none => []) := by
                    rw [List.take_succ_eq_append_getElem hkn, List.filterMap_append]
                    congr 1
                    simp only [List.filterMap_cons, List.filterMap_nil]
                    cases chg oa ob l2 AL[k] <;> rfl
                  obtain ⟨p, hp⟩ : ∃ p, AL[k] = p := ⟨_, rfl⟩
                  rw [hp] at hpc hps htk
                  have HPC : Hid (w9.cell? ⟨g, k, none⟩ = some (.string p)) := hpc
                  have HPZ : Hid (p.size ≤ 205) := hps
                  have HTK : Hid ((AL.take (k + 1)).filterMap (chg oa ob l2) = (AL.take k).filterMap (chg oa ob l2) ++ (match chg oa ob l2 p with | some c => [c] | none => [])) := htk
                  clear hcell hpc hps htk hp hb hb69
                  obtain ⟨wA, hwA⟩ : ∃ wA, wA = wr := ⟨_, rfl⟩
                  subst hwA
                  go_wp2_with fail
                  go_loopw [16, 17] (fun i16 i17 wz => ∃ (j : Nat), i17 = .int .i64 (j : Int) ∧ i16 = .bool ((l2.take j).any (fun q => withinB p q)) ∧ j ≤ l2.length ∧ Below w9.heap.size w9 wz ∧ OwnChanges w9.heap.size wz (.slice oa2 out.length oc2) out) (fun _ i17 _ => l2.length - (intOf i17).toNat)
                  case atStart => exact ⟨0, rfl, rfl, by omega, HBR3.out, HOW.out⟩
                  case round =>
                    obtain ⟨j, rfl, rfl, hj, hb, how⟩ := hrel
                    have HBR4 : Hid (Below w9.heap.size w9 wr) := hb
                    have HOW4 : Hid (OwnChanges w9.heap.size wr (.slice oa2 out.length oc2) out) := how
                    clear how
                    by_cases hjn : j < l2.length
                    · have hjn' : (j : Int) < (l2.length : Int) := by omega
                      obtain ⟨_, ta, tc, htv, hcell⟩ := HT2.out
                      simp only [Value.slice.injEq] at htv
                      obtain ⟨rfl, -, rfl⟩ := htv
                      obtain ⟨b, off, rfl, hbS, hcell⟩ := hcell (by omega)
                      have hbw := HS.out b hbS
                      have hb0 := good_below (good_below HB6.out HB9.out) hb
                      have d0 := (hb0.cell (p := ⟨b, off + j, none⟩) hbw).trans (hcell j hjn)
                      have d1 := (hb.cell (p := ⟨g, k, none⟩) hg).trans HPC.out
                      have hqz := HPS.out l2[j] (List.getElem_mem hjn)
                      have htk : (l2.take (j + 1)).any (fun q => withinB p q) = ((l2.take j).any (fun q => withinB p q) || withinB p l2[j]) := by
                        rw [List.take_succ_eq_append_getElem hjn, List.any_append]; simp
                      obtain ⟨q, hq⟩ : ∃ q, l2[j] = q := ⟨_, rfl⟩
                      rw [hq] at d0 hqz htk
                      obtain ⟨s, hs⟩ : ∃ s, (l2.take j).any (fun q => withinB p q) = s := ⟨_, rfl⟩
                      rw [hs] at htk ⊢
                      have HTJ : Hid ((l2.take (j + 1)).any (fun q => withinB p q) = (s || withinB p q)) := htk
                      have HQZ : Hid (q.size ≤ 205) := hqz
                      clear hcell hqz htk hq hs hb0 hb
                      go_upto_region 30 with fail
                      cases s
                      · have cw := fun w => specWithinQ' p q HPZ.out HQZ.out w
                        obtain ⟨F, hF⟩ : ∃ F, withinB p q = F := ⟨_, rfl⟩
                        rw [hF] at cw HTJ
                        clear hF
                        go_quiet ((go_at_call 61; exact Calls.quiet_of_same (cw _)))
                        go_wp2_with fail
                        exact ⟨⟨j + 1, by go_num, by rw [HTJ.out]; rfl, by omega, bel_drewN HBR4.out nq, OwnChanges.below HOW4.out (bel_drewN (Below.refl _ wr) nq)⟩, by simp [intOf]; omega⟩
                      · go_quiet (fail)
                        go_wp2_with fail
                        exact ⟨⟨j + 1, by go_num, by rw [HTJ.out]; rfl, by omega, bel_drewN HBR4.out nq, OwnChanges.below HOW4.out (bel_drewN (Below.refl _ wr) nq)⟩, by simp [intOf]; omega⟩
                    · obtain rfl : j = l2.length := by omega
                      have hjn' : ¬ ((l2.length : Int) < (l2.length : Int)) := by omega
                      have hse : (l2.take l2.length).any (fun q => withinB p q) = seenB l2 p := by rw [List.take_length]; rfl
                      rw [hse]
                      have hbz := good_below HB9.out hb
                      have hbzs := hbz.size
                      have hbs9 := hb.size
                      have d1 := (hb.cell (p := ⟨g, k, none⟩) hg).trans HPC.out
                      have ct0 := fun W (hW : Below w6.heap.size w6 W) => specText (w := W) (fun b hb => Nat.lt_of_lt_of_le hb hW.size) (HAA.out.keep (cells_below (fun b hb => hb) hW)) p
                      have ct1 := fun W (hW : Below w6.heap.size w6 W) => specText (w := W) (fun b hb => Nat.lt_of_lt_of_le hb hW.size) (HBB.out.keep (cells_below (fun b hb => hb) hW)) p
                      obtain ⟨x, hx⟩ : ∃ x, textOf oa p = x := ⟨_, rfl⟩
                      obtain ⟨y, hy⟩ : ∃ y, textOf ob p = y := ⟨_, rfl⟩
                      obtain ⟨sn, hsn⟩ : ∃ sn, seenB l2 p = sn := ⟨_, rfl⟩
                      have hch : chg oa ob l2 p = if sn && !(x.toList == y.toList) then some ⟨p, x, y⟩ else none := by unfold chg; rw [hx, hy, hsn]
                      rw [hx] at ct0
                      rw [hy] at ct1
                      rw [hsn]
                      have HCH : Hid (chg oa ob l2 p = if sn && !(x.toList == y.toList) then some ⟨p, x, y⟩ else none) := hch
                      clear hch hx hy hsn hse
                      obtain ⟨wz, hwz⟩ : ∃ wz, wz = wr := ⟨_, rfl⟩
                      subst hwz
                      have HBZ : Hid (Below w6.heap.size w6 wz) := hbz
                      have hgz : g < wz.heap.size := by omega
                      have HOW5 : Hid (OwnChanges w9.heap.size wz (.slice oa2 out.length oc2) out) := HOW4.out
                      clear hbz hb HOW HBR3 HOW4 hbzs
                      by_cases hgo : (sn && !(x.toList == y.toList)) = true
                      · have hch := HCH.out
                        rw [if_pos hgo] at hch
                        have htk := HTK.out
                        rw [hch, ← HOUT.out] at htk
                        have HTK2 : Hid ((AL.take (k + 1)).filterMap (chg oa ob l2) = out ++ [⟨p, x, y⟩]) := htk
                        simp only [Bool.and_eq_true, Bool.not_eq_true'] at hgo
                        obtain ⟨rfl, hne⟩ := hgo
                        clear hch htk HTK HCH
                        go_wp2_with (first
                          | (go_at_call 62; have hchk := ht1; refine (ct1 _ (good_below HBZ.out ht1)).mono ?_; rintro e wt2 ⟨rfl, ht2⟩; have ht12 := good_below ht1 ht2; have d1 := (ht12.cell (p := ⟨g, k, none⟩) hgz).trans d1; have hs12 := ht12.size)
                          | (go_at_call 62; go_must (refine (ct0 _ HBZ.out).mono ?_; rintro e wt1 ⟨rfl, ht1⟩; have hs1' := ht1.size; have d1' := (ht1.cell (p := ⟨g, k, none⟩) hgz).trans d1))
                          | (at_builtin; go_must (refine wpList_appendChanges rfl (.tmp 134) (.tmp 142) rfl w9.heap.size (.slice oa2 out.length oc2) out rfl (OwnChanges.below HOW5.out (ht12.alloc (by omega) _)) _ [⟨p, x, y⟩] rfl (ChangesAt.newAt _ p x y _ (by simp)) (by simp <;> omega) (by simp only [World.size_alloc]; omega) ?_; intro vA wB hownB hBB hgrB hnilB; obtain ⟨aB, cB, eB, -⟩ := hownB.value; have hlB : (out ++ [(⟨p, x, y⟩ : Change)]).length = out.length + 1 := (by simp); rw [hlB] at eB; subst eB)))
                        exact ⟨⟨k + 1, aB, cB, out ++ [⟨p, x, y⟩], by go_num, by simp, by omega, HTK2.out.symm, by simpa using hownB, ((HBR4.out.trans (ht12.mono (by omega))).alloc (by omega) _).trans hBB⟩, by simp [intOf]; omega⟩
                      · have hch := HCH.out
                        rw [if_neg hgo] at hch
                        have htk := HTK.out
                        rw [hch, List.append_nil, ← HOUT.out] at htk
                        have HTK2 : Hid ((AL.take (k + 1)).filterMap (chg oa ob l2) = out) := htk
                        clear hch htk HTK HCH
                        cases sn
                        · clear hgo
                          go_wp2_with (first
                            | (go_at_call 62; have hchk := ht1; refine (ct1 _ (good_below HBZ.out ht1)).mono ?_; rintro e wt2 ⟨rfl, ht2⟩; have ht12 := good_below ht1 ht2)
                            | (go_at_call 62; go_must (refine (ct0 _ HBZ.out).mono ?_; rintro e wt1 ⟨rfl, ht1⟩; have hs1' := ht1.size; have d1' := (ht1.cell (p := ⟨g, k, none⟩) hgz).trans d1)))
                          exact ⟨⟨k + 1, oa2, oc2, out, by go_num, rfl, by omega, HTK2.out.symm, OwnChanges.below HOW5.out ht12, HBR4.out.trans (ht12.mono hbs9)⟩, by simp [intOf]; omega⟩
                        · have heq : (x.toList == y.toList) = true := by simpa using hgo
                          clear hgo
                          go_wp2_with (first
                            | (go_at_call 62; have hchk := ht1; refine (ct1 _ (good_below HBZ.out ht1)).mono ?_; rintro e wt2 ⟨rfl, ht2⟩; have ht12 := good_below ht1 ht2)
                            | (go_at_call 62; go_must (refine (ct0 _ HBZ.out).mono ?_; rintro e wt1 ⟨rfl, ht1⟩; have hs1' := ht1.size; have d1' := (ht1.cell (p := ⟨g, k, none⟩) hgz).trans d1)))
                          exact ⟨⟨k + 1, oa2, oc2, out, by go_num, rfl, by omega, HTK2.out.symm, OwnChanges.below HOW5.out ht12, HBR4.out.trans (ht12.mono hbs9)⟩, by simp [intOf]; omega⟩
                · obtain rfl : k = AL.length := by omega
                  have hkn' : ¬ ((AL.length : Int) < (AL.length : Int)) := by omega
                  have hout := HOUT.out
                  rw [List.take_length, HP2.out] at hout
                  subst hout
                  go_wp2_with fail
                  go_ret2
                  exact ⟨⟨_, rfl, OwnChanges.mono HOW.out (good_below HB6.out HB9.out).size⟩, good_below (good_below HB6.out HB9.out) HBR3.out⟩
end Go.Proofs.YtoopdcbgnccmiaaGreatDoor
