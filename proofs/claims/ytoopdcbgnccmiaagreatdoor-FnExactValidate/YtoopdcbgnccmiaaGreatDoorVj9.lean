/-
  spec.l08Merge: its walk. What spec's l08Text and Watch answer. What spec's Watch answers: its walk. Right rules; the contracts of spec.l08Rules and l08Rule. DERIVED: THE SHELF's CONTRACTS AT THIS DUMP, IN PLAIN WORDS (tools/lay-plain.mjs out of 'TryzShelf3.lean', which tools/lay-shelf.mjs wrote): THE SAME DECLARATIONS UNDER THE SAME NAMES: 'import', 'namespace', 'open', 'def', 'theorem' AND NOTHING ELSE: no command of the shelf's: FOR A HAND-IN. Each laying: the table of numbers ('.._ren') and one theorem, a field a fact of the dump's own or the kernel's comparison; each contract: ONE APPLICATION. No statement of the seat is proved here.
-/
import Derived.Test.YtoopdcbgnccmiaaGreatDoorVj8
import Derived.Shelf.SlMaps.Clone
import Derived.Ground.SlmcProg
import Derived.Test.YtoopdcbgnccmiaaGreatDoorProg
namespace Go.Proofs.YtoopdcbgnccmiaaGreatDoor
open Go.ChangeShapes Go.WideShapes Go.ChangeAt Go.RowKit
set_option linter.unusedVariables false

theorem specWithinQ (p q : ByteArray) (hp : p.size ≤ 100000) (hq : q.size ≤ 100000) (w : World) :
    Calls Tryz.prog 61 #[.string p, .string q] w fun e w' => e = .returned (.bool (withinB p q)) ∧ w' = w :=
  (specWithin p q hp hq w).mono fun e w' h => ⟨h.1, h.2.symm⟩
theorem meet_then {J K' : Act → World → Prop} {Q' : Exit → Act → World → Prop} {a : Act} {w : World} (h : ∀ a' w', Met J a' w' → K' a' w') (hm : Met J a w) : Exit.then K' Q' .normal a w := h a w hm
/-- A layer's entries lie there, and are short. -/
def LaySmall (S : Nat → Prop) (w : World) (x : LayV) : Prop := EntrysAt S w x.nv x.x.entries ∧ x.x.entries.length ≤ 100 ∧ ∀ e ∈ x.x.entries, e.path.size ≤ 205

set_option maxRecDepth 100000 in
set_option maxHeartbeats 16000000 in
theorem specMergeL {S : Nat → Prop} {lv : List LayV} {v : Value} {w : World} (hS : ∀ b, S b → b < w.heap.size) (h : LayVsAt S w v lv) (hone : LayVsOne lv) (hsm : ∀ x ∈ lv, LaySmall S w x) (hl : lv.length ≤ 20) :
    Calls Tryz.prog 46 #[v] w fun e w' => (∃ p, e = .returned p ∧ OwnSettings w.heap.size w' p (laidF ((overF lv).map (·.x)))) ∧ Below w.heap.size w w' := by
  have c26 := specOver hS h hone (fun x hx => (by obtain ⟨a, c, hq⟩ := (hsm x hx).1.shape; exact ⟨a, _, c, hq⟩)) hl
  have hsm2 : ∀ x ∈ overF lv, LaySmall S w x := fun x hx => hsm x (over_mem hx)
  have hll := over_len lv
  obtain ⟨LV, hLV⟩ : ∃ LV, overF lv = LV := ⟨_, rfl⟩
  rw [hLV] at c26 hsm2 hll ⊢
  obtain ⟨a, cap, hv⟩ := h.shape
  subst hv
  have HS : Hid (∀ b, S b → b < w.heap.size) := hS
  have HSM : Hid (∀ x ∈ LV, LaySmall S w x) := hsm2
  have hL20 : (LV.length : Int) ≤ 20 := by omega
  unfold laidF
  obtain ⟨F, hF⟩ : ∃ F, (LV.map (·.x)).foldl layLayer [] = F := ⟨_, rfl⟩
  have HF : Hid ((LV.map (·.x)).foldl layLayer [] = F) := hF
  rw [hF]
  clear hF hS h hone hsm hsm2 hll hLV
  go_enter Tryz.func46, Tryz.ntmps46
  go_upto_region 2 with (go_at_call 87; go_must (refine c26.mono ?_; rintro e w1 ⟨⟨p, rfl, hown⟩, hb1⟩; obtain ⟨pa, pc, rfl, -, hpc⟩ := hown.value))
  have HPC : Hid (0 < LV.length → ∃ g, pa = some ⟨g, 0, none⟩ ∧ w.heap.size ≤ g ∧ g < w1.heap.size ∧ ∀ j (hj : j < LV.length), w1.cell? ⟨g, j * 3, none⟩ = some (.string LV[j].x.name) ∧ w1.cell? ⟨g, j * 3 + 1, none⟩ = some (.int .i64 LV[j].x.rank) ∧ w1.cell? ⟨g, j * 3 + 2, none⟩ = some (LV[j].nv)) := hpc
  have HB1 : Hid (Below w.heap.size w w1) := hb1
  have HE : Hid (OwnSettings w1.heap.size (w1.alloc (.cells #[] 81)) (.slice (some ⟨w1.heap.size, 0, none⟩) 0 0) []) := OwnSettings.empty w1.heap.size w1 (Nat.le_refl _)
  clear hpc hown c26 hb1
  go_wp2_with fail
  go_loopw [4, 5] (fun i4 i5 wr => ∃ (k : Nat) (oa : Option Addr) (oc : Nat) (out : List Setting), i5 = .int .i64 (k : Int) ∧ i4 = .slice oa out.length oc ∧ k ≤ LV.length ∧ out.length ≤ k * 100 ∧ OwnSettings w1.heap.size wr (.slice oa out.length oc) out ∧ (∀ o ∈ out, o.path.size ≤ 205) ∧ ((LV.drop k).map (·.x)).foldl layLayer out = F ∧ Below w1.heap.size w1 wr) (fun _ i5 _ => LV.length - (intOf i5).toNat)
  case atStart => exact ⟨0, some ⟨w1.heap.size, 0, none⟩, 0, [], rfl, rfl, by omega, by simp, HE.out, fun x hx => (by cases hx), HF.out, (Below.refl _ w1).alloc (Nat.le_refl _) _⟩
  case round =>
    obtain ⟨k, oa, oc, out, rfl, rfl, hk, hol, hown, hsml, hfold, hb⟩ := hrel
    have HOW : Hid (OwnSettings w1.heap.size wr (.slice oa out.length oc) out) := hown
    have HFO : Hid (((LV.drop k).map (·.x)).foldl layLayer out = F) := hfold
    have HSL : Hid (∀ o ∈ out, o.path.size ≤ 205) := hsml
    have HBL : Hid (Below w1.heap.size w1 wr) := hb
    clear hfold hsml hown
    by_cases hkn : k < LV.length
    · have hkn' : (k : Int) < (LV.length : Int) := by omega
      obtain ⟨gl, rfl, -, hgl, hcell⟩ := HPC.out (by omega)
      obtain ⟨c0, -, c2⟩ := hcell k hkn
      have hnx : ((LV.drop (k + 1)).map (·.x)).foldl layLayer (layLayer out LV[k].x) = F := by
        have := HFO.out
        rw [List.drop_eq_getElem_cons hkn, List.map_cons, List.foldl_cons] at this
        exact this
      have hxs := HSM.out LV[k] (List.getElem_mem hkn)
      obtain ⟨x, hx⟩ : ∃ x, LV[k] = x := ⟨_, rfl⟩
      rw [hx] at c0 c2 hnx hxs
      obtain ⟨⟨xn, xr, es⟩, xv⟩ := x
      obtain ⟨hes, hel, hep⟩ := hxs
      dsimp only at c0 c2 hes hel hep
      obtain ⟨ea, ec, hxv⟩ := hes.shape
      subst hxv
      unfold layLayer at hnx
      dsimp only at hnx
      obtain ⟨G, hG⟩ : ∃ G, es.foldl (layStep xn) out = G := ⟨_, rfl⟩
      have HG : Hid (es.foldl (layStep xn) out = G) := hG
      have HNX : Hid (((LV.drop (k + 1)).map (·.x)).foldl layLayer G = F) := (show ((LV.drop (k + 1)).map (·.x)).foldl layLayer G = F by rw [← hG]; exact hnx)
      have C0 : Hid (w1.cell? ⟨gl, k * 3, none⟩ = some (.string xn)) := c0
      have C2 : Hid (w1.cell? ⟨gl, k * 3 + 2, none⟩ = some (.slice ea es.length ec)) := c2
      have HES : Hid (EntrysAt S w (.slice ea es.length ec) es) := hes
      have HEP : Hid (∀ e ∈ es, e.path.size ≤ 205) := hep
      have hel' : (es.length : Int) ≤ 100 := by omega
      clear hnx hG hx hcell c0 c2 hes hep HFO
      go_wp2_with fail
      go_loopw [4, 6] (fun i4 i6 wx => ∃ (m : Nat) (oa2 : Option Addr) (oc2 : Nat) (ou : List Setting), i6 = .int .i64 (m : Int) ∧ i4 = .slice oa2 ou.length oc2 ∧ m ≤ es.length ∧ ou.length ≤ k * 100 + m ∧ OwnSettings w1.heap.size wx (.slice oa2 ou.length oc2) ou ∧ (∀ o ∈ ou, o.path.size ≤ 205) ∧ (es.drop m).foldl (layStep xn) ou = G ∧ Below w1.heap.size w1 wx) (fun _ i6 _ => es.length - (intOf i6).toNat)
      case atStart => exact ⟨0, oa, oc, out, rfl, rfl, by omega, by omega, HOW.out, HSL.out, HG.out, hb⟩
      case round =>
        obtain ⟨m, oa2, oc2, ou, rfl, rfl, hm, hou, hown2, hsml2, hfold2, hb2⟩ := hrel
        obtain ⟨wM, hwM⟩ : ∃ wM, wM = wr := ⟨_, rfl⟩
        subst hwM
        have HOW2 : Hid (OwnSettings w1.heap.size wM (.slice oa2 ou.length oc2) ou) := hown2
        have HFO2 : Hid ((es.drop m).foldl (layStep xn) ou = G) := hfold2
        have HSL2 : Hid (∀ o ∈ ou, o.path.size ≤ 205) := hsml2
        have HB2 : Hid (Below w1.heap.size w1 wM) := hb2
        have d0 := (hb2.cell (p := ⟨gl, k * 3, none⟩) hgl).trans C0.out
        have d2 := (hb2.cell (p := ⟨gl, k * 3 + 2, none⟩) hgl).trans C2.out
        clear hfold2 hsml2 hown2
        by_cases hmn : m < es.length
        · have hmn' : (m : Int) < (es.length : Int) := by omega
          obtain ⟨_, ea', ec', huv, huc⟩ := HES.out
          simp only [Value.slice.injEq] at huv
          obtain ⟨rfl, -, rfl⟩ := huv
          obtain ⟨eb, eo, rfl, heS, hecell⟩ := huc (by omega)
          have hew := HS.out eb heS
          obtain ⟨p0, p1⟩ := hecell m hmn
          have hbw := HB1.out.trans (HB2.out.mono HB1.out.size)
          have q0 := (hbw.cell (p := ⟨eb, eo + m * 2, none⟩) hew).trans p0
          have q1 := (hbw.cell (p := ⟨eb, eo + m * 2 + 1, none⟩) hew).trans p1
          have hnx2 : (es.drop (m + 1)).foldl (layStep xn) (layStep xn ou es[m]) = G := by
            have := HFO2.out
            rw [List.drop_eq_getElem_cons hmn, List.foldl_cons] at this
            exact this
          have hyp := HEP.out es[m] (List.getElem_mem hmn)
          obtain ⟨y, hy⟩ : ∃ y, es[m] = y := ⟨_, rfl⟩
          rw [hy] at q0 q1 hnx2 hyp
          obtain ⟨yp, yt⟩ := y
          dsimp only at q0 q1 hyp
          have HNX2 : Hid ((es.drop (m + 1)).foldl (layStep xn) (layStep xn ou ⟨yp, yt⟩) = G) := hnx2
          obtain ⟨ge, hge⟩ : ∃ ge, wM.heap.size = ge := ⟨_, rfl⟩
          clear hnx2 hy p0 p1 hecell huc HFO2 hbw
          go_upto_region 10 with fail
          have hbA : Blk (wM.alloc (.cells #[.string yp, .string yt] 137)) ge 137 #[.string yp, .string yt] := by rw [← hge]; exact heap_alloc_last wM _
          have hbMA : Below wM.heap.size wM (wM.alloc (.cells #[.string yp, .string yt] 137)) := (Below.refl _ wM).alloc (Nat.le_refl _) _
          obtain ⟨wA, hwA⟩ : ∃ wA, wM.alloc (.cells #[.string yp, .string yt] 137) = wA := ⟨_, rfl⟩
          rw [hwA] at hbA hbMA ⊢
          have HBA : Hid (Blk wA ge 137 #[.string yp, .string yt]) := hbA
          have HBWA : Hid (Below w1.heap.size w1 wA) := good_below HB2.out hbMA
          have howA := OwnSettings.below HOW2.out hbMA
          obtain ⟨_, _, hve, -, hoc⟩ := howA.value
          simp only [Value.slice.injEq] at hve
          obtain ⟨rfl, -, rfl⟩ := hve
          have HOC : Hid (0 < ou.length → ∃ g, oa2 = some ⟨g, 0, none⟩ ∧ w1.heap.size ≤ g ∧ g < wA.heap.size ∧ ∀ j (hj : j < ou.length), wA.cell? ⟨g, j * 3, none⟩ = some (.string ou[j].path) ∧ wA.cell? ⟨g, j * 3 + 1, none⟩ = some (.string ou[j].text) ∧ wA.cell? ⟨g, j * 3 + 2, none⟩ = some (.string ou[j].from')) := hoc
          have HE2 : Hid (OwnSettings wA.heap.size (wA.alloc (.cells #[] 81)) (.slice (some ⟨wA.heap.size, 0, none⟩) 0 0) []) := OwnSettings.empty wA.heap.size wA (Nat.le_refl _)
          have hbE : Below wA.heap.size wA (wA.alloc (.cells #[] 81)) := (Below.refl _ wA).alloc (Nat.le_refl _) _
          have hk1 : out.length ≤ 2000 := by omega
          have hou2 : ou.length ≤ 2000 := by omega
          have hou' : (ou.length : Int) ≤ 2000 := by omega
          clear hbA hbMA hoc howA hwA hge d0 d2 q0 q1 hb2 hk1
          obtain ⟨sA, hsA⟩ : ∃ sA, wA.heap.size = sA := ⟨_, rfl⟩
          go_upto_region 11 with fail
          rw [hsA] at HE2
          obtain ⟨wE, hwE⟩ : ∃ wE, wA.alloc (.cells #[] 81) = wE := ⟨_, rfl⟩
          rw [hwE] at hbE HE2 ⊢
          have hbk := Blk.below HBA.out hbE
          have e0 := hbk.cell 0
          have e1 := hbk.cell 1
          simp at e0 e1
          have HBE : Hid (Below wA.heap.size wA wE) := hbE
          clear hbE hwE hbk
          go_wp2_with fail
          go_loopw [8, 9, 10] (fun i8 i9 i10 wx => ∃ (j : Nat) (ra : Option Addr) (rc : Nat) (r : List Setting) (p : Bool), i10 = .int .i64 (j : Int) ∧ i8 = .slice ra r.length rc ∧ i9 = .bool p ∧ j ≤ ou.length ∧ restUp ou ⟨yp, yt⟩ xn j = (r, p) ∧ OwnSettings wA.heap.size wx (.slice ra r.length rc) r ∧ Below wA.heap.size wA wx) (fun _ _ i10 _ => ou.length - (intOf i10).toNat)
          case atStart => exact ⟨0, some ⟨sA, 0, none⟩, 0, [], (yt.toList == [126]), rfl, rfl, rfl, by omega, rfl, (by rw [hsA]; exact HE2.out), HBE.out⟩
          case round =>
            obtain ⟨j, ra, rc, r, p, rfl, rfl, rfl, hj, hup, hownr, hB⟩ := hrel
            have HUP : Hid (restUp ou ⟨yp, yt⟩ xn j = (r, p)) := hup
            have hrl : r.length ≤ j + 1 := by
              have := restUp_len (out := ou) (e := ⟨yp, yt⟩) (nm := xn) j
              rw [hup] at this
              cases p <;> simp at this <;> omega
            have HOR : Hid (OwnSettings wA.heap.size wr (.slice ra r.length rc) r) := hownr
            have HBr : Hid (Below wA.heap.size wA wr) := hB
            have hbk := Blk.below HBA.out hB
            have e0 := hbk.cell 0
            have e1 := hbk.cell 1
            simp at e0 e1
            have hbx := good_below HBWA.out hB
            have d0 := (hbx.cell (p := ⟨gl, k * 3, none⟩) hgl).trans C0.out
            have hsAr := hB.size
            clear hup hownr hbk hsA
            by_cases hjn : j < ou.length
            · have hjn' : (j : Int) < (ou.length : Int) := by omega
              obtain ⟨go, rfl, -, hgo, hoc⟩ := HOC.out (by omega)
              obtain ⟨o0, o1, o2⟩ := hoc j hjn
              have hos := HSL2.out ou[j] (List.getElem_mem hjn)
              have hoj : ou[j]? = some ou[j] := List.getElem?_eq_getElem hjn
              obtain ⟨o, ho⟩ : ∃ o, ou[j] = o := ⟨_, rfl⟩
              rw [ho] at o0 o1 o2 hos hoj
              obtain ⟨op, ot, of⟩ := o
              dsimp only at o0 o1 o2 hos
              have HOJ : Hid (ou[j]? = some ⟨op, ot, of⟩) := hoj
              have O0 : Hid (wA.cell? ⟨go, j * 3, none⟩ = some (.string op)) := o0
              have O1 : Hid (wA.cell? ⟨go, j * 3 + 1, none⟩ = some (.string ot)) := o1
              have O2 : Hid (wA.cell? ⟨go, j * 3 + 2, none⟩ = some (.string of)) := o2
              have z0 := (hB.cell (p := ⟨go, j * 3, none⟩) hgo).trans o0
              have hs1 : op.size ≤ 100000 := by omega
              have hs2 : yp.size ≤ 100000 := by omega
              clear hoj ho hoc o0 o1 o2 e1 d0
              go_upto_region 15 with fail
              go_cut [65] from 48 to 66 (fun s65 wx => s65 = .bool (hits ⟨op, ot, of⟩ ⟨yp, yt⟩) ∧ Below wr.heap.size wr wx)
              case first =>
                have HHI : Hid (hits ⟨op, ot, of⟩ ⟨yp, yt⟩ = (withinB op yp || withinB yp op)) := (show hits ⟨op, ot, of⟩ ⟨yp, yt⟩ = (withinB op yp || withinB yp op) from rfl)
                have HS1 : Hid (op.size ≤ 100000) := hs1
                have HS2 : Hid (yp.size ≤ 100000) := hs2
                clear HUP hrl HOR HBr HBA HBWA HOC HE2 HNX2 HB2 HSL2 HOW2 HBE hbx hsAr C0 C2 HES HEP hel HNX HG HBL HSL HOW HPC HB1 HE HS HSM HF O1 O2 HOJ hos hs1 hs2
                by_cases hA1 : withinB op yp = true
                · have c1 := fun w => specWithinQ op yp HS1.out HS2.out w
                  rw [hA1] at c1 HHI
                  clear hA1
                  go_quiet ((go_at_call 61; exact Calls.quiet_of_same (c1 _)))
                  refine meet_then (by assumption) ?_
                  go_meet
                  exact ⟨by rw [HHI.out]; rfl, bel_drewN (Below.refl _ wr) nq⟩
                · have hH1 : withinB op yp = false := by simpa using hA1
                  clear hA1
                  have cw := fun (p q : ByteArray) (w : World) (hp : p.size ≤ 100000) (hq : q.size ≤ 100000) => specWithinQ p q hp hq w
                  cases hH2 : withinB yp op
                  · go_quiet ((go_at_call 61; exact Calls.quiet_of_same (cw _ _ _ (by first | exact HS1.out | exact HS2.out) (by first | exact HS2.out | exact HS1.out))))
                    refine meet_then (by assumption) ?_
                    go_meet
                    exact ⟨by rw [HHI.out, hH1, hH2]; rfl, bel_drewN (Below.refl _ wr) nq⟩
                  · go_quiet ((go_at_call 61; exact Calls.quiet_of_same (cw _ _ _ (by first | exact HS1.out | exact HS2.out) (by first | exact HS2.out | exact HS1.out))))
                    refine meet_then (by assumption) ?_
                    go_meet
                    exact ⟨by rw [HHI.out, hH1, hH2]; rfl, bel_drewN (Below.refl _ wr) nq⟩
              case rest =>
                obtain ⟨rfl, hb15⟩ := hcut
                obtain ⟨w15, hw15⟩ : ∃ w15, w15 = wc := ⟨_, rfl⟩
                subst hw15
                have HB15 : Hid (Below wA.heap.size wA w15) := good_below HBr.out hb15
                have HOR15 : Hid (OwnSettings wA.heap.size w15 (.slice ra r.length rc) r) := OwnSettings.below HOR.out hb15
                clear e0 z0 hB hbx hb15 HOR HBr hsAr
                cases hh : hits ⟨op, ot, of⟩ ⟨yp, yt⟩
                · have HH : Hid (hits ⟨op, ot, of⟩ ⟨yp, yt⟩ = false) := hh
                  have hbk := Blk.below HBA.out HB15.out
                  have e0 := hbk.cell 0
                  simp at e0
                  have z0 := (HB15.out.cell (p := ⟨go, j * 3, none⟩) hgo).trans O0.out
                  clear hbk hh
                  go_upto_region 16 with fail
                  go_cut [77] from 66 to 78 (fun s77 wx => s77 = .bool (!p && Go.Op.bytesLess yp.toList op.toList) ∧ Below w15.heap.size w15 wx)
                  case first =>
                    cases p
                    · cases hless : Go.Op.bytesLess yp.toList op.toList
                      · go_quiet (fail)
                        refine meet_then (by assumption) ?_
                        go_meet
                        exact ⟨by rw [hless]; rfl, bel_drewN (Below.refl _ w15) nq⟩
                      · go_quiet (fail)
                        refine meet_then (by assumption) ?_
                        go_meet
                        exact ⟨by rw [hless]; rfl, bel_drewN (Below.refl _ w15) nq⟩
                    · go_quiet (fail)
                      refine meet_then (by assumption) ?_
                      go_meet
                      exact ⟨rfl, bel_drewN (Below.refl _ w15) nq⟩
                  case rest =>
                    obtain ⟨rfl, hb16⟩ := hcut
                    obtain ⟨w16, hw16⟩ : ∃ w16, w16 = wc := ⟨_, rfl⟩
                    subst hw16
                    have hB16 := good_below HB15.out hb16
                    have HB16 : Hid (Below wA.heap.size wA w16) := hB16
                    have HOR16 : Hid (OwnSettings wA.heap.size w16 (.slice ra r.length rc) r) := OwnSettings.below HOR15.out hb16
                    have hsA16 := hB16.size
                    clear e0 z0 hb16 HOR15
                    cases hq : (!p && Go.Op.bytesLess yp.toList op.toList)
                    · have HQ : Hid ((!p && Go.Op.bytesLess yp.toList op.toList) = false) := hq
                      have z0 := (hB16.cell (p := ⟨go, j * 3, none⟩) hgo).trans O0.out
                      have z1 := (hB16.cell (p := ⟨go, j * 3 + 1, none⟩) hgo).trans O1.out
                      have z2 := (hB16.cell (p := ⟨go, j * 3 + 2, none⟩) hgo).trans O2.out
                      clear hq
                      go_wp2_with (at_builtin; go_must (refine wpList_appendSettings rfl (.tmp 91) (.tmp 96) rfl wA.heap.size (.slice ra r.length rc) r rfl (OwnSettings.below HOR16.out ((Below.refl _ w16).alloc (Nat.le_refl _) _)) (.slice (some ⟨w16.heap.size, 0, none⟩) 1 1) [⟨op, ot, of⟩] rfl (SettingsAt.new w16 op ot of) (by simp; omega) (by simp; omega) ?_; intro v4 w4 hown4 hB4 hgr4 hnil4; obtain ⟨a4, c4, rfl, -⟩ := hown4.value))
                      exact ⟨⟨j + 1, a4, c4, r ++ [⟨op, ot, of⟩], p, by go_num, by simp, rfl, by omega, restUp_keep HUP.out HOJ.out HH.out HQ.out, hown4, (HB16.out.alloc hsA16 _).trans hB4⟩, by simp [intOf]; omega⟩
                    · have hp : p = false := by cases p <;> simp_all
                      subst hp
                      have HLS : Hid (Go.Op.bytesLess yp.toList op.toList = true) := (show Go.Op.bytesLess yp.toList op.toList = true by simpa using hq)
                      have hbk := Blk.below HBA.out hB16
                      have e0 := hbk.cell 0
                      have e1 := hbk.cell 1
                      simp at e0 e1
                      have d0 := ((good_below HBWA.out hB16).cell (p := ⟨gl, k * 3, none⟩) hgl).trans C0.out
                      obtain ⟨r2, hr2⟩ : ∃ r2, r ++ [(⟨yp, yt, xn⟩ : Setting)] = r2 := ⟨_, rfl⟩
                      have hr2l : r2.length ≤ j + 2 := by rw [← hr2]; simp; omega
                      have HR2 : Hid (r ++ [(⟨yp, yt, xn⟩ : Setting)] = r2) := hr2
                      clear hq hbk hr2
                      go_upto_region 17 with fail
                      go_region_law (refine step_appendSettings rfl (.tmp 78) (.tmp 89) rfl wA.heap.size (.slice ra r.length rc) r (by simp [Act.eval]) (OwnSettings.below HOR16.out (((Below.refl _ w16).alloc (Nat.le_refl _) _).drew)) (.slice (some ⟨w16.heap.size, 0, none⟩) 1 1) [⟨yp, yt, xn⟩] (by simp [Act.eval]) ((SettingsAt.new w16 yp yt xn).keep (fun b i _ => rfl)) (by simp; omega) (by simp; omega) ?_; intro va vn vc w5 hown5 hB5 hgr5 hnil5; rw [HR2.out] at hown5; obtain ⟨a5, c5, e5, -⟩ := hown5.value; simp only [Value.slice.injEq] at e5; obtain ⟨rfl, rfl, rfl⟩ := e5; have hB5' := ((HB16.out.alloc hsA16 (.cells #[.string yp, .string yt, .string xn] 81)).drew).trans hB5)
                      all_goals
                        have z0 := (hB5'.cell (p := ⟨go, j * 3, none⟩) hgo).trans O0.out
                        have z1 := (hB5'.cell (p := ⟨go, j * 3 + 1, none⟩) hgo).trans O1.out
                        have z2 := (hB5'.cell (p := ⟨go, j * 3 + 2, none⟩) hgo).trans O2.out
                        have hs5 := hB5'.size
                        have HB5 : Hid (Below wA.heap.size wA w5) := hB5'
                        have HOR5 : Hid _ := hown5
                        clear hown5 hB5 hB5' hnil5 hgr5
                        go_wp2_with (at_builtin; go_must (refine wpList_appendSettings rfl (.tmp 91) (.tmp 96) rfl wA.heap.size _ r2 rfl (OwnSettings.below HOR5.out ((Below.refl _ w5).alloc (Nat.le_refl _) _)) (.slice (some ⟨w5.heap.size, 0, none⟩) 1 1) [⟨op, ot, of⟩] rfl (SettingsAt.new w5 op ot of) (by simp; omega) (by simp; omega) ?_; intro v4 w4 hown4 hB4 hgr4 hnil4; obtain ⟨a4, c4, rfl, -⟩ := hown4.value))
                        exact ⟨⟨j + 1, a4, c4, r2 ++ [⟨op, ot, of⟩], true, by go_num, by simp, rfl, by omega, (by rw [← HR2.out]; exact restUp_put HUP.out HOJ.out HH.out HLS.out), hown4, (HB5.out.alloc hs5 _).trans hB4⟩, by simp [intOf]; omega⟩
                · have HH : Hid (hits ⟨op, ot, of⟩ ⟨yp, yt⟩ = true) := hh
                  clear hh
                  go_wp2_with fail
                  exact ⟨⟨j + 1, ra, rc, r, p, by go_num, rfl, rfl, by omega, restUp_hit HUP.out HOJ.out HH.out, HOR15.out, HB15.out⟩, by simp [intOf]; omega⟩
            · obtain rfl : j = ou.length := by omega
              have hjn' : ¬ ((ou.length : Int) < (ou.length : Int)) := by omega
              have hyn : (newS ⟨yp, yt⟩ xn).path.size ≤ 205 := hyp
              have hmem := layStep_mem (P := fun o => o.path.size ≤ 205) HSL2.out hyn
              have hlen := layStep_len (nm := xn) (out := ou) (e := ⟨yp, yt⟩)
              cases p
              · have hst := layStep_end HUP.out
                rw [hst] at hmem hlen
                have HNX3 : Hid ((es.drop (m + 1)).foldl (layStep xn) (r ++ [newS ⟨yp, yt⟩ xn]) = G) := (show (es.drop (m + 1)).foldl (layStep xn) (r ++ [newS ⟨yp, yt⟩ xn]) = G by rw [← hst]; exact HNX2.out)
                have HMEM : Hid (∀ o ∈ r ++ [newS ⟨yp, yt⟩ xn], o.path.size ≤ 205) := hmem
                have HLEN : Hid ((r ++ [newS ⟨yp, yt⟩ xn]).length ≤ ou.length + 1) := hlen
                clear hmem hlen hst hyn
                go_upto_region 21 with fail
                go_region_law (refine step_appendSettings rfl (.tmp 100) (.tmp 111) rfl wA.heap.size (.slice ra r.length rc) r (by simp [Act.eval]) (OwnSettings.below HOR.out (((Below.refl _ wr).alloc (Nat.le_refl _) _).drew)) (.slice (some ⟨wr.heap.size, 0, none⟩) 1 1) [newS ⟨yp, yt⟩ xn] (by simp [Act.eval]) ((SettingsAt.new wr yp yt xn).keep (fun b i _ => rfl)) (by simp; omega) (by simp; omega) ?_; intro va vn vc w5 hown5 hB5 hgr5 hnil5; obtain ⟨a5, c5, e5, -⟩ := hown5.value; simp only [Value.slice.injEq] at e5; obtain ⟨rfl, rfl, rfl⟩ := e5; have hB5' := ((HBr.out.alloc hsAr (.cells #[.string yp, .string yt, .string xn] 81)).drew).trans hB5)
                all_goals
                  go_wp2_with fail
                  exact ⟨⟨m + 1, _, _, r ++ [newS ⟨yp, yt⟩ xn], by go_num, by simp, by omega, by have := HLEN.out; omega, OwnSettings.mono hown5 HBWA.out.size, HMEM.out, HNX3.out, good_below HBWA.out hB5'⟩, by simp [intOf]; omega⟩
              · have hst := layStep_put HUP.out
                rw [hst] at hmem hlen
                have HNX3 : Hid ((es.drop (m + 1)).foldl (layStep xn) r = G) := (show (es.drop (m + 1)).foldl (layStep xn) r = G by rw [← hst]; exact HNX2.out)
                have HMEM : Hid (∀ o ∈ r, o.path.size ≤ 205) := hmem
                have HLEN : Hid (r.length ≤ ou.length + 1) := hlen
                clear hmem hlen hst hyn
                go_wp2_with fail
                exact ⟨⟨m + 1, ra, rc, r, by go_num, rfl, by omega, by have := HLEN.out; omega, OwnSettings.mono HOR.out HBWA.out.size, HMEM.out, HNX3.out, hbx⟩, by simp [intOf]; omega⟩
        · obtain rfl : m = es.length := by omega
          have hmn' : ¬ ((es.length : Int) < (es.length : Int)) := by omega
          have hG := HFO2.out
          simp at hG
          have HNX3 : Hid (((LV.drop (k + 1)).map (·.x)).foldl layLayer ou = F) := (show ((LV.drop (k + 1)).map (·.x)).foldl layLayer ou = F by rw [hG]; exact HNX.out)
          clear hG
          go_wp2_with fail
          exact ⟨⟨k + 1, oa2, oc2, ou, by go_num, rfl, by omega, by omega, HOW2.out, HSL2.out, HNX3.out, HB2.out⟩, by simp [intOf]; omega⟩
    · obtain rfl : k = LV.length := by omega
      have hkn' : ¬ ((LV.length : Int) < (LV.length : Int)) := by omega
      have hfin := HFO.out
      simp at hfin
      subst hfin
      go_wp2_with fail
      go_ret
      exact ⟨⟨_, rfl, OwnSettings.mono HOW.out HB1.out.size⟩, good_below HB1.out HBL.out⟩
end Go.Proofs.YtoopdcbgnccmiaaGreatDoor

namespace Go.Proofs.YtoopdcbgnccmiaaGreatDoor
open Go.ChangeShapes Go.WideShapes Go.ChangeAt Go.RowKit
set_option linter.unusedVariables false

theorem look_hit {l : List Setting} {p : ByteArray} {k : Nat} (hk : k < l.length) (h : ∀ i (hi : i < l.length), i < k → (l[i].path.toList == p.toList) = false) (h1 : (l[k].path.toList == p.toList) = true) : textOf l p = l[k].text := by
  unfold textOf lookS
  have : l.find? (fun s => s.path.toList == p.toList) = some l[k] := by
    rw [List.find?_eq_some_iff_getElem]
    exact ⟨h1, k, hk, rfl, fun j hj => by rw [h j (by omega) hj]; rfl⟩
  rw [this]
theorem look_miss {l : List Setting} {p : ByteArray} (h : ∀ i (hi : i < l.length), (l[i].path.toList == p.toList) = false) : textOf l p = ⟨#[]⟩ := by
  unfold textOf lookS
  have : l.find? (fun s => s.path.toList == p.toList) = none := by
    rw [List.find?_eq_none]
    intro s hs
    obtain ⟨i, hi, rfl⟩ := List.getElem_of_mem hs
    rw [h i hi]; simp
  rw [this]
set_option maxRecDepth 100000 in
set_option maxHeartbeats 1000000 in
theorem specText {S : Nat → Prop} {l : List Setting} {v : Value} {w : World} (hS : ∀ b, S b → b < w.heap.size) (h : SettingsAt S w v l) (p : ByteArray) :
    Calls Tryz.prog 62 #[v, .string p] w fun e w' => e = .returned (.string (textOf l p)) ∧ Below w.heap.size w w' := by
  obtain ⟨hlm, a, cap, rfl, hc⟩ := h
  have HC : Hid _ := hc
  have HS : Hid (∀ b, S b → b < w.heap.size) := hS
  have hlm' : (l.length : Int) ≤ 9223372036854775807 := by simp [maxLen] at hlm; omega
  clear hc hS hlm
  go_enter Tryz.func62, Tryz.ntmps62
  go_wp2_with fail
  go_loopw [5] (fun i5 wr => ∃ (k : Nat), i5 = .int .i64 (k : Int) ∧ k ≤ l.length ∧ (∀ i (h : i < l.length), i < k → (l[i].path.toList == p.toList) = false) ∧ Below w.heap.size w wr) (fun i5 _ => l.length - (intOf i5).toNat)
  case atStart => exact ⟨0, rfl, by omega, fun i _ h => by omega, Below.refl _ _⟩
  case round =>
    obtain ⟨k, rfl, hk, hno, hb⟩ := hrel
    have HN : Hid (∀ i (h : i < l.length), i < k → (l[i].path.toList == p.toList) = false) := hno
    clear hno
    by_cases hkn : k < l.length
    · have hkn' : (k : Int) < (l.length : Int) := by omega
      obtain ⟨b, off, rfl, hbS, hcell⟩ := HC.out (by omega)
      have hbw := HS.out b hbS
      obtain ⟨c0, c1, c2⟩ := hcell k hkn
      have d0 := (hb.cell (p := ⟨b, off + k * 3, none⟩) hbw).trans c0
      have d1 := (hb.cell (p := ⟨b, off + k * 3 + 1, none⟩) hbw).trans c1
      have hht := fun h1 => look_hit (p := p) hkn HN.out h1
      have hnn : (l[k].path.toList == p.toList) = false → ∀ i (h : i < l.length), i < k + 1 → (l[i].path.toList == p.toList) = false := fun h0 i hi hik => by
        by_cases e : i = k
        · subst e; exact h0
        · exact HN.out i hi (by omega)
      obtain ⟨x, hx⟩ : ∃ x, l[k] = x := ⟨_, rfl⟩
      rw [hx] at d0 d1 hht hnn
      obtain ⟨xp, xt, xf⟩ := x
      dsimp only at d0 d1 hht hnn
      have HHT : Hid ((xp.toList == p.toList) = true → textOf l p = xt) := hht
      have HNN : Hid ((xp.toList == p.toList) = false → ∀ i (h : i < l.length), i < k + 1 → (l[i].path.toList == p.toList) = false) := hnn
      clear hx hht hnn c0 c1 c2 hcell
      cases hq : (xp.toList == p.toList)
      · go_wp2_with fail
        exact ⟨⟨k + 1, rfl, by omega, HNN.out hq, hb⟩, by simp [intOf]; omega⟩
      · go_wp2_with fail
        go_ret
        exact ⟨by rw [HHT.out hq]; rfl, hb⟩
    · obtain rfl : k = l.length := by omega
      have hkn' : ¬ ((l.length : Int) < (l.length : Int)) := by omega
      go_wp2_with fail
      go_ret
      exact ⟨by rw [look_miss (fun i hi => HN.out i hi hi)]; rfl, hb⟩

theorem nameSpec : NameSpec nameOK := fun s w => specNameOK s w
/-- What spec's l08Merge makes of right layers. -/
theorem specMergeR {S : Nat → Prop} {l : List Layer} {v : Value} {w : World} (hS : ∀ b, S b → b < w.heap.size) (h : LayersAt S w v l) (hB : layersB nameOK l = true) :
    Calls Tryz.prog 46 #[v] w fun e w' => (∃ p, e = .returned p ∧ OwnSettings w.heap.size w' p (laidF (overP l))) ∧ Below w.heap.size w w' := by
  obtain ⟨f1, f2, f3⟩ := layers_fine hB
  obtain ⟨lv, hlv, hat, hen⟩ := layers_lv h
  have hone : LayVsOne lv := fun y hy => by
    obtain ⟨ya, yc, hq⟩ := (hen y hy).shape
    rw [hq]; rfl
  have hsm : ∀ y ∈ lv, LaySmall S w y := fun y hy => by
    have := f3 y.x (by rw [← hlv]; exact List.mem_map.2 ⟨y, hy, rfl⟩)
    exact ⟨hen y hy, this.1, this.2⟩
  have hl20 : lv.length ≤ 20 := by rw [← hlv, List.length_map] at f1; exact f1
  have cm := specMergeL hS hat hone hsm hl20
  have hpl := over_plain lv
  rw [hlv] at hpl
  rw [hpl] at cm
  exact cm
end Go.Proofs.YtoopdcbgnccmiaaGreatDoor

namespace Go.Proofs.YtoopdcbgnccmiaaGreatDoor
open Go.ChangeShapes Go.WideShapes Go.ChangeAt Go.RowKit
set_option linter.unusedVariables false

theorem laySteps_short (nm : ByteArray) : ∀ (es : List Entry) (out : List Setting), (∀ e ∈ es, e.path.size ≤ 205) → (∀ o ∈ out, o.path.size ≤ 205) → ∀ o ∈ es.foldl (layStep nm) out, o.path.size ≤ 205
  | [], out, _, h => h
  | e :: es, out, he, h => by
    rw [List.foldl_cons]
    exact laySteps_short nm es _ (fun y hy => he y (List.mem_cons_of_mem _ hy)) (layStep_mem (P := fun o => o.path.size ≤ 205) h (he e (List.mem_cons_self ..)))
theorem laidFold_short : ∀ (l : List Layer) (out : List Setting), (∀ x ∈ l, ∀ e ∈ x.entries, e.path.size ≤ 205) → (∀ o ∈ out, o.path.size ≤ 205) → ∀ o ∈ l.foldl layLayer out, o.path.size ≤ 205
  | [], out, _, h => h
  | x :: l, out, hx, h => by
    rw [List.foldl_cons]
    exact laidFold_short l _ (fun y hy => hx y (List.mem_cons_of_mem _ hy)) (laySteps_short x.name x.entries out (hx x (List.mem_cons_self ..)) h)
theorem laid_short {l : List Layer} (h : layersB nameOK l = true) : ∀ o ∈ laidF (overP l), o.path.size ≤ 205 :=
  laidFold_short (overP l) [] (fun x hx => ((layers_fine h).2.2 x (overP_mem hx)).2) (fun o ho => by cases ho)
theorem both_short {a b : List Setting} (ha : ∀ o ∈ a, o.path.size ≤ 205) (hb : ∀ o ∈ b, o.path.size ≤ 205) : ∀ p ∈ bothPaths a b, p.size ≤ 205 := fun p hp => by
  rcases (both_mem a b p).1 hp with ⟨s, hs, rfl⟩ | ⟨s, hs, rfl⟩
  · exact ha s hs
  · exact hb s hs
theorem path_short {p : ByteArray} (h : pathB nameOK p = true) : p.size ≤ 205 := by
  unfold pathB at h
  simp only [Bool.and_eq_true, decide_eq_true_eq] at h
  exact h.1.1
theorem ChangesAt.newAt (w : World) (x y z : ByteArray) (g : Nat) (hg : w.heap.size = g) : ChangesAt (fun b => b = g) (w.alloc (.cells #[.string x, .string y, .string z] 113)) (.slice (some ⟨g, 0, none⟩) 1 1) [⟨x, y, z⟩] := by
  subst hg; exact ChangesAt.new w x y z
theorem specWithinQ' (p q : ByteArray) (hp : p.size ≤ 205) (hq : q.size ≤ 205) (w : World) :
    Calls Tryz.prog 61 #[.string p, .string q] w fun e w' => e = .returned (.bool (withinB p q)) ∧ w' = w := specWithinQ p q (by omega) (by omega) w
set_option maxRecDepth 100000 in
set_option maxHeartbeats 16000000 in
theorem specWatch (T : World → Prop) : WatchC 23 T watchL watchC := by
  intro S l0 l1 l2 v0 v1 v2 w hS h0 hl0 hok0 h1 hl1 hok1 h2 hl2 hok2 hT
  clear hT
  obtain ⟨a0, cap0, hv0⟩ := h0.shape
  obtain ⟨a1, cap1, hv1⟩ := h1.shape
  obtain ⟨a2, cap2, hv2⟩ := h2.shape
  have m0 : (l0.length : Int) ≤ 1048576 := by omega
  have m1 : (l1.length : Int) ≤ 1048576 := by omega
  have m2 : (l2.length : Int) ≤ 1048576 := by omega
  unfold watchL watchC
  have hE : ∀ W : World, OwnChanges W.heap.size (W.alloc (.cells #[] 113)) (.slice (some ⟨W.heap.size, 0, none⟩) 0 0) [] := fun W => OwnChanges.empty W.heap.size W (Nat.le_refl _)
  have HE : Hid (∀ W : World, OwnChanges W.heap.size (W.alloc (.cells #[] 113)) (.slice (some ⟨W.heap.size, 0, none⟩) 0 0) []) := hE
  clear hE
  by_cases b0 : 4096 < l0.length
  · have b0' : (4096 : Int) < (l0.length : Int) := by omega
    have elw : longW l0 l1 l2 = true := by simp [longW, b0]
    simp only [elw, ↓reduceIte]
    clear elw
    subst hv0 hv1 hv2
    clear h0 h1 h2 hok0 hok1 hok2 hS
    go_enter Tryz.func23, Tryz.ntmps23
    go_wp2_with fail
    go_ret2
    exact ⟨⟨_, rfl, HE.out w⟩, (Below.refl _ w).alloc (Nat.le_refl _) _⟩
  by_cases b1 : 4096 < l1.length
  · have b0' : ¬ ((4096 : Int) < (l0.length : Int)) := by omega
    have b1' : (4096 : Int) < (l1.length : Int) := by omega
    have elw : longW l0 l1 l2 = true := by simp [longW, b1]
    simp only [elw, ↓reduceIte]
    clear elw
    subst hv0 hv1 hv2
    clear h0 h1 h2 hok0 hok1 hok2 hS
    go_enter Tryz.func23, Tryz.ntmps23
    go_wp2_with fail
    go_ret2
    exact ⟨⟨_, rfl, HE.out w⟩, (Below.refl _ w).alloc (Nat.le_refl _) _⟩
  by_cases b2 : 4096 < l2.length
  · have b0' : ¬ ((4096 : Int) < (l0.length : Int)) := by omega
    have b1' : ¬ ((4096 : Int) < (l1.length : Int)) := by omega
    have b2' : (4096 : Int) < (l2.length : Int) := by omega
    have elw : longW l0 l1 l2 = true := by simp [longW, b2]
    simp only [elw, ↓reduceIte]
    clear elw
    subst hv0 hv1 hv2
    clear h0 h1 h2 hok0 hok1 hok2 hS
    go_enter Tryz.func23, Tryz.ntmps23
    go_wp2_with fail
    go_ret2
    exact ⟨⟨_, rfl, HE.out w⟩, (Below.refl _ w).alloc (Nat.le_refl _) _⟩
  have b0' : ¬ ((4096 : Int) < (l0.length : Int)) := by omega
  have b1' : ¬ ((4096 : Int) < (l1.length : Int)) := by omega
  have b2' : ¬ ((4096 : Int) < (l2.length : Int)) := by omega
  have elw : longW l0 l1 l2 = false := by unfold longW; rw [decide_eq_false b0, decide_eq_false b1, decide_eq_false b2]; rfl
  simp only [elw, Bool.false_eq_true, ↓reduceIte]
  clear elw
  have c0 := specLayers nameSpec hS h0 hok0
  have c1 := fun W (hW : Below w.heap.size w W) => specLayers (w := W) nameSpec (fun b hb => Nat.lt_of_lt_of_le (hS b hb) hW.size) (h1.keep (cells_below hS hW)) hok1
  cases hA : layersB nameOK l0
  · rw [hA] at c0
    have erw : rightW l0 l1 l2 = false := by simp [rightW, hA]
    simp only [erw, Bool.false_eq_true, ↓reduceIte]
    clear erw
    subst hv0 hv1 hv2
    clear h0 h1 h2 hok0 hok1 hok2 hS c1 hA
    go_enter Tryz.func23, Tryz.ntmps23
    go_wp2_with (go_at_call 45; go_must (refine c0.mono ?_; rintro e w2 ⟨rfl, hb2⟩))
    go_ret2
    exact ⟨⟨_, rfl, OwnChanges.mono (HE.out w2) hb2.size⟩, hb2.alloc hb2.size _⟩
  rw [hA] at c0
  cases hB : layersB nameOK l1
  · rw [hB] at c1
    have erw : rightW l0 l1 l2 = false := by simp [rightW, hB]
    simp only [erw, Bool.false_eq_true, ↓reduceIte]
    clear erw
    subst hv0 hv1 hv2
    clear h0 h1 h2 hok0 hok1 hok2 hS hA hB
    go_enter Tryz.func23, Tryz.ntmps23
    go_wp2_with (first
      | (go_at_call 45; have hchk := hb2; refine (c1 _ hb2).mono ?_; rintro e w3 ⟨rfl, hb3⟩; have hb23 := good_below hb2 hb3)
      | (go_at_call 45; go_must (refine c0.mono ?_; rintro e w2 ⟨rfl, hb2⟩)))
    go_ret2
    exact ⟨⟨_, rfl, OwnChanges.mono (HE.out w3) hb23.size⟩, hb23.alloc hb23.size _⟩
  rw [hB] at c1
  have cm0 := fun W (hW : Below w.heap.size w W) => specMergeR (w := W) (fun b hb => Nat.lt_of_lt_of_le (hS b hb) hW.size) (h0.keep (cells_below hS hW)) hA
  have cm1 := fun W (hW : Below w.heap.size w W) => specMergeR (w := W) (fun b hb => Nat.lt_of_lt_of_le (hS b hb) hW.size) (h1.keep (cells_below hS hW)) hB
  have hsa := laid_short hA
  have hsb := laid_short hB
  have hla := laid_len hA
  have hlb := laid_len hB
  have hrw : rightW l0 l1 l2 = l2.all (pathB nameOK) := by unfold rightW; rw [hA, hB]; rfl
  rw [hrw]
  obtain ⟨oa, hoa⟩ : ∃ oa, laidF (overP l0) = oa := ⟨_, rfl⟩
  obtain ⟨ob, hob⟩ : ∃ ob, laidF (overP l1) = ob := ⟨_, rfl⟩
  rw [hoa] at cm0 hsa hla ⊢
  rw [hob] at cm1 hsb hlb ⊢
  have HSA : Hid (∀ o ∈ oa, o.path.size ≤ 205) := hsa
  have HSB : Hid (∀ o ∈ ob, o.path.size ≤ 205) := hsb
  have hla' : (oa.length : Int) ≤ 2000 := by omega
  have hlb' : (ob.length : Int) ≤ 2000 := by omega
  obtain ⟨PL, hPL⟩ : ∃ PL, (if l2.all (pathB nameOK) = true then changesF oa ob l2 else []) = PL := ⟨_, rfl⟩
  obtain ⟨PC, hPC⟩ : ∃ PC : Int, (if l2.all (pathB nameOK) = true then 0 else 1) = PC := ⟨_, rfl⟩
  rw [hPL, hPC]
  have HPL : Hid ((if l2.all (pathB nameOK) = true then changesF oa ob l2 else []) = PL) := hPL
  have HPC : Hid ((if l2.all (pathB nameOK) = true then (0 : Int) else 1) = PC) := hPC
  have HT2 : Hid (TxtsAt S w v2 l2) := h2
  have HOK2 : Hid (∀ x ∈ l2, TxtsOK 1048576 x) := hok2
  have HS : Hid (∀ b, S b → b < w.heap.size) := hS
  subst hv0 hv1 hv2
  clear h0 h1 h2 hok0 hok1 hok2 hS hA hB hsa hsb hrw hoa hob hPL hPC
  go_enter Tryz.func23, Tryz.ntmps23
  go_wp2_with (first
    | (go_at_call 45; have hchk := hb2; refine (c1 _ hb2).mono ?_; rintro e w3 ⟨rfl, hb3⟩; have hb23 := good_below hb2 hb3)
    | (go_at_call 45; go_must (refine c0.mono ?_; rintro e w2 ⟨rfl, hb2⟩)))
  clear c0 c1 hb2 hb3 hchk
  go_loopw [8] (fun i8 wr => ∃ (k : Nat), i8 = .int .i64 (k : Int) ∧ k ≤ l2.length ∧ (∀ i (h : i < l2.length), i < k → pathB nameOK l2[i] = true) ∧ Below w.heap.size w wr) (fun i8 _ => l2.length - (intOf i8).toNat)
  case atStart => exact ⟨0, rfl, by omega, fun i _ h => by omega, hb23⟩
  case round =>
    obtain ⟨k, rfl, hk, hall, hb⟩ := hrel
    have HAL : Hid (∀ i (h : i < l2.length), i < k → pathB nameOK l2[i] = true) := hall
    clear hall
    by_cases hkn : k < l2.length
    · have hkn' : (k : Int) < (l2.length : Int) := by omega
      obtain ⟨_, ta, tc, htv, hcell⟩ := HT2.out
      simp only [Value.slice.injEq] at htv
      obtain ⟨rfl, -, rfl⟩ := htv
      obtain ⟨b, off, rfl, hbS, hcell⟩ := hcell (by omega)
      have hbw := HS.out b hbS
      have d0 := (hb.cell (p := ⟨b, off + k, none⟩) hbw).trans (hcell k hkn)
      have hz := HOK2.out l2[k] (List.getElem_mem hkn)
      have hnn : pathB nameOK l2[k] = true → ∀ i (h : i < l2.length), i < k + 1 → pathB nameOK l2[i] = true := fun h0 i hi hik => by
        by_cases e : i = k
        · subst e; exact h0
        · exact HAL.out i hi (by omega)
      have hbd : pathB nameOK l2[k] = false → l2.all (pathB nameOK) = false := fun h0 => by
        rw [List.all_eq_false]; exact ⟨l2[k], List.getElem_mem hkn, by rw [h0]; simp⟩
      obtain ⟨x, hx⟩ : ∃ x, l2[k] = x := ⟨_, rfl⟩
      rw [hx] at d0 hz hnn hbd
      unfold TxtsOK at hz
      have cp := specPath nameSpec x (by simp [maxLen]; omega) wr
      have HNN : Hid (pathB nameOK x = true → ∀ i (h : i < l2.length), i < k + 1 → pathB nameOK l2[i] = true) := hnn
      have HBD : Hid (pathB nameOK x = false → l2.all (pathB nameOK) = false) := hbd
      obtain ⟨F, hF⟩ : ∃ F, pathB nameOK x = F := ⟨_, rfl⟩
      rw [hF] at cp
      have HF : Hid (pathB nameOK x = F) := hF
      clear hx hz hnn hbd hF hcell
      cases F
      · go_wp2_with (go_at_call 60; go_must (refine cp.mono ?_; rintro e w4 ⟨rfl, hb4⟩))
        go_ret2
        have hb4' := good_below hb hb4
        have e1 := HBD.out HF.out
        have hp1 := HPL.out
        have hp2 := HPC.out
        rw [e1, if_neg (by simp)] at hp1 hp2
        subst hp1 hp2
        exact ⟨⟨_, rfl, OwnChanges.mono (HE.out w4) hb4'.size⟩, hb4'.alloc hb4'.size _⟩
      · go_wp2_with (go_at_call 60; go_must (refine cp.mono ?_; rintro e w4 ⟨rfl, hb4⟩))
        exact ⟨⟨k + 1, rfl, by omega, HNN.out HF.out, good_below hb hb4⟩, by simp [intOf]; omega⟩
    · obtain rfl : k = l2.length := by omega
      have hkn' : ¬ ((l2.length : Int) < (l2.length : Int)) := by omega
      have hall : l2.all (pathB nameOK) = true := by
        rw [List.all_eq_true]
        intro x hx
        obtain ⟨i, hi, rfl⟩ := List.getElem_of_mem hx
        exact HAL.out i hi hi
      have hps : ∀ q ∈ l2, q.size ≤ 205 := fun q hq => path_short (List.all_eq_true.1 hall q hq)
      have HPS : Hid (∀ q ∈ l2, q.size ≤ 205) := hps
      have hp1 := HPL.out
      have hp2 := HPC.out
      rw [hall, if_pos rfl] at hp1 hp2
      have HP1 : Hid (changesF oa ob l2 = PL) := hp1
      subst hp2
      clear hall hps hp1 HPL HPC HAL hkn'
      obtain ⟨wq, hwq⟩ : ∃ wq, wq = wr := ⟨_, rfl⟩
      subst hwq
      have hkn' : ¬ ((l2.length : Int) < (l2.length : Int)) := by omega
      go_wp2_with (first
        | (go_at_call 46; have hchk := hb5; refine (cm1 _ hb5').mono ?_; rintro e w6 ⟨⟨pb, rfl, how6⟩, hb6⟩; have hb6' := good_below hb5' hb6; have how56 := OwnSettings.below how5 hb6; obtain ⟨ba, bc, hbv, -⟩ := how6.value; subst hbv)
        | (go_at_call 46; go_must (refine (cm0 _ hb).mono ?_; rintro e w5 ⟨⟨pa, rfl, how5⟩, hb5⟩; have hb5' := good_below hb hb5; obtain ⟨aa, ac, hav, -⟩ := how5.value; subst hav)))
      clear cm0 cm1 hb5 hb5' hb6 how5 hb23 hb hchk
      obtain ⟨_, _, hva, -, hca⟩ := how56.value
      simp only [Value.slice.injEq] at hva
      obtain ⟨rfl, -, rfl⟩ := hva
      obtain ⟨_, _, hvb, -, hcb⟩ := how6.value
      simp only [Value.slice.injEq] at hvb
      obtain ⟨rfl, -, rfl⟩ := hvb
      have HCA : Hid (0 < oa.length → ∃ g, aa = some ⟨g, 0, none⟩ ∧ wq.heap.size ≤ g ∧ g < w6.heap.size ∧ ∀ j (hj : j < oa.length), w6.cell? ⟨g, j * 3, none⟩ = some (.string oa[j].path) ∧ w6.cell? ⟨g, j * 3 + 1, none⟩ = some (.string oa[j].text) ∧ w6.cell? ⟨g, j * 3 + 2, none⟩ = some (.string oa[j].from')) := hca
      have HCB : Hid (0 < ob.length → ∃ g, ba = some ⟨g, 0, none⟩ ∧ w5.heap.size ≤ g ∧ g < w6.heap.size ∧ ∀ j (hj : j < ob.length), w6.cell? ⟨g, j * 3, none⟩ = some (.string ob[j].path) ∧ w6.cell? ⟨g, j * 3 + 1, none⟩ = some (.string ob[j].text) ∧ w6.cell? ⟨g, j * 3 + 2, none⟩ = some (.string ob[j].from')) := hcb
      have HAA : Hid (SettingsAt (fun b => b < w6.heap.size) w6 (.slice aa oa.length ac) oa) := how56.at.mono (fun b hb => hb.2)
      have HBB : Hid (SettingsAt (fun b => b < w6.heap.size) w6 (.slice ba ob.length bc) ob) := how6.at.mono (fun b hb => hb.2)
      have HB6 : Hid (Below w.heap.size w w6) := hb6'
      have HTE : Hid (OwnTxts w6.heap.size (w6.alloc (.cells #[] 9)) (.slice (some ⟨w6.heap.size, 0, none⟩) 0 0) []) := OwnTxts.empty w6.heap.size w6 (Nat.le_refl _)
      clear hca hcb how56 how6 hb6'
      go_loopw [11, 12] (fun i11 i12 wr => ∃ (k : Nat) (ta : Option Addr) (tc : Nat), i12 = .int .i64 (k : Int) ∧ i11 = .slice ta k tc ∧ k ≤ oa.length ∧ OwnTxts w6.heap.size wr (.slice ta k tc) ((oa.map Setting.path).take k) ∧ Below w6.heap.size w6 wr) (fun _ i12 _ => oa.length - (intOf i12).toNat)
      case atStart => exact ⟨0, _, 0, rfl, rfl, by omega, HTE.out, (Below.refl _ w6).alloc (Nat.le_refl _) _⟩
      case round =>
        obtain ⟨k, ta, tc, rfl, rfl, hk, hown, hb⟩ := hrel
        have HOW : Hid (OwnTxts w6.heap.size wr (.slice ta k tc) ((oa.map Setting.path).take k)) := hown
        have HBR : Hid (Below w6.heap.size w6 wr) := hb
        have hbs := hb.size
        clear hown
        by_cases hkn : k < oa.length
        · have hkn' : (k : Int) < (oa.length : Int) := by omega
          obtain ⟨g, rfl, -, hg, hcell⟩ := HCA.out (by omega)
          have d0 := (hb.cell (p := ⟨g, k * 3, none⟩) hg).trans (hcell k hkn).1
          have htk : (oa.map Setting.path).take (k + 1) = (oa.map Setting.path).take k ++ [oa[k].path] := by
            rw [List.take_succ_eq_append_getElem (by simpa using hkn)]
            simp
          obtain ⟨x, hx⟩ : ∃ x, oa[k].path = x := ⟨_, rfl⟩
          rw [hx] at d0 htk
          have HTK : Hid ((oa.map Setting.path).take (k + 1) = (oa.map Setting.path).take k ++ [x]) := htk
          clear hx htk hcell
          go_wp2_with (at_builtin; go_must (refine wpList_appendTxts rfl (.tmp 67) (.tmp 73) rfl w6.heap.size (.slice ta k tc) ((oa.map Setting.path).take k) rfl (OwnTxts.below HOW.out ((Below.refl _ wr).alloc (Nat.le_refl _) _)) _ [x] rfl (TxtsAt.newAt _ x _ (by simp)) (by simp <;> omega) (by simp only [World.size_alloc]; omega) ?_; intro v9 w9 hown9 hB9 hgr9 hnil9; obtain ⟨a9, c9, e9, -⟩ := hown9.value; have hl9 : ((oa.map Setting.path).take k ++ [x]).length = k + 1 := (by simp <;> omega); rw [hl9] at e9; subst e9))
          exact ⟨⟨k + 1, a9, c9, by go_num, rfl, by omega, by rw [HTK.out]; exact hown9, (HBR.out.alloc hbs _).trans hB9⟩, by simp [intOf]; omega⟩
        · obtain rfl : k = oa.length := by omega
          have hkn' : ¬ ((oa.length : Int) < (oa.length : Int)) := by omega
          have hown0 := HOW.out
          rw [List.take_of_length_le (by simp)] at hown0
          have HOW0 : Hid (OwnTxts w6.heap.size wr (.slice ta oa.length tc) (oa.map Setting.path)) := hown0
          clear hown0 HOW hb
          obtain ⟨w7, hw7⟩ : ∃ w7, w7 = wr := ⟨_, rfl⟩
          subst hw7
          go_wp2_with fail
          go_loopw [11, 13] (fun i11 i13 wx => ∃ (j : Nat) (ua : Option Addr) (uc : Nat), i13 = .int .i64 (j : Int) ∧ i11 = .slice ua (oa.length + j) uc ∧ j ≤ ob.length ∧ OwnTxts w6.heap.size wx (.slice ua (oa.length + j) uc) (oa.map Setting.path ++ (ob.map Setting.path).take j) ∧ Below w6.heap.size w6 wx) (fun _ i13 _ => ob.length - (intOf i13).toNat)
          case atStart => exact ⟨0, ta, tc, rfl, rfl, by omega, by simpa using HOW0.out, HBR.out⟩
          case round =>
            obtain ⟨j, ua, uc, rfl, rfl, hj, hown, hb⟩ := hrel
            have HOW : Hid (OwnTxts w6.heap.size wr (.slice ua (oa.length + j) uc) (oa.map Setting.path ++ (ob.map Setting.path).take j)) := hown
            have HBR2 : Hid (Below w6.heap.size w6 wr) := hb
            have hbs2 := hb.size
            clear hown
            by_cases hjn : j < ob.length
            · have hjn' : (j : Int) < (ob.length : Int) := by omega
              obtain ⟨g, rfl, -, hg, hcell⟩ := HCB.out (by omega)
              have d0 := (hb.cell (p := ⟨g, j * 3, none⟩) hg).trans (hcell j hjn).1
              have htk : oa.map Setting.path ++ (ob.map Setting.path).take (j + 1) = (oa.map Setting.path ++ (ob.map Setting.path).take j) ++ [ob[j].path] := by
                rw [List.take_succ_eq_append_getElem (by simpa using hjn), List.append_assoc]
                simp
              obtain ⟨x, hx⟩ : ∃ x, ob[j].path = x := ⟨_, rfl⟩
              rw [hx] at d0 htk
              have HTK : Hid (oa.map Setting.path ++ (ob.map Setting.path).take (j + 1) = (oa.map Setting.path ++ (ob.map Setting.path).take j) ++ [x]) := htk
              clear hx htk hcell
              go_wp2_with (at_builtin; go_must (refine wpList_appendTxts rfl (.tmp 81) (.tmp 87) rfl w6.heap.size (.slice ua (oa.length + j) uc) (oa.map Setting.path ++ (ob.map Setting.path).take j) rfl (OwnTxts.below HOW.out ((Below.refl _ wr).alloc (Nat.le_refl _) _)) _ [x] rfl (TxtsAt.newAt _ x _ (by simp)) (by simp <;> omega) (by simp only [World.size_alloc]; omega) ?_; intro v9 w9 hown9 hB9 hgr9 hnil9; obtain ⟨a9, c9, e9, -⟩ := hown9.value; have hl9 : ((oa.map Setting.path ++ (ob.map Setting.path).take j) ++ [x]).length = oa.length + (j + 1) := (by simp <;> omega); rw [hl9] at e9; subst e9))
              exact ⟨⟨j + 1, a9, c9, by go_num, rfl, by omega, by rw [HTK.out]; exact hown9, (HBR2.out.alloc hbs2 _).trans hB9⟩, by simp [intOf]; omega⟩
            · obtain rfl : j = ob.length := by omega
              have hjn' : ¬ ((ob.length : Int) < (ob.length : Int)) := by omega
              have hown0 := HOW.out
              rw [List.take_of_length_le (by simp)] at hown0
              have cs := specSort hown0.toS (by simp; omega)
              have hbl := both_len oa ob
              have hbs0 := both_short HSA.out HSB.out
              have hchF : changesF oa ob l2 = (bothPaths oa ob).filterMap (chg oa ob l2) := rfl
              unfold bothPaths at hbl hbs0 hchF
              obtain ⟨AL, hAL⟩ : ∃ AL, sortB (oa.map Setting.path ++ ob.map Setting.path) = AL := ⟨_, rfl⟩
              rw [hAL] at cs hbl hbs0 hchF
              have HP2 : Hid (AL.filterMap (chg oa ob l2) = PL) := hchF.symm.trans HP1.out
              have HSH : Hid (∀ p ∈ AL, p.size ≤ 205) := hbs0
              have hal' : (AL.length : Int) ≤ 4000 := by omega
              clear hown0 hAL hbs0 hchF HOW HP1 HOW0
              obtain ⟨w8, hw8⟩ : ∃ w8, w8 = wr := ⟨_, rfl⟩
              subst hw8
              go_wp2_with (go_at_call 50; go_must (refine cs.mono ?_; rintro e w9 ⟨⟨ps, rfl, hos⟩, hb9⟩; have hot := hos.toT; obtain ⟨sa, sc, hsv, -, hsc⟩ := hot.value; subst hsv; clear hos hot))
              have HSC : Hid (0 < AL.length → ∃ g, sa = some ⟨g, 0, none⟩ ∧ w8.heap.size ≤ g ∧ g < w9.heap.size ∧ ∀ j (hj : j < AL.length), w9.cell? ⟨g, j, none⟩ = some (.string AL[j])) := hsc
              have hb69 := good_below HBR2.out hb9
              have HB9 : Hid (Below w6.heap.size w6 w9) := hb69
              clear cs hsc hb9 hb
              go_loopw [14, 15] (fun i14 i15 wr => ∃ (k : Nat) (oa2 : Option Addr) (oc2 : Nat) (out : List Change), i15 = .int .i64 (k : Int) ∧ i14 = .slice oa2 out.length oc2 ∧ k ≤ AL.length ∧ out = (AL.take k).filterMap (chg oa ob l2) ∧ OwnChanges w9.heap.size wr (.slice oa2 out.length oc2) out ∧ Below w9.heap.size w9 wr) (fun _ i15 _ => AL.length - (intOf i15).toNat)
              case atStart => exact ⟨0, _, 0, [], rfl, rfl, by omega, rfl, HE.out w9, (Below.refl _ w9).alloc (Nat.le_refl _) _⟩
              case round =>
                obtain ⟨k, oa2, oc2, out, rfl, rfl, hk, hout, hown, hb⟩ := hrel
                have HOW : Hid (OwnChanges w9.heap.size wr (.slice oa2 out.length oc2) out) := hown
                have HOUT : Hid (out = (AL.take k).filterMap (chg oa ob l2)) := hout
                have HBR3 : Hid (Below w9.heap.size w9 wr) := hb
                have hol : out.length ≤ 4000 := by
                  have := filterMap_len (chg oa ob l2) (AL.take k)
                  rw [← hout, List.length_take] at this
                  omega
                clear hown hout
                by_cases hkn : k < AL.length
                · have hkn' : (k : Int) < (AL.length : Int) := by omega
                  obtain ⟨g, rfl, -, hg, hcell⟩ := HSC.out (by omega)
                  have hpc := hcell k hkn
                  have hps := HSH.out AL[k] (List.getElem_mem hkn)
                  have htk : (AL.take (k + 1)).filterMap (chg oa ob l2) = (AL.take k).filterMap (chg oa ob l2) ++ (match chg oa ob l2 AL[k] with | some c => [c] | none => []) := by
                    rw [List.take_succ_eq_append_getElem hkn, List.filterMap_append]
                    congr 1
                    simp only [List.filterMap_cons, List.filterMap_nil]
                    cases chg oa ob l2 AL[k] <;> rfl
                  obtain ⟨p, hp⟩ : ∃ p, AL[k] = p := ⟨_, rfl⟩
                  rw [hp] at hpc hps htk
                  have HPC : Hid (w9.cell? ⟨g, k, none⟩ = some (.string p)) := hpc
                  have HPZ : Hid (p.size ≤ 205) := hps
                  have HTK : Hid ((AL.take (k + 1)).filterMap (chg oa ob l2) = (AL.take k).filterMap (chg oa ob l2) ++ (match chg oa ob l2 p with | some c => [c] | none => [])) := htk
                  clear hcell hpc hps htk hp hb hb69
                  obtain ⟨wA, hwA⟩ : ∃ wA, wA = wr := ⟨_, rfl⟩
                  subst hwA
                  go_wp2_with fail
                  go_loopw [16, 17] (fun i16 i17 wz => ∃ (j : Nat), i17 = .int .i64 (j : Int) ∧ i16 = .bool ((l2.take j).any (fun q => withinB p q)) ∧ j ≤ l2.length ∧ Below w9.heap.size w9 wz ∧ OwnChanges w9.heap.size wz (.slice oa2 out.length oc2) out) (fun _ i17 _ => l2.length - (intOf i17).toNat)
                  case atStart => exact ⟨0, rfl, rfl, by omega, HBR3.out, HOW.out⟩
                  case round =>
                    obtain ⟨j, rfl, rfl, hj, hb, how⟩ := hrel
                    have HBR4 : Hid (Below w9.heap.size w9 wr) := hb
                    have HOW4 : Hid (OwnChanges w9.heap.size wr (.slice oa2 out.length oc2) out) := how
                    clear how
                    by_cases hjn : j < l2.length
                    · have hjn' : (j : Int) < (l2.length : Int) := by omega
                      obtain ⟨_, ta, tc, htv, hcell⟩ := HT2.out
                      simp only [Value.slice.injEq] at htv
                      obtain ⟨rfl, -, rfl⟩ := htv
                      obtain ⟨b, off, rfl, hbS, hcell⟩ := hcell (by omega)
                      have hbw := HS.out b hbS
                      have hb0 := good_below (good_below HB6.out HB9.out) hb
                      have d0 := (hb0.cell (p := ⟨b, off + j, none⟩) hbw).trans (hcell j hjn)
                      have d1 := (hb.cell (p := ⟨g, k, none⟩) hg).trans HPC.out
                      have hqz := HPS.out l2[j] (List.getElem_mem hjn)
                      have htk : (l2.take (j + 1)).any (fun q => withinB p q) = ((l2.take j).any (fun q => withinB p q) || withinB p l2[j]) := by
                        rw [List.take_succ_eq_append_getElem hjn, List.any_append]; simp
                      obtain ⟨q, hq⟩ : ∃ q, l2[j] = q := ⟨_, rfl⟩
                      rw [hq] at d0 hqz htk
                      obtain ⟨s, hs⟩ : ∃ s, (l2.take j).any (fun q => withinB p q) = s := ⟨_, rfl⟩
                      rw [hs] at htk ⊢
                      have HTJ : Hid ((l2.take (j + 1)).any (fun q => withinB p q) = (s || withinB p q)) := htk
                      have HQZ : Hid (q.size ≤ 205) := hqz
                      clear hcell hqz htk hq hs hb0 hb
                      go_upto_region 30 with fail
                      cases s
                      · have cw := fun w => specWithinQ' p q HPZ.out HQZ.out w
                        obtain ⟨F, hF⟩ : ∃ F, withinB p q = F := ⟨_, rfl⟩
                        rw [hF] at cw HTJ
                        clear hF
                        go_quiet ((go_at_call 61; exact Calls.quiet_of_same (cw _)))
                        go_wp2_with fail
                        exact ⟨⟨j + 1, by go_num, by rw [HTJ.out]; rfl, by omega, bel_drewN HBR4.out nq, OwnChanges.below HOW4.out (bel_drewN (Below.refl _ wr) nq)⟩, by simp [intOf]; omega⟩
                      · go_quiet (fail)
                        go_wp2_with fail
                        exact ⟨⟨j + 1, by go_num, by rw [HTJ.out]; rfl, by omega, bel_drewN HBR4.out nq, OwnChanges.below HOW4.out (bel_drewN (Below.refl _ wr) nq)⟩, by simp [intOf]; omega⟩
                    · obtain rfl : j = l2.length := by omega
                      have hjn' : ¬ ((l2.length : Int) < (l2.length : Int)) := by omega
                      have hse : (l2.take l2.length).any (fun q => withinB p q) = seenB l2 p := by rw [List.take_length]; rfl
                      rw [hse]
                      have hbz := good_below HB9.out hb
                      have hbzs := hbz.size
                      have hbs9 := hb.size
                      have d1 := (hb.cell (p := ⟨g, k, none⟩) hg).trans HPC.out
                      have ct0 := fun W (hW : Below w6.heap.size w6 W) => specText (w := W) (fun b hb => Nat.lt_of_lt_of_le hb hW.size) (HAA.out.keep (cells_below (fun b hb => hb) hW)) p
                      have ct1 := fun W (hW : Below w6.heap.size w6 W) => specText (w := W) (fun b hb => Nat.lt_of_lt_of_le hb hW.size) (HBB.out.keep (cells_below (fun b hb => hb) hW)) p
                      obtain ⟨x, hx⟩ : ∃ x, textOf oa p = x := ⟨_, rfl⟩
                      obtain ⟨y, hy⟩ : ∃ y, textOf ob p = y := ⟨_, rfl⟩
                      obtain ⟨sn, hsn⟩ : ∃ sn, seenB l2 p = sn := ⟨_, rfl⟩
                      have hch : chg oa ob l2 p = if sn && !(x.toList == y.toList) then some ⟨p, x, y⟩ else none := by unfold chg; rw [hx, hy, hsn]
                      rw [hx] at ct0
                      rw [hy] at ct1
                      rw [hsn]
                      have HCH : Hid (chg oa ob l2 p = if sn && !(x.toList == y.toList) then some ⟨p, x, y⟩ else none) := hch
                      clear hch hx hy hsn hse
                      obtain ⟨wz, hwz⟩ : ∃ wz, wz = wr := ⟨_, rfl⟩
                      subst hwz
                      have HBZ : Hid (Below w6.heap.size w6 wz) := hbz
                      have hgz : g < wz.heap.size := by omega
                      have HOW5 : Hid (OwnChanges w9.heap.size wz (.slice oa2 out.length oc2) out) := HOW4.out
                      clear hbz hb HOW HBR3 HOW4 hbzs
                      by_cases hgo : (sn && !(x.toList == y.toList)) = true
                      · have hch := HCH.out
                        rw [if_pos hgo] at hch
                        have htk := HTK.out
                        rw [hch, ← HOUT.out] at htk
                        have HTK2 : Hid ((AL.take (k + 1)).filterMap (chg oa ob l2) = out ++ [⟨p, x, y⟩]) := htk
                        simp only [Bool.and_eq_true, Bool.not_eq_true'] at hgo
                        obtain ⟨rfl, hne⟩ := hgo
                        clear hch htk HTK HCH
                        go_wp2_with (first
                          | (go_at_call 62; have hchk := ht1; refine (ct1 _ (good_below HBZ.out ht1)).mono ?_; rintro e wt2 ⟨rfl, ht2⟩; have ht12 := good_below ht1 ht2; have d1 := (ht12.cell (p := ⟨g, k, none⟩) hgz).trans d1; have hs12 := ht12.size)
                          | (go_at_call 62; go_must (refine (ct0 _ HBZ.out).mono ?_; rintro e wt1 ⟨rfl, ht1⟩; have hs1' := ht1.size; have d1' := (ht1.cell (p := ⟨g, k, none⟩) hgz).trans d1))
                          | (at_builtin; go_must (refine wpList_appendChanges rfl (.tmp 134) (.tmp 142) rfl w9.heap.size (.slice oa2 out.length oc2) out rfl (OwnChanges.below HOW5.out (ht12.alloc (by omega) _)) _ [⟨p, x, y⟩] rfl (ChangesAt.newAt _ p x y _ (by simp)) (by simp <;> omega) (by simp only [World.size_alloc]; omega) ?_; intro vA wB hownB hBB hgrB hnilB; obtain ⟨aB, cB, eB, -⟩ := hownB.value; have hlB : (out ++ [(⟨p, x, y⟩ : Change)]).length = out.length + 1 := (by simp); rw [hlB] at eB; subst eB)))
                        exact ⟨⟨k + 1, aB, cB, out ++ [⟨p, x, y⟩], by go_num, by simp, by omega, HTK2.out.symm, by simpa using hownB, ((HBR4.out.trans (ht12.mono (by omega))).alloc (by omega) _).trans hBB⟩, by simp [intOf]; omega⟩
                      · have hch := HCH.out
                        rw [if_neg hgo] at hch
                        have htk := HTK.out
                        rw [hch, List.append_nil, ← HOUT.out] at htk
                        have HTK2 : Hid ((AL.take (k + 1)).filterMap (chg oa ob l2) = out) := htk
                        clear hch htk HTK HCH
                        cases sn
                        · clear hgo
                          go_wp2_with (first
                            | (go_at_call 62; have hchk := ht1; refine (ct1 _ (good_below HBZ.out ht1)).mono ?_; rintro e wt2 ⟨rfl, ht2⟩; have ht12 := good_below ht1 ht2)
                            | (go_at_call 62; go_must (refine (ct0 _ HBZ.out).mono ?_; rintro e wt1 ⟨rfl, ht1⟩; have hs1' := ht1.size; have d1' := (ht1.cell (p := ⟨g, k, none⟩) hgz).trans d1)))
                          exact ⟨⟨k + 1, oa2, oc2, out, by go_num, rfl, by omega, HTK2.out.symm, OwnChanges.below HOW5.out ht12, HBR4.out.trans (ht12.mono hbs9)⟩, by simp [intOf]; omega⟩
                        · have heq : (x.toList == y.toList) = true := by simpa using hgo
                          clear hgo
                          go_wp2_with (first
                            | (go_at_call 62; have hchk := ht1; refine (ct1 _ (good_below HBZ.out ht1)).mono ?_; rintro e wt2 ⟨rfl, ht2⟩; have ht12 := good_below ht1 ht2)
                            | (go_at_call 62; go_must (refine (ct0 _ HBZ.out).mono ?_; rintro e wt1 ⟨rfl, ht1⟩; have hs1' := ht1.size; have d1' := (ht1.cell (p := ⟨g, k, none⟩) hgz).trans d1)))
                          exact ⟨⟨k + 1, oa2, oc2, out, by go_num, rfl, by omega, HTK2.out.symm, OwnChanges.below HOW5.out ht12, HBR4.out.trans (ht12.mono hbs9)⟩, by simp [intOf]; omega⟩
                · obtain rfl : k = AL.length := by omega
                  have hkn' : ¬ ((AL.length : Int) < (AL.length : Int)) := by omega
                  have hout := HOUT.out
                  rw [List.take_length, HP2.out] at hout
                  subst hout
                  go_wp2_with fail
                  go_ret2
                  exact ⟨⟨_, rfl, OwnChanges.mono HOW.out (good_below HB6.out HB9.out).size⟩, good_below (good_below HB6.out HB9.out) HBR3.out⟩
end Go.Proofs.YtoopdcbgnccmiaaGreatDoor

namespace Go.Proofs.YtoopdcbgnccmiaaGreatDoor
open Go.ChangeShapes Go.WideShapes Go.ChangeAt Go.RowKit
set_option linter.unusedVariables false
set_option linter.unusedSimpArgs false

def ruleB0 (r : Rule) : Bool := pathB nameOK r.path && decide (1 ≤ r.kind) && decide (r.kind ≤ 5) && decide (r.choices.length ≤ 20) && decide (r.default'.size ≤ 200)
def defB (r : Rule) : Bool := (r.default'.toList == []) || ((fitP r r.default').2 == 0)
def RuleAt (l : List Rule) (i : Nat) (hi : i < l.length) : Prop := ruleB0 l[i] = true ∧ (∀ c ∈ l[i].choices, c.size ≤ 200) ∧ (∀ k (hk : k < l.length), k ≠ i → withinB l[i].path l[k].path = false) ∧ defB l[i] = true
open Classical in
noncomputable def rulesB (l : List Rule) : Bool := decide (l.length ≤ 100 ∧ ∀ i (hi : i < l.length), RuleAt l i hi)
open Classical in
theorem rules_no {l : List Rule} {i : Nat} (hi : i < l.length) (h : ¬ RuleAt l i hi) : rulesB l = false := by
  unfold rulesB
  exact decide_eq_false (fun e => h (e.2 i hi))
open Classical in
theorem rules_long {l : List Rule} (h : ¬ (l.length ≤ 100)) : rulesB l = false := by
  unfold rulesB
  exact decide_eq_false (fun e => h e.1)
open Classical in
theorem rules_yes {l : List Rule} (h : l.length ≤ 100) (h2 : ∀ i (hi : i < l.length), RuleAt l i hi) : rulesB l = true := by
  unfold rulesB
  exact decide_eq_true ⟨h, h2⟩
/-- The number of a path's rule. -/
def ruleN : Option Nat → Int
  | some k => (k : Int)
  | none => -1
def ruleO (l : List Rule) (p : ByteArray) : Option Nat := l.findIdx? fun r => r.path.toList == p.toList
theorem rule_hit {l : List Rule} {t : ByteArray} {k : Nat} (hk : k < l.length) (h : ∀ i (hi : i < l.length), i < k → (l[i].path.toList == t.toList) = false) (h1 : (l[k].path.toList == t.toList) = true) : ruleO l t = some k := by
  unfold ruleO
  rw [List.findIdx?_eq_some_iff_getElem]
  exact ⟨hk, h1, fun j hj => by rw [h j (by omega) hj]; simp⟩
theorem rule_miss {l : List Rule} {t : ByteArray} (h : ∀ i (hi : i < l.length), (l[i].path.toList == t.toList) = false) : ruleO l t = none := by
  unfold ruleO
  rw [List.findIdx?_eq_none_iff]
  intro x hx
  obtain ⟨i, hi, rfl⟩ := List.getElem_of_mem hx
  exact h i hi
set_option maxRecDepth 100000 in
set_option maxHeartbeats 1000000 in
theorem specRule {S : Nat → Prop} {l : List Rule} {v : Value} {w : World} (hS : ∀ b, S b → b < w.heap.size) (h : RulesAt S w v l) (p : ByteArray) :
    Calls Tryz.prog 47 #[v, .string p] w fun e w' => e = .returned (.int .i64 (ruleN (ruleO l p))) ∧ w' = w := by
  obtain ⟨hlm, a, cap, rfl, hc⟩ := h
  have HC : Hid _ := hc
  have HS : Hid (∀ b, S b → b < w.heap.size) := hS
  have hlm' : (l.length : Int) ≤ 9223372036854775807 := by simp [maxLen] at hlm; omega
  clear hc hS hlm
  go_enter Tryz.func47, Tryz.ntmps47
  go_wp2_with fail
  go_loopw [5] (fun i5 wr => ∃ (k : Nat), i5 = .int .i64 (k : Int) ∧ k ≤ l.length ∧ (∀ i (h : i < l.length), i < k → (l[i].path.toList == p.toList) = false) ∧ wr = w) (fun i5 _ => l.length - (intOf i5).toNat)
  case atStart => exact ⟨0, rfl, by omega, fun i _ h => by omega, rfl⟩
  case round =>
    obtain ⟨k, rfl, hk, hno, rfl⟩ := hrel
    have HN : Hid (∀ i (h : i < l.length), i < k → (l[i].path.toList == p.toList) = false) := hno
    clear hno
    by_cases hkn : k < l.length
    · have hkn' : (k : Int) < (l.length : Int) := by omega
      obtain ⟨b, off, rfl, hbS, hcell⟩ := HC.out (by omega)
      have d0 := (hcell k hkn).1
      have hht := fun h1 => rule_hit (t := p) hkn HN.out h1
      have hnn : (l[k].path.toList == p.toList) = false → ∀ i (h : i < l.length), i < k + 1 → (l[i].path.toList == p.toList) = false := fun h0 i hi hik => by
        by_cases e : i = k
        · subst e; exact h0
        · exact HN.out i hi (by omega)
      obtain ⟨x, hx⟩ : ∃ x, l[k].path = x := ⟨_, rfl⟩
      rw [hx] at d0 hht hnn
      have HHT : Hid ((x.toList == p.toList) = true → ruleO l p = some k) := hht
      have HNN : Hid ((x.toList == p.toList) = false → ∀ i (h : i < l.length), i < k + 1 → (l[i].path.toList == p.toList) = false) := hnn
      clear hx hht hnn hcell
      cases hq : (x.toList == p.toList)
      · go_wp2_with fail
        exact ⟨⟨k + 1, by go_num, by omega, HNN.out hq, by trivial⟩, by simp [intOf]; omega⟩
      · go_wp2_with fail
        go_ret
        exact ⟨by rw [HHT.out hq]; rfl, rfl⟩
    · obtain rfl : k = l.length := by omega
      have hkn' : ¬ ((l.length : Int) < (l.length : Int)) := by omega
      go_wp2_with fail
      go_ret
      exact ⟨by rw [rule_miss (fun i hi => HN.out i hi hi)]; rfl, rfl⟩
set_option maxRecDepth 100000 in
theorem specWithinR (p q : ByteArray) (hp : p.size ≤ 1048576) (hq : q.size ≤ 1048576) (w : World) :
    Calls Tryz.prog 61 #[.string p, .string q] w fun e w' => e = .returned (.bool (withinB p q)) ∧ w' = w := by
  have hp' : (p.size : Int) ≤ 1048576 := by omega
  have hq' : (q.size : Int) ≤ 1048576 := by omega
  unfold withinB
  cases h1 : (p.toList == q.toList)
  · by_cases h2 : q.size < p.size
    · have h2' : (q.size : Int) < (p.size : Int) := by omega
      have h2'' : (q.size : Int) ≤ (p.size : Int) := by omega
      have hba : byteAt p q.size = p[q.size].toNat := by unfold byteAt; rw [dif_pos h2]
      obtain ⟨x, hx⟩ : ∃ x, p[q.size].toNat = x := ⟨_, rfl⟩
      rw [hx] at hba
      rw [hba, decide_eq_true h2]
      clear hba
      cases h3 : ((p.extract 0 q.size).toList == q.toList)
      · go_enter Tryz.func61, Tryz.ntmps61
        go_wp2_with fail
        go_ret
        exact ⟨rfl, rfl⟩
      · by_cases hx46 : x = 46
        · subst hx46
          go_enter Tryz.func61, Tryz.ntmps61
          go_wp2_with fail
          go_ret
          exact ⟨rfl, rfl⟩
        · have hxb : ((x : Int) == 46) = false := by rw [beq_eq_false_iff_ne]; omega
          rw [decide_eq_false hx46]
          go_enter Tryz.func61, Tryz.ntmps61
          go_wp2_with fail
          go_ret
          exact ⟨rfl, rfl⟩
    · have h2' : ¬ ((q.size : Int) < (p.size : Int)) := by omega
      rw [decide_eq_false h2]
      go_enter Tryz.func61, Tryz.ntmps61
      go_wp2_with fail
      go_ret
      exact ⟨rfl, rfl⟩
  · go_enter Tryz.func61, Tryz.ntmps61
    go_wp2_with fail
    go_ret
    exact ⟨rfl, rfl⟩
set_option maxRecDepth 100000 in
set_option maxHeartbeats 16000000 in
theorem specRules {S : Nat → Prop} {l : List Rule} {v : Value} {w : World} (hS : ∀ b, S b → b < w.heap.size) (h : RulesAt S w v l) (hok : ∀ x ∈ l, RulesOK 1048576 x) :
    Calls Tryz.prog 44 #[v] w fun e w' => e = .returned (.bool (rulesB l)) ∧ Below w.heap.size w w' := by
  have h0 := h
  obtain ⟨hlm, a, cap, rfl, hc⟩ := h
  have HR : Hid (RulesAt S w (.slice a l.length cap) l) := h0
  have HC : Hid _ := hc
  have HS : Hid (∀ b, S b → b < w.heap.size) := hS
  have HOK : Hid (∀ x ∈ l, RulesOK 1048576 x) := hok
  have hlm' : (l.length : Int) ≤ 9223372036854775807 := by simp [maxLen] at hlm; omega
  clear hc hS hlm hok h0
  by_cases hl : l.length ≤ 100
  case neg =>
    have hl' : (100 : Int) < (l.length : Int) := by omega
    rw [rules_long hl]
    go_enter Tryz.func44, Tryz.ntmps44
    go_wp2_with fail
    go_ret
    exact ⟨rfl, Below.refl _ _⟩
  have hl' : ¬ ((100 : Int) < (l.length : Int)) := by omega
  have hyes := fun h2 => rules_yes hl h2
  have hno := fun i hi h => rules_no (l := l) (i := i) hi h
  obtain ⟨RB, hRB⟩ : ∃ RB, rulesB l = RB := ⟨_, rfl⟩
  rw [hRB] at hyes hno ⊢
  have HYES : Hid ((∀ i (hi : i < l.length), RuleAt l i hi) → RB = true) := hyes
  have HNO : Hid (∀ i (hi : i < l.length), ¬ RuleAt l i hi → RB = false) := hno
  clear hyes hno hRB
  go_enter Tryz.func44, Tryz.ntmps44
  go_wp2_with fail
  go_loopw [3] (fun i3 wr => ∃ k : Nat, i3 = .int .i64 (k : Int) ∧ k ≤ l.length ∧ (∀ i (hi : i < l.length), i < k → RuleAt l i hi) ∧ Below w.heap.size w wr) (fun i3 _ => l.length - (intOf i3).toNat)
  case atStart => exact ⟨0, rfl, by omega, fun i _ h => by omega, Below.refl _ _⟩
  case round =>
    obtain ⟨k, rfl, hk, hall, hb⟩ := hrel
    have HALL : Hid (∀ i (hi : i < l.length), i < k → RuleAt l i hi) := hall
    have HB : Hid (Below w.heap.size w wr) := hb
    clear hall
    by_cases hkn : k < l.length
    case neg =>
      obtain rfl : k = l.length := by omega
      have hkn' : ¬ ((l.length : Int) < (l.length : Int)) := by omega
      have hr := HYES.out (fun i hi => HALL.out i hi hi)
      subst hr
      go_wp2_with fail
      go_ret
      exact ⟨rfl, hb⟩
    have hkn' : (k : Int) < (l.length : Int) := by omega
    obtain ⟨b, off, rfl, hbS, hcell⟩ := HC.out (by omega)
    have hbw := HS.out b hbS
    obtain ⟨c0, c1, c2, c3, c5, c6, nv, c4, hnv⟩ := hcell k hkn
    have d0 := (hb.cell (p := ⟨b, off + k * 7, none⟩) hbw).trans c0
    have d1 := (hb.cell (p := ⟨b, off + k * 7 + 1, none⟩) hbw).trans c1
    have d2 := (hb.cell (p := ⟨b, off + k * 7 + 2, none⟩) hbw).trans c2
    have d3 := (hb.cell (p := ⟨b, off + k * 7 + 3, none⟩) hbw).trans c3
    have d4 := (hb.cell (p := ⟨b, off + k * 7 + 4, none⟩) hbw).trans c4
    have d5 := (hb.cell (p := ⟨b, off + k * 7 + 5, none⟩) hbw).trans c5
    have d6 := (hb.cell (p := ⟨b, off + k * 7 + 6, none⟩) hbw).trans c6
    have hokx := HOK.out l[k] (List.getElem_mem hkn)
    unfold RulesOK at hokx
    have hbad := fun h => HNO.out k hkn h
    have hstep : RuleAt l k hkn → ∀ i (hi : i < l.length), i < k + 1 → RuleAt l i hi := fun h0 i hi hik => by
      by_cases e : i = k
      · subst e; exact h0
      · exact HALL.out i hi (by omega)
    have hra : RuleAt l k hkn ↔ (ruleB0 l[k] = true ∧ (∀ c ∈ l[k].choices, c.size ≤ 200) ∧ (∀ j (hj : j < l.length), j ≠ k → withinB l[k].path l[j].path = false) ∧ defB l[k] = true) := Iff.rfl
    obtain ⟨x, hx⟩ : ∃ x, l[k] = x := ⟨_, rfl⟩
    rw [hx] at d0 d1 d2 d3 d5 d6 hnv hokx hra
    obtain ⟨xp, xk, xi, xa, xc, xm, xd⟩ := x
    dsimp only at d0 d1 d2 d3 d5 d6 hnv hokx hra
    obtain ⟨RA, hRA⟩ : ∃ RA, RuleAt l k hkn = RA := ⟨_, rfl⟩
    rw [hRA] at hbad hstep hra
    have HBAD : Hid (¬ RA → RB = false) := hbad
    have HSTEP : Hid (RA → ∀ i (hi : i < l.length), i < k + 1 → RuleAt l i hi) := hstep
    have HRA : Hid (RA ↔ (ruleB0 ⟨xp, xk, xi, xa, xc, xm, xd⟩ = true ∧ (∀ c ∈ xc, c.size ≤ 200) ∧ (∀ j (hj : j < l.length), j ≠ k → withinB xp l[j].path = false) ∧ defB ⟨xp, xk, xi, xa, xc, xm, xd⟩ = true)) := hra
    have HNV : Hid (TxtsAt S w nv xc) := hnv
    clear hcell c0 c1 c2 c3 c4 c5 c6 hbad hstep hra hRA hx
    obtain ⟨za, zc, hzv⟩ := hnv.shape
    subst hzv
    clear hnv
    have hbk : Blk (wr.alloc (.cells #[.string xp, .int .i64 xk, .int .i64 xi, .int .i64 xa, .slice za xc.length zc, .bool xm, .string xd] 85)) wr.heap.size 85 #[.string xp, .int .i64 xk, .int .i64 xi, .int .i64 xa, .slice za xc.length zc, .bool xm, .string xd] := heap_alloc_last wr _
    have hbA : Below wr.heap.size wr (wr.alloc (.cells #[.string xp, .int .i64 xk, .int .i64 xi, .int .i64 xa, .slice za xc.length zc, .bool xm, .string xd] 85)) := (Below.refl _ wr).alloc (Nat.le_refl _) _
    obtain ⟨gx, hgx⟩ : ∃ gx, wr.heap.size = gx := ⟨_, rfl⟩
    rw [hgx] at hbk
    go_upto_region 7 with fail
    obtain ⟨wA, hwA⟩ : ∃ wA, wr.alloc (.cells #[.string xp, .int .i64 xk, .int .i64 xi, .int .i64 xa, .slice za xc.length zc, .bool xm, .string xd] 85) = wA := ⟨_, rfl⟩
    rw [hwA] at hbk hbA ⊢
    have HBK : Hid (Blk wA gx 85 #[.string xp, .int .i64 xk, .int .i64 xi, .int .i64 xa, .slice za xc.length zc, .bool xm, .string xd]) := hbk
    have HBA : Hid (Below w.heap.size w wA) := good_below HB.out hbA
    have cp := specPath nameSpec xp (by simp [maxLen]; omega) wA
    clear d0 d1 d2 d3 d4 d5 d6 hb hbA hwA hbk
    obtain ⟨F, hF⟩ : ∃ F, pathB nameOK xp = F := ⟨_, rfl⟩
    rw [hF] at cp
    have HF : Hid (pathB nameOK xp = F) := hF
    have q0 := HBK.out.cell 0
    simp at q0
    have hkp : ∀ w2, Below wA.heap.size wA w2 → w2.cell? ⟨gx, 1, none⟩ = some (.int .i64 xk) ∧ w2.cell? ⟨gx, 4, none⟩ = some (.slice za xc.length zc) ∧ w2.cell? ⟨gx, 6, none⟩ = some (.string xd) := fun w2 hb2 => by
      have h := Blk.below HBK.out hb2
      exact ⟨h.cell 1, h.cell 4, h.cell 6⟩
    have HKP : Hid (∀ w2, Below wA.heap.size wA w2 → w2.cell? ⟨gx, 1, none⟩ = some (.int .i64 xk) ∧ w2.cell? ⟨gx, 4, none⟩ = some (.slice za xc.length zc) ∧ w2.cell? ⟨gx, 6, none⟩ = some (.string xd)) := hkp
    have hdm : (xd.size : Int) ≤ 1048576 := by omega
    have hcm : (xc.length : Int) ≤ 1048576 := by omega
    clear hF hkp
    go_cut [47] from 22 to 48 (fun s47 wx => s47 = .bool (!ruleB0 ⟨xp, xk, xi, xa, xc, xm, xd⟩) ∧ Below wA.heap.size wA wx)
    case first =>
      have hr0 : ruleB0 ⟨xp, xk, xi, xa, xc, xm, xd⟩ = (F && decide (1 ≤ xk) && decide (xk ≤ 5) && decide (xc.length ≤ 20) && decide (xd.size ≤ 200)) := by unfold ruleB0; dsimp only; rw [HF.out]
      have HR0 : Hid (ruleB0 ⟨xp, xk, xi, xa, xc, xm, xd⟩ = (F && decide (1 ≤ xk) && decide (xk ≤ 5) && decide (xc.length ≤ 20) && decide (xd.size ≤ 200))) := hr0
      clear hr0
      cases F
      case false =>
        go_wp2_with (go_at_call 60; go_must (refine cp.mono ?_; rintro e w2 ⟨rfl, hb2⟩))
        go_meet
        exact ⟨by rw [HR0.out]; rfl, hb2⟩
      by_cases k1 : xk < 1
      case pos =>
        go_wp2_with (go_at_call 60; go_must (refine cp.mono ?_; rintro e w2 ⟨rfl, hb2⟩; have q1 := (HKP.out _ hb2).1))
        go_meet
        exact ⟨by rw [HR0.out, decide_eq_false (show ¬ (1 ≤ xk) by omega)]; rfl, hb2⟩
      by_cases k5 : 5 < xk
      case pos =>
        go_wp2_with (go_at_call 60; go_must (refine cp.mono ?_; rintro e w2 ⟨rfl, hb2⟩; have q1 := (HKP.out _ hb2).1))
        go_meet
        exact ⟨by rw [HR0.out, decide_eq_false (show ¬ (xk ≤ 5) by omega), Bool.and_false]; rfl, hb2⟩
      by_cases k20 : 20 < xc.length
      case pos =>
        have k20' : (20 : Int) < (xc.length : Int) := by omega
        go_wp2_with (go_at_call 60; go_must (refine cp.mono ?_; rintro e w2 ⟨rfl, hb2⟩; have q1 := (HKP.out _ hb2).1; have q4 := (HKP.out _ hb2).2.1))
        go_meet
        exact ⟨by rw [HR0.out, decide_eq_false (show ¬ (xc.length ≤ 20) by omega), Bool.and_false]; rfl, hb2⟩
      have k20' : ¬ ((20 : Int) < (xc.length : Int)) := by omega
      by_cases k200 : 200 < xd.size
      case pos =>
        have k200' : (200 : Int) < (xd.size : Int) := by omega
        go_wp2_with (go_at_call 60; go_must (refine cp.mono ?_; rintro e w2 ⟨rfl, hb2⟩; have q1 := (HKP.out _ hb2).1; have q4 := (HKP.out _ hb2).2.1; have q6 := (HKP.out _ hb2).2.2))
        go_meet
        exact ⟨by rw [HR0.out, decide_eq_false (show ¬ (xd.size ≤ 200) by omega), Bool.and_false]; rfl, hb2⟩
      have k200' : ¬ ((200 : Int) < (xd.size : Int)) := by omega
      go_wp2_with (go_at_call 60; go_must (refine cp.mono ?_; rintro e w2 ⟨rfl, hb2⟩; have q1 := (HKP.out _ hb2).1; have q4 := (HKP.out _ hb2).2.1; have q6 := (HKP.out _ hb2).2.2))
      go_meet
      exact ⟨by rw [HR0.out, decide_eq_true (show 1 ≤ xk by omega), decide_eq_true (show xk ≤ 5 by omega), decide_eq_true (show xc.length ≤ 20 by omega), decide_eq_true (show xd.size ≤ 200 by omega), decide_eq_false (show ¬ (xk < 1) by omega), decide_eq_false (show ¬ (5 < xk) by omega), decide_eq_false (show ¬ ((20 : Int) < (xc.length : Int)) by omega), decide_eq_false (show ¬ ((200 : Int) < (xd.size : Int)) by omega)]; rfl, hb2⟩
    case rest =>
      obtain ⟨rfl, hbc⟩ := hcut
      obtain ⟨wC, hwC⟩ : ∃ wC, wC = wc := ⟨_, rfl⟩
      subst hwC
      have HBC : Hid (Below w.heap.size w wC) := good_below HBA.out hbc
      have HBK2 : Hid (Blk wC gx 85 #[.string xp, .int .i64 xk, .int .i64 xi, .int .i64 xa, .slice za xc.length zc, .bool xm, .string xd]) := Blk.below HBK.out hbc
      clear hbc cp q0 HKP HBK HBA
      cases hR0 : ruleB0 ⟨xp, xk, xi, xa, xc, xm, xd⟩
      case false =>
        have hr := HBAD.out (fun h => by have := (HRA.out.1 h).1; rw [hR0] at this; cases this)
        subst hr
        go_wp2_with fail
        go_ret
        exact ⟨rfl, HBC.out⟩
      have HR0 : Hid (ruleB0 ⟨xp, xk, xi, xa, xc, xm, xd⟩ = true) := hR0
      have hdz : xd.size ≤ 200 := by
        unfold ruleB0 at hR0
        simp only [Bool.and_eq_true, decide_eq_true_eq] at hR0
        exact hR0.2
      clear hR0
      have hcc : 0 < xc.length → ∃ cb co, za = some ⟨cb, co, none⟩ ∧ cb < w.heap.size ∧ ∀ j (hj : j < xc.length), w.cell? ⟨cb, co + j, none⟩ = some (.string xc[j]) := fun h0 => by
        obtain ⟨_, ta, tc, htv, hcl⟩ := HNV.out
        simp only [Value.slice.injEq] at htv
        obtain ⟨rfl, -, rfl⟩ := htv
        obtain ⟨cb, co, rfl, hcS, hcl⟩ := hcl h0
        exact ⟨cb, co, rfl, HS.out cb hcS, hcl⟩
      have HCC : Hid (0 < xc.length → ∃ cb co, za = some ⟨cb, co, none⟩ ∧ cb < w.heap.size ∧ ∀ j (hj : j < xc.length), w.cell? ⟨cb, co + j, none⟩ = some (.string xc[j])) := hcc
      have q4 := HBK2.out.cell 4
      simp at q4
      clear hcc
      go_wp2_with fail
      go_loopw [5] (fun i5 wz => ∃ j : Nat, i5 = .int .i64 (j : Int) ∧ j ≤ xc.length ∧ (∀ i (hi : i < xc.length), i < j → xc[i].size ≤ 200) ∧ wz = wC) (fun i5 _ => xc.length - (intOf i5).toNat)
      case atStart => exact ⟨0, rfl, by omega, fun i _ h => by omega, rfl⟩
      case round =>
        obtain ⟨j, rfl, hj, hcs, rfl⟩ := hrel
        have HCS : Hid (∀ i (hi : i < xc.length), i < j → xc[i].size ≤ 200) := hcs
        clear hcs
        by_cases hjn : j < xc.length
        · have hjn' : (j : Int) < (xc.length : Int) := by omega
          obtain ⟨cb, co, rfl, hcw, hcl⟩ := HCC.out (by omega)
          have r0 := (HBC.out.cell (p := ⟨cb, co + j, none⟩) hcw).trans (hcl j hjn)
          have hcz := hokx.2.2.2 xc[j] (List.getElem_mem hjn)
          unfold TxtsOK at hcz
          have hst : xc[j].size ≤ 200 → ∀ i (hi : i < xc.length), i < j + 1 → xc[i].size ≤ 200 := fun h0 i hi hik => by
            by_cases e : i = j
            · subst e; exact h0
            · exact HCS.out i hi (by omega)
          have hbd : ¬ (xc[j].size ≤ 200) → ¬ RA := fun h0 h => h0 ((HRA.out.1 h).2.1 xc[j] (List.getElem_mem hjn))
          obtain ⟨y, hy⟩ : ∃ y, xc[j] = y := ⟨_, rfl⟩
          rw [hy] at r0 hcz hst hbd
          have HST : Hid (y.size ≤ 200 → ∀ i (hi : i < xc.length), i < j + 1 → xc[i].size ≤ 200) := hst
          have HBD : Hid (¬ (y.size ≤ 200) → ¬ RA) := hbd
          clear hy hst hbd hcl
          by_cases h200 : y.size ≤ 200
          · have h200' : ¬ ((200 : Int) < (y.size : Int)) := by omega
            go_wp2_with fail
            exact ⟨⟨j + 1, by go_num, by omega, HST.out h200, by trivial⟩, by simp [intOf]; omega⟩
          · have h200' : (200 : Int) < (y.size : Int) := by omega
            have hr := HBAD.out (HBD.out h200)
            subst hr
            go_wp2_with fail
            go_ret
            exact ⟨rfl, HBC.out⟩
        · obtain rfl : j = xc.length := by omega
          have hjn' : ¬ ((xc.length : Int) < (xc.length : Int)) := by omega
          have hcall : ∀ c ∈ xc, c.size ≤ 200 := fun c hc => by
            obtain ⟨i, hi, rfl⟩ := List.getElem_of_mem hc
            exact HCS.out i hi hi
          have HCALL : Hid (∀ c ∈ xc, c.size ≤ 200) := hcall
          obtain ⟨wE, hwE⟩ : ∃ wE, wE = wr := ⟨_, rfl⟩
          subst hwE
          clear hcall HCS
          go_wp2_with fail
          go_loopw [6] (fun i6 wz => ∃ j : Nat, i6 = .int .i64 (j : Int) ∧ j ≤ l.length ∧ (∀ i (hi : i < l.length), i < j → i ≠ k → withinB xp l[i].path = false) ∧ Below wE.heap.size wE wz) (fun i6 _ => l.length - (intOf i6).toNat)
          case atStart => exact ⟨0, rfl, by omega, fun i _ h => by omega, Below.refl _ _⟩
          case round =>
            obtain ⟨j, rfl, hj, hap, hbz⟩ := hrel
            have HAP : Hid (∀ i (hi : i < l.length), i < j → i ≠ k → withinB xp l[i].path = false) := hap
            have HBZ : Hid (Below wE.heap.size wE wr) := hbz
            have HBK3 : Hid (Blk wr gx 85 #[.string xp, .int .i64 xk, .int .i64 xi, .int .i64 xa, .slice za xc.length zc, .bool xm, .string xd]) := Blk.below HBK2.out hbz
            clear hap
            by_cases hjn : j < l.length
            · have hjl' : (j : Int) < (l.length : Int) := by omega
              by_cases hjk : j = k
              · subst hjk
                go_upto_region 17 with fail
                go_quiet (fail)
                go_wp2_with fail
                exact ⟨⟨j + 1, by go_num, by omega, fun i hi hij hne => HAP.out i hi (by omega) hne, bel_drewN HBZ.out nq⟩, by simp [intOf]; omega⟩
              obtain ⟨b', off', e', hbS', hcell'⟩ := HC.out (by omega)
              simp only [Option.some.injEq, Addr.mk.injEq] at e'
              obtain ⟨rfl, rfl, -⟩ := e'
              have r0 := (((good_below HBC.out hbz)).cell (p := ⟨b, off + j * 7, none⟩) hbw).trans (hcell' j hjn).1
              have r1 := HBK3.out.cell 0
              simp at r1
              have hjz := HOK.out l[j] (List.getElem_mem hjn)
              unfold RulesOK at hjz
              have hst : withinB xp l[j].path = false → ∀ i (hi : i < l.length), i < j + 1 → i ≠ k → withinB xp l[i].path = false := fun h0 i hi hik hne => by
                by_cases e : i = j
                · subst e; exact h0
                · exact HAP.out i hi (by omega) hne
              have hbd : withinB xp l[j].path = true → ¬ RA := fun h0 h => by
                have := (HRA.out.1 h).2.2.1 j hjn hjk
                rw [h0] at this; cases this
              obtain ⟨y, hy⟩ : ∃ y, l[j].path = y := ⟨_, rfl⟩
              rw [hy] at r0 hjz hst hbd
              have HST : Hid (withinB xp y = false → ∀ i (hi : i < l.length), i < j + 1 → i ≠ k → withinB xp l[i].path = false) := hst
              have HBD : Hid (withinB xp y = true → ¬ RA) := hbd
              have cw := fun w => specWithinR xp y (by omega) (by omega) w
              obtain ⟨B1, hB1⟩ : ∃ B1, withinB xp y = B1 := ⟨_, rfl⟩
              rw [hB1] at cw HST HBD
              have hjk' : ¬ ((j : Int) = (k : Int)) := by omega
              have hjk2 : ((j : Int) == (k : Int)) = false := by rw [beq_eq_false_iff_ne]; omega
              clear hy hst hbd hcell' hB1
              cases B1
              · go_upto_region 17 with fail
                go_quiet ((go_at_call 61; exact Calls.quiet_of_same (cw _)))
                go_wp2_with fail
                exact ⟨⟨j + 1, by go_num, by omega, HST.out rfl, bel_drewN HBZ.out nq⟩, by simp [intOf]; omega⟩
              · have hr := HBAD.out (HBD.out rfl)
                subst hr
                go_upto_region 17 with fail
                go_quiet ((go_at_call 61; exact Calls.quiet_of_same (cw _)))
                go_wp2_with fail
                go_ret
                exact ⟨rfl, good_below HBC.out (bel_drewN HBZ.out nq)⟩
            · obtain rfl : j = l.length := by omega
              have hjl' : ¬ ((l.length : Int) < (l.length : Int)) := by omega
              have hapa : ∀ i (hi : i < l.length), i ≠ k → withinB xp l[i].path = false := fun i hi hne => HAP.out i hi hi hne
              have HAPA : Hid (∀ i (hi : i < l.length), i ≠ k → withinB xp l[i].path = false) := hapa
              have hbw2 := good_below HBC.out hbz
              have HBW2 : Hid (Below w.heap.size w wr) := hbw2
              have cf := specFit (w := wr) ⟨xp, xk, xi, xa, xc, xm, xd⟩ (.slice za xc.length zc) (fun b hb => Nat.lt_of_lt_of_le (HS.out b hb) hbw2.size) (HNV.out.keep (cells_below HS.out hbw2)) xd (by omega)
              unfold rVal at cf
              have hdb : defB ⟨xp, xk, xi, xa, xc, xm, xd⟩ = ((xd.toList == []) || ((fitP ⟨xp, xk, xi, xa, xc, xm, xd⟩ xd).2 == 0)) := rfl
              obtain ⟨FV, hFV⟩ : ∃ FV, fitP ⟨xp, xk, xi, xa, xc, xm, xd⟩ xd = FV := ⟨_, rfl⟩
              rw [hFV] at cf hdb
              obtain ⟨f1, f2⟩ := FV
              dsimp only at cf hdb
              have HDB : Hid (defB ⟨xp, xk, xi, xa, xc, xm, xd⟩ = ((xd.toList == []) || (f2 == 0))) := hdb
              have s0 := HBK3.out.cell 0
              have s1 := HBK3.out.cell 1
              have s2 := HBK3.out.cell 2
              have s3 := HBK3.out.cell 3
              have s4 := HBK3.out.cell 4
              have s5 := HBK3.out.cell 5
              have s6 := HBK3.out.cell 6
              simp at s0 s1 s2 s3 s4 s5 s6
              clear hapa hbz hbw2 hFV hdb q4
              cases hd : (xd.toList == [])
              case true =>
                have hd1 := HDB.out
                rw [hd, Bool.true_or] at hd1
                have HGO : Hid RA := HRA.out.2 ⟨HR0.out, HCALL.out, HAPA.out, hd1⟩
                clear hd1 cf
                go_wp2_with fail
                exact ⟨⟨k + 1, by go_num, by omega, HSTEP.out HGO.out, HBW2.out⟩, by simp [intOf]; omega⟩
              cases hf : (f2 == 0)
              case true =>
                have hd1 := HDB.out
                rw [hf, Bool.or_true] at hd1
                have HGO : Hid RA := HRA.out.2 ⟨HR0.out, HCALL.out, HAPA.out, hd1⟩
                clear hd1
                go_wp2_with (go_at_call 48; go_must (refine cf.mono ?_; rintro e w9 ⟨rfl, hb9⟩))
                exact ⟨⟨k + 1, by go_num, by omega, HSTEP.out HGO.out, good_below HBW2.out hb9⟩, by simp [intOf]; omega⟩
              have hd1 := HDB.out
              rw [hf, hd, Bool.or_false] at hd1
              have hr := HBAD.out (fun h => by have := (HRA.out.1 h).2.2.2; rw [hd1] at this; cases this)
              subst hr
              clear hd1
              go_wp2_with (go_at_call 48; go_must (refine cf.mono ?_; rintro e w9 ⟨rfl, hb9⟩))
              go_ret
              exact ⟨rfl, good_below HBW2.out hb9⟩
end Go.Proofs.YtoopdcbgnccmiaaGreatDoor

namespace Go.Proofs
open Go.Shelf
def Tryz.cloneM_ren : Go.Shelf.Ren := ⟨fun | 5 => 67 | 7 => 104 | n => n, fun | 23 => 92 | 25 => 9 | 3 => 105 | 4 => 4 | 20 => 20 | n => n, fun | n => n⟩
theorem Tryz.cloneM : Go.Proofs.SlLaysW.n5 Tryz.prog Tryz.cloneM_ren := {
  mixed := by kernel_rfl
  f5 := ⟨Tryz.f67.name, by decide, Tryz.func67.trans (congrArg some (by kernel_rfl))⟩
  f7 := Tryz.func104.trans (congrArg some (by kernel_rfl))
  t4 := Tryz.underlying4
  a4 := Tryz.isAgg4
  z4 := Tryz.sizeOf4
  v4 := Tryz.zeroValue4
  t20 := Tryz.underlying20
  a20 := Tryz.isAgg20
  z20 := Tryz.sizeOf20
  v20 := Tryz.zeroValue20
  t23 := Tryz.underlying92
  a23 := Tryz.isAgg92
  z23 := Tryz.sizeOf92
  v23 := Tryz.zeroValue92 }
end Go.Proofs
