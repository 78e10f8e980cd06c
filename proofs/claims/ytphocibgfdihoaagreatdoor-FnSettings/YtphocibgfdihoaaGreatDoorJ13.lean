/-
  The law on settings over drawn rules and layers: its walk. No statement of the seat is proved here.
-/
import Derived.Test.YtphocibgfdihoaaGreatDoorJ12
import Derived.Deep.Cut
import Derived.Deep.CutRange
import Derived.Deep.CutBlock
namespace Go.Proofs.YtphocibgfdihoaaGreatDoor
open Go.ChangeShapes Go.WideShapes Go.ChangeAt Go.RowKit
set_option linter.unusedVariables false
set_option linter.unusedSimpArgs false

set_option maxRecDepth 100000 in
set_option maxHeartbeats 64000000 in
theorem settingsWalk (w : World) (a0 : Option Addr) (len0 cap0 : Nat) (a1 : Option Addr) (len1 cap1 : Nat)
    (hc0 : ∀ i, i < len0 → ∃ cb co, a0 = some ⟨cb, co, none⟩ ∧ cb < w.heap.size ∧ ∃ b : Nat, b < 256 ∧ w.cell? ⟨cb, co + i, none⟩ = some (.int .u8 b))
    (hc1 : ∀ i, i < len1 → ∃ cb co, a1 = some ⟨cb, co, none⟩ ∧ cb < w.heap.size ∧ ∃ b : Nat, b < 256 ∧ w.cell? ⟨cb, co + i, none⟩ = some (.int .u8 b)) (hT : ∀ W, Below w.heap.size w W → Lib.Utf8Tabs 1 2 W) :
    Calls Tryz.prog 3 #[.slice a0 len0 cap0, .slice a1 len1 cap1] w fun e w' => e = .returned (.bool true) ∧ Below w.heap.size w w' := by
  by_cases hb0 : 1048576 < len0
  · have hb0' : (1048576 : Int) < (len0 : Int) := by omega
    clear hc0 hc1 hT
    go_enter Tryz.func3, Tryz.ntmps3
    go_wp2_with fail
    go_ret
    exact ⟨rfl, Below.refl _ _⟩
  have hb0' : ¬ (1048576 : Int) < (len0 : Int) := by omega
  by_cases hb1 : 1048576 < len1
  · have hb1' : (1048576 : Int) < (len1 : Int) := by omega
    clear hc0 hc1 hT
    go_enter Tryz.func3, Tryz.ntmps3
    go_wp2_with fail
    go_ret
    exact ⟨rfl, Below.refl _ _⟩
  have hb1' : ¬ (1048576 : Int) < (len1 : Int) := by omega
  have c4 := drawRulesOf a0 len0 cap0 w (by omega) hc0
  have c5 := fun W (hW : Below w.heap.size w W) => drawLayersOf a1 len1 cap1 W (by omega) (fun i hi => by
    obtain ⟨cb, co, ha, hcb, b, hb, hcell⟩ := hc1 i hi
    exact ⟨cb, co, ha, Nat.lt_of_lt_of_le hcb hW.size, b, hb, (hW.cell (p := ⟨cb, co + i, none⟩) hcb).trans hcell⟩)
  have HT : Hid (∀ W, Below w.heap.size w W → Lib.Utf8Tabs 1 2 W) := hT
  clear hc0 hc1 hT
  go_enter Tryz.func3, Tryz.ntmps3
  go_upto_region 5 with (first
    | (go_at_call 4; go_must (refine c4.mono ?_; rintro e w1 ⟨⟨v0, l0, rfl, hat0, hgr⟩, hbw1⟩))
    | (go_at_call 5; go_must (refine (c5 _ hbw1).mono ?_; rintro e w2 ⟨⟨v1, l1, rfl, hat1, hgl⟩, hb12⟩)))
  have hbw2 : Below w.heap.size w w2 := good_below hbw1 hb12
  have hr0 : RulesAt (fun b => b < w2.heap.size) w2 v0 l0 := (hat0.keep (cells_below (fun b h => h.2) hb12)).mono (fun b h => Nat.lt_of_lt_of_le h.2 hb12.size)
  have hr1 : LayersAt (fun b => b < w2.heap.size) w2 v1 l1 := hat1.mono (fun b h => h.2)
  obtain ⟨ra, rc, hv0⟩ := hr0.shape
  obtain ⟨la, lc, hv1⟩ := hr1.shape
  subst hv0 hv1
  have HRL : Hid (RlRow w2 ra l0) := hr0.rlRow (fun b h => h)
  have hok1 : ∀ x ∈ l1, LayersOK 1048576 x := fun x hx => lay_fits (hgl.2.1 x hx)
  have hl7 : l0.length ≤ 7 := hgr.2.2.1
  have hl7' : (l0.length : Int) ≤ 7 := by omega
  have hl4 : l1.length ≤ 4 := hgl.2.2.1
  have hTW : ∀ W, Below w2.heap.size w2 W → ∀ W', Below W.heap.size W W' → Lib.Utf8Tabs 1 2 W' := fun W hW W' hW' => HT.out W' (good_below (good_below hbw2 hW) hW')
  have cv := fun (W : World) (hW : Below w2.heap.size w2 W) => specValidate (fun _ => True) (fun b => b < w2.heap.size) l0 l1 _ _ W (fun b h => Nat.lt_of_lt_of_le h hW.size) (hr0.keep (cells_below (fun b h => h) hW)) (by omega) hgr.2.1 (hr1.keep (cells_below (fun b h => h) hW)) (by omega) hok1 (fun _ _ => trivial)
  have ci := fun (W : World) (hW : Below w2.heap.size w2 W) => implValidate (fun b => b < w2.heap.size) l0 l1 _ _ W (fun b h => Nat.lt_of_lt_of_le h hW.size) (hr0.keep (cells_below (fun b h => h) hW)) (by omega) hgr.2.1 (hr1.keep (cells_below (fun b h => h) hW)) (by omega) hok1 (hTW W hW)
  have cm := fun (W : World) (hW : Below w2.heap.size w2 W) => specMerge (fun _ => True) (fun b => b < w2.heap.size) l1 _ W (fun b h => Nat.lt_of_lt_of_le h hW.size) (hr1.keep (cells_below (fun b h => h) hW)) (by omega) hok1 (fun _ _ => trivial)
  have cl := fun (W : World) (hW : Below w2.heap.size w2 W) (p : ByteArray) (hp : p.size ≤ 1048576) => implLookup (fun b => b < w2.heap.size) l0 l1 p _ _ W (fun b h => Nat.lt_of_lt_of_le h hW.size) (hr0.keep (cells_below (fun b h => h) hW)) (by omega) hgr.2.1 (hr1.keep (cells_below (fun b h => h) hW)) (by omega) hok1 hp (hTW W hW)
  have hvr := valid_right hgr.1 hgl.1 hl7
  have hvl := valid_len l0 l1
  have hmf : mergeF l1 = (laidF (overP l1), 0) := by unfold mergeF; rw [if_neg (by omega), hgl.1, if_pos rfl]
  have hlr := fun (i : Nat) (hi : i < l0.length) => look_right hgr.1 hgl.1 hl7 hgr.2.2.2 hi
  have hrs := fun (i : Nat) (hi : i < l0.length) (s : Setting) (hs : lookS (laidF (overP l1)) l0[i].path = some s) => rule_some hgr.1 (laid_rises (overP l1)) hi hs
  have hlen := laid_len hgl.1
  have hrise := laid_rises (overP l1)
  have hfair := laid_fair hok1
  have hws := fun (ps : List ByteArray) (hp : ps = (laidF (overP l1)).map Setting.path) => watch_same hgl.1 hp
  have hwc := fun (ps : List ByteArray) (hp : ps = (laidF (overP l1)).map Setting.path) => watch_come hgl.1 hp
  rw [hvr.1] at hvl
  simp only [hvr.1, hvr.2] at cv ci
  simp only [hmf] at cm
  obtain ⟨O, hO⟩ : ∃ O, laidF (overP l1) = O := ⟨_, rfl⟩
  rw [hO] at hvl cv ci cm hlr hrs hlen hrise hfair hws hwc
  obtain ⟨FS, hFS⟩ : ∃ FS, faultsF l0 O = FS := ⟨_, rfl⟩
  rw [hFS] at hvl cv ci hrs
  have hvl' : (FS.length : Int) ≤ 1000000 := by omega
  have hlen' : (O.length : Int) ≤ 2000 := by omega
  have HB2 : Hid (Below w.heap.size w w2) := hbw2
  have HLR : Hid (∀ (i : Nat) (hi : i < l0.length), lookA l0 l1 l0[i].path = ruleA l0[i] (lookS O l0[i].path)) := hlr
  have HRS : Hid (∀ (i : Nat) (hi : i < l0.length) (s : Setting) (hs : lookS O l0[i].path = some s), (ruleA l0[i] (some s)).2.2.2 = lastF FS l0[i].path ∧ (((ruleA l0[i] (some s)).2.2.2 == 0) = true → (ruleA l0[i] (some s)).1 = s.text ∧ (ruleA l0[i] (some s)).2.2.1 = s.from')) := hrs
  have HRI : Hid (SRises O) := hrise
  have HFAIR : Hid (Fair O) := hfair
  have HWS : Hid (∀ (ps : List ByteArray) (hp : ps = O.map Setting.path), watchL l1 l1 ps = [] ∧ watchC l1 l1 ps = 0) := hws
  have HWC : Hid (∀ (ps : List ByteArray) (hp : ps = O.map Setting.path), watchL [] l1 ps = O.filterMap comeOf ∧ watchC [] l1 ps = 0) := hwc
  have HR1 : Hid (LayersAt (fun b => b < w2.heap.size) w2 (.slice la l1.length lc) l1) := hr1
  have HOK1 : Hid (∀ x ∈ l1, LayersOK 1048576 x) := hok1
  have HPS : Hid (∀ x ∈ l0, x.path.size ≤ 30) := hgr.2.2.2
  have HTW : Hid (∀ W, Below w2.heap.size w2 W → ∀ W', Below W.heap.size W W' → Lib.Utf8Tabs 1 2 W') := hTW
  have HCL : Hid (∀ (W : World) (hW : Below w2.heap.size w2 W) (p : ByteArray) (hp : p.size ≤ 1048576), Calls Tryz.prog 9 #[.slice ra l0.length rc, .slice la l1.length lc, .string p] W fun e w' => e = .returned (.tuple #[.string (look0 l0 l1 p), .int .i64 (look1 l0 l1 p), .string (look2 l0 l1 p), .int .i64 (look3 l0 l1 p)]) ∧ Below W.heap.size W w') := cl
  have HCM : Hid _ := cm
  clear hat0 hat1 hr0 hr1 hok1 hTW cl hvr hmf hlr hrs hrise hfair hws hwc hO hFS hgr hgl hbw1 hb12 hbw2 c4 c5 cm
  go_upto_region 9 with (first
    | (go_at_call 6; go_must (refine (cv _ (Below.refl _ w2)).mono ?_; rintro e w3 ⟨⟨p3, rfl, how3⟩, hb3⟩; obtain ⟨fa, fc, hfv, hfr⟩ := how3.fltRow; subst hfv))
    | (go_at_call 7; go_must (refine (ci _ hb3).mono ?_; rintro e w4 ⟨⟨p4, rfl, how4⟩, hb4⟩; obtain ⟨ga, gc, hgv, hgf⟩ := how4.fltRow; subst hgv)))
  have HF3 : Hid (FltRow w4 fa FS) := hfr.below hb4
  have HF4 : Hid (FltRow w4 ga FS) := hgf
  have HB4 : Hid (Below w2.heap.size w2 w4) := good_below hb3 hb4
  clear hfr hgf how3 how4 hb3 hb4 cv ci
  go_wp2_with fail
  go_loopw [11] (fun i11 wr => ∃ (k : Nat), i11 = .int .i64 (k : Int) ∧ k ≤ FS.length ∧ Below w4.heap.size w4 wr) (fun i11 _ => FS.length - (intOf i11).toNat)
  case atStart => exact ⟨0, rfl, by omega, Below.refl _ _⟩
  case round =>
    obtain ⟨k, rfl, hk, hb⟩ := hrel
    by_cases hkn : k < FS.length
    · have hkn' : (k : Int) < (FS.length : Int) := by omega
      obtain ⟨g1, rfl, hg1, hc1⟩ := (HF3.out.below hb) (by omega)
      obtain ⟨g2, rfl, hg2, hc2⟩ := (HF4.out.below hb) (by omega)
      obtain ⟨x0, x1, x2⟩ := hc1 k hkn
      obtain ⟨y0, y1, y2⟩ := hc2 k hkn
      obtain ⟨x, hx⟩ : ∃ x, FS[k] = x := ⟨_, rfl⟩
      rw [hx] at x0 x1 x2 y0 y1 y2
      clear hx hc1 hc2
      obtain ⟨xc, xp, xf⟩ := x
      dsimp only at x0 x1 x2 y0 y1 y2
      go_wp2_with fail
      go_quiet (fail)
      go_wp2_with fail
      exact ⟨⟨k + 1, by go_num, by omega, bel_drewN hb _⟩, by simp [intOf]; omega⟩
    · obtain rfl : k = FS.length := by omega
      have hkn' : ¬ ((FS.length : Int) < (FS.length : Int)) := by omega
      have cm := HCM.out wr (good_below HB4.out hb)
      have HF5 : Hid (FltRow wr fa FS) := HF3.out.below hb
      have HB5 : Hid (Below w2.heap.size w2 wr) := good_below HB4.out hb
      clear HF3 HF4 HB4 HCM hb
      go_upto_region 15 with (go_at_call 8; go_must (refine cm.mono ?_; rintro e w5 ⟨⟨p5, rfl, how5⟩, hb5⟩; obtain ⟨sa, sc, hsv, hsr⟩ := how5.stRow; subst hsv))
      have HF6 : Hid (FltRow w5 fa FS) := HF5.out.below hb5
      have HS6 : Hid (StRow w5 sa O) := hsr
      have HB6 : Hid (Below w2.heap.size w2 w5) := good_below HB5.out hb5
      have HR6 : Hid (RlRow w5 ra l0) := HRL.out.below HB6.out
      clear hsr how5 hb5 HF5 HB5 cm
      go_wp2_with fail
      go_loopw [14] (fun i14 wr => ∃ (i : Nat), i14 = .int .i64 (i : Int) ∧ i ≤ l0.length ∧ Below w5.heap.size w5 wr) (fun i14 _ => l0.length - (intOf i14).toNat)
      case atStart => exact ⟨0, rfl, by omega, Below.refl _ _⟩
      case round =>
        obtain ⟨i, rfl, hi, hb⟩ := hrel
        by_cases hin : i < l0.length
        · have hin' : (i : Int) < (l0.length : Int) := by omega
          obtain ⟨wI, hwI⟩ : ∃ wI, wI = wr := ⟨_, rfl⟩
          subst hwI
          obtain ⟨rg, roff, rfl, hrg, hrc⟩ := (HR6.out.below hb) (by omega)
          obtain ⟨r0, r6⟩ := hrc i hin
          have hlr := HLR.out i hin
          have hrs := HRS.out i hin
          have hpz := HPS.out l0[i] (List.getElem_mem hin)
          have hcl := fun (W : World) (hW : Below w2.heap.size w2 W) => HCL.out W hW l0[i].path (by omega)
          unfold look0 look1 look2 look3 at hcl
          simp only [hlr] at hcl
          have hnone : ruleA l0[i] none = if (l0[i].default'.toList == []) = true then noneA 5 else (l0[i].default', (fitP l0[i] l0[i].default').1, ⟨#[]⟩, 0) := rfl
          obtain ⟨RA, hRA⟩ : ∃ RA : Option Setting → LookR, ruleA l0[i] = RA := ⟨_, rfl⟩
          rw [hRA] at hcl hrs hnone
          obtain ⟨fz, hfz⟩ : ∃ fz, (fitP l0[i] l0[i].default').1 = fz := ⟨_, rfl⟩
          rw [hfz] at hnone
          obtain ⟨p, hp⟩ : ∃ p, l0[i].path = p := ⟨_, rfl⟩
          obtain ⟨d, hd⟩ : ∃ d, l0[i].default' = d := ⟨_, rfl⟩
          rw [hp] at r0 hcl hrs
          rw [hd] at r6 hnone
          have HRS2 : Hid (∀ (s : Setting) (hs : lookS O p = some s), (RA (some s)).2.2.2 = lastF FS p ∧ (((RA (some s)).2.2.2 == 0) = true → (RA (some s)).1 = s.text ∧ (RA (some s)).2.2.1 = s.from')) := hrs
          have HNO : Hid (RA none = if (d.toList == []) = true then noneA 5 else (d, fz, ⟨#[]⟩, 0)) := hnone
          have HC2 : Hid _ := hcl
          have HFI : Hid (FltRow wI fa FS) := HF6.out.below hb
          have HSI : Hid (StRow wI sa O) := HS6.out.below hb
          have HBI : Hid (Below w5.heap.size w5 wI) := hb
          have HBJ : Hid (Below w2.heap.size w2 wI) := good_below HB6.out hb
          clear hlr hrs hpz hcl hnone hRA hfz hp hd hrc hb
          go_wp2_with fail
          go_loopw [15, 16] (fun i15 i16 wr => ∃ (k : Nat) (f : Int), i16 = .int .i64 (k : Int) ∧ i15 = .int .i64 f ∧ k ≤ FS.length ∧ (FS.take k).foldl (faultStep p) 0 = f ∧ Below wI.heap.size wI wr) (fun _ i16 _ => FS.length - (intOf i16).toNat)
          case atStart => exact ⟨0, 0, rfl, rfl, by omega, rfl, Below.refl _ _⟩
          case round =>
            obtain ⟨k, f, rfl, rfl, hk, hf, hb2⟩ := hrel
            have HFO : Hid ((FS.take k).foldl (faultStep p) 0 = f) := hf
            clear hf
            have r0w := (hb2.cell (p := ⟨rg, roff + i * 7, none⟩) hrg).trans r0
            by_cases hkn : k < FS.length
            · have hkn' : (k : Int) < (FS.length : Int) := by omega
              obtain ⟨g1, rfl, hg1, hc1⟩ := (HFI.out.below hb2) (by omega)
              obtain ⟨x0, x1, _⟩ := hc1 k hkn
              have hst := fold_step (p := p) FS k hkn
              rw [HFO.out] at hst
              obtain ⟨x, hx⟩ : ∃ x, FS[k] = x := ⟨_, rfl⟩
              rw [hx] at x0 x1 hst
              clear hx hc1
              obtain ⟨xc, xp, xf⟩ := x
              dsimp only at x0 x1
              unfold faultStep at hst
              dsimp only at hst
              cases hcmp : xp.toList == p.toList
              · rw [hcmp, if_neg (by simp)] at hst
                have HST : Hid ((FS.take (k + 1)).foldl (faultStep p) 0 = f) := hst
                clear hst
                go_wp2_with fail
                go_quiet (fail)
                go_wp2_with fail
                exact ⟨⟨k + 1, f, by go_num, rfl, by omega, HST.out, bel_drewN hb2 _⟩, by simp [intOf]; omega⟩
              · rw [hcmp, if_pos rfl] at hst
                have HST : Hid ((FS.take (k + 1)).foldl (faultStep p) 0 = xc) := hst
                clear hst
                go_wp2_with fail
                go_quiet (fail)
                have z0 : (wr.drewN nq).cell? ⟨g1, k * 3, none⟩ = some (.int .i64 xc) := x0
                go_wp2_with fail
                exact ⟨⟨k + 1, xc, by go_num, rfl, by omega, HST.out, bel_drewN hb2 _⟩, by simp [intOf]; omega⟩
            · obtain rfl : k = FS.length := by omega
              have hkn' : ¬ ((FS.length : Int) < (FS.length : Int)) := by omega
              have hf := HFO.out
              rw [List.take_length] at hf
              have HLF : Hid (lastF FS p = f) := hf
              clear hf HFO
              obtain ⟨wJ, hwJ⟩ : ∃ wJ, wJ = wr := ⟨_, rfl⟩
              subst hwJ
              have HB2J : Hid (Below wI.heap.size wI wJ) := hb2
              have hrgJ : rg < wJ.heap.size := Nat.lt_of_lt_of_le hrg hb2.size
              have r6w := (hb2.cell (p := ⟨rg, roff + i * 7 + 6, none⟩) hrg).trans r6
              have HSJ : Hid (StRow wJ sa O) := HSI.out.below hb2
              have HR0 : Hid (wJ.cell? ⟨rg, roff + i * 7, none⟩ = some (.string p)) := r0w
              have HR6w : Hid (wJ.cell? ⟨rg, roff + i * 7 + 6, none⟩ = some (.string d)) := r6w
              clear r0 r6 r0w r6w hb2
              go_wp2_with fail
              go_loopw [17, 18, 19, 20] (fun i17 i18 i19 i20 wr => ∃ (k : Nat) (t fr : ByteArray) (is : Bool), i20 = .int .i64 (k : Int) ∧ i17 = .string t ∧ i18 = .string fr ∧ i19 = .bool is ∧ k ≤ O.length ∧ SetIn O p k t fr is ∧ Below wJ.heap.size wJ wr) (fun _ _ _ i20 _ => O.length - (intOf i20).toNat)
              case atStart => exact ⟨0, _, _, _, rfl, rfl, rfl, rfl, by omega, .inl ⟨rfl, rfl, rfl, fun i _ h => by omega⟩, Below.refl _ _⟩
              case round =>
                obtain ⟨k, t, fr, is, rfl, rfl, rfl, rfl, hk, hsi, hb3⟩ := hrel
                have HSN : Hid (SetIn O p k t fr is) := hsi
                have r0w := (hb3.cell (p := ⟨rg, roff + i * 7, none⟩) hrgJ).trans HR0.out
                have r6w := (hb3.cell (p := ⟨rg, roff + i * 7 + 6, none⟩) hrgJ).trans HR6w.out
                clear hsi
                by_cases hkn : k < O.length
                · have hkn' : (k : Int) < (O.length : Int) := by omega
                  obtain ⟨g1, rfl, hg1, hc1⟩ := (HSJ.out.below hb3) (by omega)
                  obtain ⟨x0, x1, x2⟩ := hc1 k hkn
                  have hhit := fun h => SetIn.hit (p := p) hkn h
                  have hskip := fun h => HSN.out.skip hkn h
                  obtain ⟨x, hx⟩ : ∃ x, O[k] = x := ⟨_, rfl⟩
                  rw [hx] at x0 x1 x2 hhit hskip
                  clear hx hc1
                  obtain ⟨xp, xt, xf⟩ := x
                  dsimp only at x0 x1 x2 hhit hskip
                  cases hcmp : xp.toList == p.toList
                  · have HSK : Hid (SetIn O p (k + 1) t fr is) := hskip hcmp
                    clear hhit hskip
                    go_wp2_with fail
                    go_quiet (fail)
                    go_wp2_with fail
                    exact ⟨⟨k + 1, t, fr, is, by go_num, rfl, rfl, rfl, by omega, HSK.out, bel_drewN hb3 _⟩, by simp [intOf]; omega⟩
                  · have HSK : Hid (SetIn O p (k + 1) xt xf true) := hhit hcmp
                    clear hhit hskip
                    go_wp2_with fail
                    go_quiet (fail)
                    have z1 : (wr.drewN nq).cell? ⟨g1, k * 3 + 1, none⟩ = some (.string xt) := x1
                    have z2 : (wr.drewN nq).cell? ⟨g1, k * 3 + 2, none⟩ = some (.string xf) := x2
                    go_wp2_with fail
                    exact ⟨⟨k + 1, xt, xf, true, by go_num, rfl, rfl, rfl, by omega, HSK.out, bel_drewN hb3 _⟩, by simp [intOf]; omega⟩
                · obtain rfl : k = O.length := by omega
                  have hkn' : ¬ ((O.length : Int) < (O.length : Int)) := by omega
                  have hdone := HSN.out.done HRI.out
                  have hcl := HC2.out wr (good_below (good_below HBJ.out HB2J.out) hb3)
                  have hrgR : rg < wr.heap.size := Nat.lt_of_lt_of_le hrgJ hb3.size
                  have HBE : Hid (Below w5.heap.size w5 wr) := good_below (good_below HBI.out HB2J.out) hb3
                  clear HSN hb3
                  rcases hdone with ⟨rfl, hls⟩ | ⟨rfl, s, hls, ht, hfrm⟩
                  · rw [hls, HNO.out] at hcl
                    cases hde : d.toList == []
                    · rw [hde, if_neg (by simp)] at hcl
                      dsimp only at hcl
                      clear hls
                      go_wp2_with (go_at_call 9; go_must (refine hcl.mono ?_; rintro e w7 ⟨rfl, hb7⟩; have q6 := (hb7.cell (p := ⟨rg, roff + i * 7 + 6, none⟩) hrgR).trans r6w))
                      exact ⟨⟨i + 1, by go_num, by omega, good_below HBE.out hb7⟩, by simp [intOf]; omega⟩
                    · rw [hde, if_pos rfl] at hcl
                      unfold noneA at hcl
                      dsimp only at hcl
                      clear hls
                      go_wp2_with (go_at_call 9; go_must (refine hcl.mono ?_; rintro e w7 ⟨rfl, hb7⟩; have q6 := (hb7.cell (p := ⟨rg, roff + i * 7 + 6, none⟩) hrgR).trans r6w))
                      exact ⟨⟨i + 1, by go_num, by omega, good_below HBE.out hb7⟩, by simp [intOf]; omega⟩
                  · rw [hls] at hcl
                    obtain ⟨h1, h2⟩ := HRS2.out s hls
                    rw [HLF.out] at h1
                    obtain ⟨⟨T, V, BY, C⟩, hAA⟩ : ∃ AA : LookR, RA (some s) = AA := ⟨_, rfl⟩
                    rw [hAA] at hcl h1 h2
                    dsimp only at hcl h1 h2
                    subst ht hfrm
                    clear hls hAA
                    cases hCz : C == 0
                    · have hfC : Hid (C = f) := h1
                      have hne1 : (f == 0) = false := by rw [← h1]; exact hCz
                      rw [h1] at hcl
                      clear h1 h2 hCz
                      go_wp2_with (go_at_call 9; go_must (refine hcl.mono ?_; rintro e w7 ⟨rfl, hb7⟩; have q6 := (hb7.cell (p := ⟨rg, roff + i * 7 + 6, none⟩) hrgR).trans r6w))
                      exact ⟨⟨i + 1, by go_num, by omega, good_below HBE.out hb7⟩, by simp [intOf]; omega⟩
                    · obtain ⟨e1, e2⟩ := h2 hCz
                      have hC0 : C = 0 := eq_of_beq hCz
                      rw [e1, e2, hC0] at hcl
                      rw [hC0] at h1
                      have hf0 : f = 0 := h1.symm
                      subst hf0
                      clear h1 h2 hCz e1 e2 hC0
                      obtain ⟨st, hst⟩ : ∃ st, s.text = st := ⟨_, rfl⟩
                      obtain ⟨sf, hsf⟩ : ∃ sf, s.from' = sf := ⟨_, rfl⟩
                      rw [hst, hsf] at hcl
                      rw [hst, hsf]
                      clear hst hsf
                      go_wp2_with (go_at_call 9; go_must (refine hcl.mono ?_; rintro e w7 ⟨rfl, hb7⟩; have q6 := (hb7.cell (p := ⟨rg, roff + i * 7 + 6, none⟩) hrgR).trans r6w))
                      exact ⟨⟨i + 1, by go_num, by omega, good_below HBE.out hb7⟩, by simp [intOf]; omega⟩
        · obtain rfl : i = l0.length := by omega
          have hin' : ¬ ((l0.length : Int) < (l0.length : Int)) := by omega
          obtain ⟨wX, hwX⟩ : ∃ wX, wX = wr := ⟨_, rfl⟩
          subst hwX
          have HSX : Hid (StRow wX sa O) := HS6.out.below hb
          have HBX : Hid (Below w2.heap.size w2 wX) := good_below HB6.out hb
          have HET : Hid (OwnTxts wX.heap.size (wX.alloc (.cells #[] 9)) (.slice (some ⟨wX.heap.size, 0, none⟩) 0 0) []) := OwnTxts.empty _ wX (Nat.le_refl _)
          clear hb HF6 HS6 HB6 HR6 HLR HRS HCL
          go_wp2_with fail
          go_loopw [25, 26, 27] (fun i25 i26 i27 wr => ∃ (k : Nat) (ta : Option Addr) (tc : Nat) (n : Nat), i27 = .int .i64 (k : Int) ∧ i25 = .slice ta k tc ∧ i26 = .int .i64 (n : Int) ∧ k ≤ O.length ∧ n ≤ 2000 ∧ filledN (O.take k) = n ∧ OwnTxts wX.heap.size wr (.slice ta k tc) ((O.map Setting.path).take k) ∧ Below wX.heap.size wX wr) (fun _ _ i27 _ => O.length - (intOf i27).toNat)
          case atStart => exact ⟨0, _, 0, 0, rfl, rfl, rfl, by omega, by omega, rfl, HET.out, (Below.refl _ wX).alloc (Nat.le_refl _) _⟩
          case round =>
            obtain ⟨k, ta, tc, n, rfl, rfl, rfl, hk, hn2, hfn, hot, hb⟩ := hrel
            have hbs := hb.size
            have HFN : Hid (filledN (O.take k) = n) := hfn
            have HOT : Hid (OwnTxts wX.heap.size wr (.slice ta k tc) ((O.map Setting.path).take k)) := hot
            clear hfn hot
            by_cases hkn : k < O.length
            · have hkn' : (k : Int) < (O.length : Int) := by omega
              obtain ⟨g1, rfl, hg1, hc1⟩ := HSX.out (by omega)
              obtain ⟨x0, x1, _⟩ := hc1 k hkn
              have htk : (O.map Setting.path).take (k + 1) = (O.map Setting.path).take k ++ [O[k].path] := by
                rw [List.take_succ_eq_append_getElem (by simpa using hkn)]
                simp
              have hfs := filled_step O k hkn
              have hfl := filled_le O (k + 1)
              rw [HFN.out] at hfs
              obtain ⟨x, hx⟩ : ∃ x, O[k] = x := ⟨_, rfl⟩
              rw [hx] at x0 x1 htk hfs
              clear hx hc1
              obtain ⟨xp, xt, xf⟩ := x
              dsimp only at x0 x1 htk hfs
              have y0 := (hb.cell (p := ⟨g1, k * 3, none⟩) hg1).trans x0
              have HTK : Hid ((O.map Setting.path).take (k + 1) = (O.map Setting.path).take k ++ [xp]) := htk
              have HOTA : Hid (OwnTxts wX.heap.size (wr.alloc (.cells #[.string xp] 9)) (.slice ta k tc) ((O.map Setting.path).take k)) := OwnTxts.below HOT.out ((Below.refl _ wr).alloc (Nat.le_refl _) _)
              clear htk
              cases hxe : xt.toList == []
              · rw [hxe, if_neg (by simp)] at hfs
                rw [hfs] at hfl
                have HFS : Hid (filledN (O.take (k + 1)) = n + 1) := hfs
                have hn1 : n + 1 ≤ 2000 := by omega
                clear hfs hfl
                go_wp2_with (at_builtin; go_must (refine wpList_appendTxts rfl (.tmp 224) (.tmp 230) rfl wX.heap.size (.slice ta k tc) ((O.map Setting.path).take k) rfl HOTA.out _ [xp] rfl (TxtsAt.newAt _ xp _ (by simp)) (by simp <;> omega) (by simp only [World.size_alloc]; omega) ?_; intro v9 w9 hown9 hB9 hgr9 hnil9; obtain ⟨a9, c9, e9, -⟩ := hown9.value; have hl9 : ((O.map Setting.path).take k ++ [xp]).length = k + 1 := (by simp <;> omega); rw [hl9] at e9; subst e9; have hb9 : Below wX.heap.size wX w9 := (hb.alloc hbs _).trans hB9; have y1 := (hb9.cell (p := ⟨g1, k * 3 + 1, none⟩) hg1).trans x1))
                exact ⟨⟨k + 1, a9, c9, n + 1, by go_num, rfl, by go_num, by omega, hn1, HFS.out, by rw [HTK.out]; exact hown9, hb9⟩, by simp [intOf]; omega⟩
              · rw [hxe, if_pos rfl] at hfs
                have HFS : Hid (filledN (O.take (k + 1)) = n) := hfs
                clear hfs hfl
                go_wp2_with (at_builtin; go_must (refine wpList_appendTxts rfl (.tmp 224) (.tmp 230) rfl wX.heap.size (.slice ta k tc) ((O.map Setting.path).take k) rfl HOTA.out _ [xp] rfl (TxtsAt.newAt _ xp _ (by simp)) (by simp <;> omega) (by simp only [World.size_alloc]; omega) ?_; intro v9 w9 hown9 hB9 hgr9 hnil9; obtain ⟨a9, c9, e9, -⟩ := hown9.value; have hl9 : ((O.map Setting.path).take k ++ [xp]).length = k + 1 := (by simp <;> omega); rw [hl9] at e9; subst e9; have hb9 : Below wX.heap.size wX w9 := (hb.alloc hbs _).trans hB9; have y1 := (hb9.cell (p := ⟨g1, k * 3 + 1, none⟩) hg1).trans x1))
                exact ⟨⟨k + 1, a9, c9, n, by go_num, rfl, rfl, by omega, hn2, HFS.out, by rw [HTK.out]; exact hown9, hb9⟩, by simp [intOf]; omega⟩
            · obtain rfl : k = O.length := by omega
              have hkn' : ¬ ((O.length : Int) < (O.length : Int)) := by omega
              have hot := HOT.out
              rw [List.take_of_length_le (by simp)] at hot
              have hfn := HFN.out
              rw [List.take_length] at hfn
              obtain ⟨wZ, hwZ⟩ : ∃ wZ, wZ = wr := ⟨_, rfl⟩
              subst hwZ
              have hbZ : Below w2.heap.size w2 wZ := good_below HBX.out hb
              obtain ⟨ps, hps⟩ : ∃ ps, O.map Setting.path = ps := ⟨_, rfl⟩
              rw [hps] at hot
              have hpl : ps.length = O.length := by rw [← hps, List.length_map]
              have hpt : TxtsAt (fun b => b < wZ.heap.size) wZ (.slice ta O.length tc) ps := hot.at.mono (fun b h => h.2)
              have hpo : ∀ x ∈ ps, TxtsOK 1048576 x := fun x hx => by
                rw [← hps] at hx
                obtain ⟨s, hs, rfl⟩ := List.mem_map.1 hx
                have := (HFAIR.out s hs).1
                unfold TxtsOK
                omega
              have hla : ∀ W, Below wZ.heap.size wZ W → LayersAt (fun b => b < W.heap.size) W (.slice la l1.length lc) l1 := fun W hW => (HR1.out.keep (cells_below (fun b h => h) (good_below hbZ hW))).mono (fun b h => Nat.lt_of_lt_of_le h (good_below hbZ hW).size)
              have hpa : ∀ W, Below wZ.heap.size wZ W → TxtsAt (fun b => b < W.heap.size) W (.slice ta O.length tc) ps := fun W hW => (hpt.keep (cells_below (fun b h => h) hW)).mono (fun b h => Nat.lt_of_lt_of_le h hW.size)
              have cw1 := fun (W : World) (hW : Below wZ.heap.size wZ W) => implWatch (fun b => b < W.heap.size) l1 l1 ps _ _ _ W (fun b h => h) (hla W hW) (by omega) HOK1.out (hla W hW) (by omega) HOK1.out (hpa W hW) (by omega) hpo (HTW.out W (good_below hbZ hW))
              have cw2 := fun (W : World) (hW : Below wZ.heap.size wZ W) (g : Nat) => implWatch (fun b => b < W.heap.size) [] l1 ps (.slice (some ⟨g, 0, none⟩) 0 0) _ _ W (fun b h => h) ⟨by simp, _, 0, rfl, fun h0 => by simp at h0⟩ (by simp) (by simp) (hla W hW) (by omega) HOK1.out (hpa W hW) (by omega) hpo (HTW.out W (good_below hbZ hW))
              have e1 := HWS.out ps hps.symm
              have e2 := HWC.out ps hps.symm
              simp only [e1.1, e1.2] at cw1
              simp only [e2.1, e2.2] at cw2
              have hcl := come_len O
              rw [hfn] at hcl
              have hci := fun (c : Change) (hc : c ∈ O.filterMap comeOf) => come_is hc
              obtain ⟨CL, hCL⟩ : ∃ CL, O.filterMap comeOf = CL := ⟨_, rfl⟩
              rw [hCL] at cw2 hcl hci
              have HCI : Hid (∀ c ∈ CL, ∃ s ∈ O, c = ⟨s.path, ⟨#[]⟩, s.text⟩ ∧ (s.text.toList == []) = false) := hci
              have HPA : Hid (∀ W, Below wZ.heap.size wZ W → TxtsAt (fun b => b < W.heap.size) W (.slice ta O.length tc) ps) := hpa
              have HPS2 : Hid (O.map Setting.path = ps) := hps
              have HBZ : Hid (Below w2.heap.size w2 wZ) := hbZ
              have HCLN : Hid (CL.length = n) := hcl
              have hcl' : (CL.length : Int) ≤ 2000 := by omega
              clear hot hfn hpt hpo hla hpa e1 e2 hci hCL hbZ hb HOT HFN HET hps
              go_upto_region 53 with (go_at_call 10; go_must (refine (cw1 _ (Below.refl _ wZ)).mono ?_; rintro e w8 ⟨⟨p8, rfl, how8⟩, hb8⟩; obtain ⟨qa, qc, hqv, -⟩ := how8.chRow; subst hqv))
              have hcl2 : CL.length = n := HCLN.out
              have bE : Below w8.heap.size w8 (w8.alloc (.cells #[] 59)) := (Below.refl _ w8).alloc (Nat.le_refl _) _
              have hb8E := good_below hb8 bE
              have cw3 := cw2 _ hb8E w8.heap.size
              clear cw1 cw2 how8 hcl2
              go_upto_region 54 with (go_at_call 10; go_must (refine cw3.mono ?_; rintro e w9 ⟨⟨p9, rfl, how9⟩, hb9⟩; obtain ⟨ha, hc, hhv, hhr⟩ := how9.chRow; subst hhv))
              have hb9Z : Below wZ.heap.size wZ w9 := good_below hb8E hb9
              have HCH : Hid (ChRow w9 ha CL) := hhr
              have hcn := HCLN.out
              subst hcn
              clear hhr how9 cw3 hb8 bE hb8E
              go_wp2_with fail
              go_loopw [30] (fun i30 wr => ∃ (k : Nat), i30 = .int .i64 (k : Int) ∧ k ≤ CL.length ∧ Below w9.heap.size w9 wr) (fun i30 _ => CL.length - (intOf i30).toNat)
              case atStart => exact ⟨0, rfl, by omega, Below.refl _ _⟩
              case round =>
                obtain ⟨k, rfl, hk, hb⟩ := hrel
                by_cases hkn : k < CL.length
                · have hkn' : (k : Int) < (CL.length : Int) := by omega
                  obtain ⟨g1, rfl, hg1, hc1⟩ := (HCH.out.below hb) (by omega)
                  obtain ⟨x0, x1, x2⟩ := hc1 k hkn
                  obtain ⟨s, hs, hce, hne⟩ := HCI.out CL[k] (List.getElem_mem hkn)
                  rw [hce] at x0 x1 x2
                  dsimp only at x0 x1 x2
                  have ch := lawHas (HPA.out wr (good_below hb9Z hb)) (by omega) s.path
                  have hh : hasB ps s.path = true := (hasB_mem _ _).2 (by rw [← HPS2.out]; exact List.mem_map.2 ⟨s, hs, rfl⟩)
                  rw [hh] at ch
                  obtain ⟨sp, hsp⟩ : ∃ sp, s.path = sp := ⟨_, rfl⟩
                  obtain ⟨st, hst⟩ : ∃ st, s.text = st := ⟨_, rfl⟩
                  rw [hsp] at x0 ch
                  rw [hst] at x2 hne
                  clear hc1 hce hh hsp hst hs
                  go_wp2_with (go_at_call 11; go_must (refine ch.mono ?_; rintro e w7 ⟨rfl, rfl⟩))
                  exact ⟨⟨k + 1, by go_num, by omega, hb⟩, by simp [intOf]; omega⟩
                · have hkn' : ¬ ((k : Int) < (CL.length : Int)) := by omega
                  go_wp2_with fail
                  go_ret
                  exact ⟨rfl, good_below HB2.out (good_below HBZ.out (good_below hb9Z hb))⟩
end Go.Proofs.YtphocibgfdihoaaGreatDoor
