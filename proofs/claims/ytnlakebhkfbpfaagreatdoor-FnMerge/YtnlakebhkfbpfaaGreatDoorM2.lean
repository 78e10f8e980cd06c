/-
  The law on Merge over drawn layers: its walk. No statement of the seat is proved here.
-/
import Derived.Test.YtnlakebhkfbpfaaGreatDoorM1
import Derived.Deep.Cut
import Derived.Deep.CutRange
import Derived.Deep.CutBlock
namespace Go.Proofs.YtnlakebhkfbpfaaGreatDoor
open Go.ChangeShapes Go.WideShapes Go.ChangeAt Go.RowKit
set_option linter.unusedVariables false
set_option linter.unusedSimpArgs false

set_option maxRecDepth 100000 in
set_option maxHeartbeats 32000000 in
theorem mergeWalk {T : World → Prop} (h5 : MergeC 5 T mergeF) (h6 : MergeC 6 T mergeF) (w : World) (a0 : Option Addr) (len0 cap0 : Nat) (a1 : Option Addr) (len1 cap1 : Nat)
    (hc0 : ∀ i, i < len0 → ∃ cb co, a0 = some ⟨cb, co, none⟩ ∧ cb < w.heap.size ∧ ∃ b : Nat, b < 256 ∧ w.cell? ⟨cb, co + i, none⟩ = some (.int .u8 b))
    (hc1 : ∀ i, i < len1 → ∃ cb co, a1 = some ⟨cb, co, none⟩ ∧ cb < w.heap.size ∧ ∃ b : Nat, b < 256 ∧ w.cell? ⟨cb, co + i, none⟩ = some (.int .u8 b)) (hT : ∀ W, Below w.heap.size w W → T W) :
    Calls Tryz.prog 3 #[.slice a0 len0 cap0, .slice a1 len1 cap1] w fun e w' => e = .returned (.bool true) ∧ Below w.heap.size w w' := by
  by_cases hb0 : 1048576 < len0
  · have hb0' : (1048576 : Int) < (len0 : Int) := by omega
    clear hc0 hc1 h5 h6 hT
    go_enter Tryz.func3, Tryz.ntmps3
    go_wp2_with fail
    go_ret
    exact ⟨rfl, Below.refl _ _⟩
  have hb0' : ¬ (1048576 : Int) < (len0 : Int) := by omega
  by_cases hb1 : 1048576 < len1
  · have hb1' : (1048576 : Int) < (len1 : Int) := by omega
    clear hc0 hc1 h5 h6 hT
    go_enter Tryz.func3, Tryz.ntmps3
    go_wp2_with fail
    go_ret
    exact ⟨rfl, Below.refl _ _⟩
  have hb1' : ¬ (1048576 : Int) < (len1 : Int) := by omega
  have c4 := drawLayersOf a0 len0 cap0 w (by omega) hc0
  have HC1 : Hid (∀ i, i < len1 → ∃ cb co, a1 = some ⟨cb, co, none⟩ ∧ cb < w.heap.size ∧ ∃ b : Nat, b < 256 ∧ w.cell? ⟨cb, co + i, none⟩ = some (.int .u8 b)) := hc1
  have HT : Hid (∀ W, Below w.heap.size w W → T W) := hT
  have H5 : Hid (MergeC 5 T mergeF) := h5
  have H6 : Hid (MergeC 6 T mergeF) := h6
  clear hc0 hc1 h5 h6 hT
  go_enter Tryz.func3, Tryz.ntmps3
  go_upto_region 4 with (go_at_call 4; go_must (refine c4.mono ?_; rintro e w1 ⟨⟨v, l, rfl, hat, hgl⟩, hbw1⟩))
  obtain ⟨lv, hlv, hav, hae⟩ := layers_lv hat
  obtain ⟨la, lc, hlv0⟩ := hat.shape
  subst hlv0
  have hok : ∀ x ∈ l, LayersOK 1048576 x := fun x hx => lay_fits (hgl.2.1 x hx)
  have hll : l.length ≤ 4 := hgl.2.2.1
  have hll' : (l.length : Int) ≤ 4 := by omega
  have hl0' : (0 : Int) < (l.length : Int) := by have := hgl.2.2.2; omega
  have hlvl : lv.length = l.length := by rw [← hlv, List.length_map]
  have hS1 : ∀ b, (w.heap.size ≤ b ∧ b < w1.heap.size) → b < w1.heap.size := fun b h => h.2
  have cm1 := H5.out (fun b => w.heap.size ≤ b ∧ b < w1.heap.size) l _ w1 hS1 hat (by omega) hok (fun W hW => HT.out W (good_below hbw1 hW))
  have cm2 := fun (W : World) (hW : Below w1.heap.size w1 W) => H6.out (fun b => w.heap.size ≤ b ∧ b < w1.heap.size) l _ W (fun b h => Nat.lt_of_lt_of_le h.2 hW.size) (hat.keep (cells_below hS1 hW)) (by omega) hok (fun W' hW' => HT.out W' (good_below (good_below hbw1 hW) hW'))
  rw [merge_ok hgl.1] at cm1 cm2
  dsimp only at cm1 cm2
  have hfA := laid_fair hgl.2.1
  have hrA := laid_rises (overP l)
  have hapA := laid_apart (overP l)
  have hfrA := laid_from l
  have hlenA := laid_len hgl.1
  have hrev := merge_rev hgl.1
  have htop := fun (p t : ByteArray) (r : Int) (hr : ∀ x ∈ l, x.rank < r) (hp : pathB nameOK p = true) (ht : t.size ≤ 200) => merge_top (p := p) (t := t) hgl.1 (by omega) (fun x hx => short_zzz (hgl.2.1 x hx).1) hr hp ht zzz_ok
  obtain ⟨A, hA⟩ : ∃ A, laidF (overP l) = A := ⟨_, rfl⟩
  rw [hA] at cm1 cm2 hfA hrA hapA hfrA hlenA hrev htop
  have hlenA' : (A.length : Int) ≤ 2000 := by omega
  have HFA : Hid (∀ s ∈ A, s.path.size ≤ 30) := hfA
  have HRA : Hid (SRises A) := hrA
  have HAP : Hid (ApartS A) := hapA
  have HFR : Hid (∀ s ∈ A, FromS l s) := hfrA
  have HREV : Hid (mergeF l.reverse = (A, 0)) := hrev
  have HTOP : Hid (∀ (p t : ByteArray) (r : Int) (hr : ∀ x ∈ l, x.rank < r) (hp : pathB nameOK p = true) (ht : t.size ≤ 200), mergeF (l ++ [⟨zzzT, r, [⟨p, t⟩]⟩]) = (layStep zzzT A ⟨p, t⟩, 0)) := htop
  have HGL : Hid (GoodL l) := hgl
  have HLA : Hid (laidF (overP l) = A) := hA
  have HLV : Hid (lv.map (·.x) = l) := hlv
  have HAV : Hid (LayVsAt (fun b => w.heap.size ≤ b ∧ b < w1.heap.size) w1 (.slice la l.length lc) lv) := hav
  have HAE : Hid (∀ y ∈ lv, EntrysAt (fun b => w.heap.size ≤ b ∧ b < w1.heap.size) w1 y.nv y.x.entries) := hae
  have HB1 : Hid (Below w.heap.size w w1) := hbw1
  clear hfA hrA hapA hfrA hrev htop hA hgl hlv hav hae hbw1 c4 hok hat hS1
  go_wp2_with (first
    | (go_at_call 5; go_must (refine cm1.mono ?_; rintro e w2 ⟨⟨p2, rfl, how2⟩, hb2⟩; obtain ⟨wa, wc, hwv, hws⟩ := how2.setRow; subst hwv))
    | (go_at_call 6; go_must (refine (cm2 _ hb2).mono ?_; rintro e w3 ⟨⟨p3, rfl, how3⟩, hb3⟩; obtain ⟨aa, ac, hav3, has3⟩ := how3.setRow; subst hav3)))
  have b13 := good_below hb2 hb3
  have HW2 : Hid (SetRow w3 wa A) := hws.below hb3
  have HA3 : Hid (SetRow w3 aa A) := has3
  have HB3 : Hid (Below w1.heap.size w1 w3) := b13
  have HE3 : Hid (OwnLayVs w3.heap.size (w3.alloc (.cells #[] 30)) (.slice (some ⟨w3.heap.size, 0, none⟩) 0 0) []) := OwnLayVs.empty w3.heap.size w3 (Nat.le_refl _)
  clear hws has3 how2 how3 hb2 hb3 cm1 cm2 b13
  go_loopw [10, 11, 12] (fun i10 i11 i12 wr => ∃ (k : Nat) (ba : Option Addr) (bc : Nat) (top z : Int), i12 = .int .i64 z ∧ i10 = .slice ba k bc ∧ i11 = .int .i64 top ∧ z = (l.length : Int) - 1 - (k : Int) ∧ k ≤ l.length ∧ 0 ≤ top ∧ top ≤ 3 ∧ (∀ j (hj : j < lv.length), l.length - k ≤ j → lv[j].x.rank ≤ top) ∧ OwnLayVs w3.heap.size wr (.slice ba k bc) (lv.reverse.take k) ∧ Below w3.heap.size w3 wr) (fun _ _ i12 _ => (intOf i12 + 1).toNat)
  case atStart => exact ⟨0, _, 0, 0, _, rfl, rfl, rfl, by omega, by omega, by omega, by omega, fun j hj h => by omega, by simpa using HE3.out, (Below.refl _ w3).alloc (Nat.le_refl _) _⟩
  case round =>
    obtain ⟨k, ba, bc, top, z, rfl, rfl, rfl, hz, hk, ht0, ht3, htr, hob, hb⟩ := hrel
    have HTR : Hid (∀ j (hj : j < lv.length), l.length - k ≤ j → lv[j].x.rank ≤ top) := htr
    have HOB : Hid (OwnLayVs w3.heap.size wr (.slice ba k bc) (lv.reverse.take k)) := hob
    have HBR : Hid (Below w3.heap.size w3 wr) := hb
    have hbs := hb.size
    clear htr hob
    by_cases hkn : k < l.length
    · obtain ⟨m, hm⟩ : ∃ m : Nat, m = l.length - 1 - k := ⟨_, rfl⟩
      have hzm : z = (m : Int) := by omega
      subst hzm
      have hmk1 : m + k + 1 ≤ l.length := by omega
      have hmk2 : l.length ≤ m + k + 1 := by omega
      have hm0 : (0 : Int) ≤ (m : Int) := by omega
      have hml : m < lv.length := by omega
      have hml' : (m : Int) < (l.length : Int) := by omega
      obtain ⟨_, av, avc, hvv, hcv⟩ := HAV.out
      rw [hlvl] at hvv
      simp only [Value.slice.injEq] at hvv
      obtain ⟨rfl, -, rfl⟩ := hvv
      obtain ⟨gb, off, rfl, hgS, hcell⟩ := hcv (by omega)
      obtain ⟨c0, c1, c2⟩ := hcell m hml
      have hb1r := good_below HB3.out hb
      have d0 := (hb1r.cell (p := ⟨gb, off + m * 3, none⟩) hgS.2).trans c0
      have d1 := (hb1r.cell (p := ⟨gb, off + m * 3 + 1, none⟩) hgS.2).trans c1
      have d2 := (hb1r.cell (p := ⟨gb, off + m * 3 + 2, none⟩) hgS.2).trans c2
      obtain ⟨ea, ec, hev⟩ := (HAE.out lv[m] (List.getElem_mem hml)).shape
      have hrk : 0 ≤ lv[m].x.rank ∧ lv[m].x.rank ≤ 3 := by
        have := HGL.out.2.1 lv[m].x (by rw [← HLV.out]; exact List.mem_map.2 ⟨lv[m], List.getElem_mem hml, rfl⟩)
        exact ⟨this.2.1, this.2.2.1⟩
      have htk : lv.reverse.take (k + 1) = lv.reverse.take k ++ [lv[m]] := by
        rw [List.take_succ_eq_append_getElem (by simp; omega), List.getElem_reverse]
        congr 3
        omega
      have hstep : ∀ t2 : Int, top ≤ t2 → lv[m].x.rank ≤ t2 → ∀ j (hj : j < lv.length), l.length - (k + 1) ≤ j → lv[j].x.rank ≤ t2 := fun t2 h1 h2 j hj hjk => by
        by_cases e : j = m
        · subst e; exact h2
        · exact Int.le_trans (HTR.out j hj (by omega)) h1
      rw [hev] at d2
      obtain ⟨y, hy⟩ : ∃ y, lv[m] = y := ⟨_, rfl⟩
      rw [hy] at d0 d1 d2 hrk htk hstep hev
      obtain ⟨⟨ynm, yr, yes⟩, ynv⟩ := y
      dsimp only at d0 d1 d2 hrk hstep hev
      subst hev
      have HTK : Hid (lv.reverse.take (k + 1) = lv.reverse.take k ++ [⟨⟨ynm, yr, yes⟩, .slice ea yes.length ec⟩]) := htk
      have HST : Hid (∀ t2 : Int, top ≤ t2 → yr ≤ t2 → ∀ j (hj : j < lv.length), l.length - (k + 1) ≤ j → lv[j].x.rank ≤ t2) := hstep
      have bX : Below wr.heap.size wr (wr.alloc (.cells #[.string ynm, .int .i64 yr, .slice ea yes.length ec] 30)) := (Below.refl _ wr).alloc (Nat.le_refl _) _
      have HOX : Hid (OwnLayVs w3.heap.size (wr.alloc (.cells #[.string ynm, .int .i64 yr, .slice ea yes.length ec] 30)) (.slice ba k bc) (lv.reverse.take k)) := OwnLayVs.below HOB.out bX
      have hlk : (lv.reverse.take k).length = k := by simp; omega
      have hyr0 := hrk.1
      have hyr3 := hrk.2
      have hgb3 : gb < w3.heap.size := Nat.lt_of_lt_of_le hgS.2 HB3.out.size
      have hgbr : gb < wr.heap.size := Nat.lt_of_lt_of_le hgb3 hbs
      clear hcell hcv c0 c1 c2 hy htk hstep hrk hz hm
      go_wp2_with (at_builtin; go_must (refine wpList_appendLayVs rfl (.tmp 62) (.tmp 67) rfl w3.heap.size (.slice ba k bc) (lv.reverse.take k) rfl HOX.out _ [⟨⟨ynm, yr, yes⟩, .slice ea yes.length ec⟩] rfl (LayVsAt.newAt _ ynm yr yes (.slice ea yes.length ec) _ (by simp)) (by simp <;> omega) (by simp only [World.size_alloc]; omega) (fun x hx => by rw [List.mem_singleton] at hx; subst hx; rfl) ?_; intro v9 w9 hown9 hB9 hgr9 hnil9; obtain ⟨a9, c9, e9, -⟩ := hown9.value; have hl9 : (lv.reverse.take k ++ [(⟨⟨ynm, yr, yes⟩, .slice ea yes.length ec⟩ : LayV)]).length = k + 1 := (by rw [List.length_append, hlk]; rfl); rw [hl9] at e9; subst e9; have hb39 : Below w3.heap.size w3 w9 := (HBR.out.alloc hbs _).trans hB9; have q1 := (hB9.cell (p := ⟨gb, off + m * 3 + 1, none⟩) hgb3).trans ((bX.cell (p := ⟨gb, off + m * 3 + 1, none⟩) hgbr).trans d1)))
      exact ⟨⟨k + 1, a9, c9, max top yr, _, rfl, rfl, rfl, by omega, by omega, by omega, by omega, HST.out _ (by omega) (by omega), by rw [HTK.out]; exact hown9, hb39⟩, by simp [intOf]⟩
    · obtain rfl : k = l.length := by omega
      have hzn : ¬ ((0 : Int) ≤ z) := by omega
      have hob := HOB.out
      rw [List.take_of_length_le (by simp; omega)] at hob
      have hb1r := good_below HB3.out hb
      have hlr : LayersAt (fun b => w.heap.size ≤ b ∧ b < wr.heap.size) wr (.slice ba l.length bc) (lv.reverse.map (·.x)) := by
        have h1 := (OwnLayVs.at hob).mono (S' := fun b => w.heap.size ≤ b ∧ b < wr.heap.size) (fun b hb2 => ⟨Nat.le_trans (good_below HB1.out HB3.out).size hb2.1, hb2.2⟩)
        refine lays_at h1 (fun y hy => ?_)
        exact ((HAE.out y (by simpa using hy)).keep (cells_below (fun b h => h.2) hb1r)).mono (fun b h => ⟨h.1, Nat.lt_of_lt_of_le h.2 hb1r.size⟩)
      have hlr2 : lv.reverse.map (·.x) = l.reverse := by rw [List.map_reverse, HLV.out]
      rw [hlr2] at hlr
      have cm := H6.out (fun b => w.heap.size ≤ b ∧ b < wr.heap.size) l.reverse _ wr (fun b h => h.2) hlr (by simp; omega) (fun x hx => lay_fits (HGL.out.2.1 x (by simpa using hx))) (fun W hW => HT.out W (good_below (good_below HB1.out hb1r) hW))
      rw [HREV.out] at cm
      dsimp only at cm
      have HTR2 : Hid (∀ x ∈ l, x.rank ≤ top) := fun x hx => by
        rw [← HLV.out] at hx
        obtain ⟨y, hy, rfl⟩ := List.mem_map.1 hx
        obtain ⟨j, hj, rfl⟩ := List.getElem_of_mem hy
        exact HTR.out j hj (by omega)
      clear hob hlr hlr2 HOB HTR hz
      obtain ⟨w5, hw5⟩ : ∃ w5, w5 = wr := ⟨_, rfl⟩
      subst hw5
      go_wp2_with (go_at_call 6; go_must (refine cm.mono ?_; rintro e w6 ⟨⟨p6, rfl, how6⟩, hb6⟩; obtain ⟨ba6, bc6, hbv6, hbs6⟩ := how6.setRow; subst hbv6))
      have b36 := good_below hb hb6
      have HW6 : Hid (SetRow w6 wa A) := HW2.out.below b36
      have HA6 : Hid (SetRow w6 aa A) := HA3.out.below b36
      have HG6 : Hid (SetRow w6 ba6 A) := hbs6
      have HB6 : Hid (Below w1.heap.size w1 w6) := good_below hb1r hb6
      clear hbs6 how6 b36 hb6 hb1r cm hb HW2 HA3 HE3
      go_loopw [14] (fun i14 wr => ∃ (i : Nat), i14 = .int .i64 (i : Int) ∧ i ≤ A.length ∧ Below w6.heap.size w6 wr) (fun i14 _ => A.length - (intOf i14).toNat)
      case atStart => exact ⟨0, rfl, by omega, Below.refl _ _⟩
      case round =>
        obtain ⟨i, rfl, hi, hb⟩ := hrel
        by_cases hin : i < A.length
        · have hin' : (i : Int) < (A.length : Int) := by omega
          obtain ⟨gw, rfl, hgw, hcw⟩ := (HW6.out.below hb) (by omega)
          obtain ⟨ga, rfl, hga, hca⟩ := (HA6.out.below hb) (by omega)
          obtain ⟨gg, rfl, hgg, hcg⟩ := (HG6.out.below hb) (by omega)
          obtain ⟨x0, x1, x2⟩ := hcw i hin
          obtain ⟨y0, y1, y2⟩ := hca i hin
          obtain ⟨z0, z1, z2⟩ := hcg i hin
          obtain ⟨s, hs⟩ : ∃ s, A[i] = s := ⟨_, rfl⟩
          rw [hs] at x0 x1 x2 y0 y1 y2 z0 z1 z2
          have hsA : s ∈ A := by rw [← hs]; exact List.getElem_mem hin
          have HSI : Hid (A[i] = s) := hs
          obtain ⟨sp, st, sf⟩ := s
          dsimp only at x0 x1 x2 y0 y1 y2 z0 z1 z2
          have HCA : Hid (∀ j (hj : j < A.length), wr.cell? ⟨ga, j * 3, none⟩ = some (.string A[j].path) ∧ wr.cell? ⟨ga, j * 3 + 1, none⟩ = some (.string A[j].text) ∧ wr.cell? ⟨ga, j * 3 + 2, none⟩ = some (.string A[j].from')) := hca
          have HSA : Hid ((⟨sp, st, sf⟩ : Setting) ∈ A) := hsA
          clear hcw hca hcg hs hsA
          go_upto_region 21 with fail
          go_quiet (fail)
          have hb7 : Below w6.heap.size w6 (wr.drewN nq) := bel_drewN hb nq
          have hbr7 : Below wr.heap.size wr (wr.drewN nq) := bel_drewN (Below.refl _ wr) nq
          obtain ⟨w7, hw7⟩ : ∃ w7, wr.drewN nq = w7 := ⟨_, rfl⟩
          rw [hw7] at hb7 hbr7 ⊢
          have HC7 : Hid (∀ j (hj : j < A.length), w7.cell? ⟨ga, j * 3, none⟩ = some (.string A[j].path)) := fun j hj => (hbr7.cell (p := ⟨ga, j * 3, none⟩) hga).trans (HCA.out j hj).1
          have HP7 : Hid (w7.cell? ⟨ga, i * 3, none⟩ = some (.string sp) ∧ w7.cell? ⟨ga, i * 3 + 1, none⟩ = some (.string st) ∧ w7.cell? ⟨ga, i * 3 + 2, none⟩ = some (.string sf)) := ⟨(hbr7.cell (p := ⟨ga, i * 3, none⟩) hga).trans y0, (hbr7.cell (p := ⟨ga, i * 3 + 1, none⟩) hga).trans y1, (hbr7.cell (p := ⟨ga, i * 3 + 2, none⟩) hga).trans y2⟩
          have hga7 : ga < w7.heap.size := Nat.lt_of_lt_of_le hga hbr7.size
          have hspz := HFA.out _ HSA.out
          dsimp only at hspz
          have HB7 : Hid (Below w6.heap.size w6 w7) := hb7
          clear hw7 hbr7 hb7 x0 x1 x2 y0 y1 y2 z0 z1 z2 HCA hb
          go_wp2_with fail
          go_loopw [15] (fun i15 wr => ∃ (k : Nat), i15 = .int .i64 (k : Int) ∧ k ≤ A.length ∧ Below w7.heap.size w7 wr) (fun i15 _ => A.length - (intOf i15).toNat)
          case atStart => exact ⟨0, rfl, by omega, Below.refl _ _⟩
          case round =>
            obtain ⟨k, rfl, hk, hb⟩ := hrel
            by_cases hkn : k < A.length
            · have hkn' : (k : Int) < (A.length : Int) := by omega
              have q0 := (hb.cell (p := ⟨ga, i * 3, none⟩) hga7).trans HP7.out.1
              by_cases hki : k = i
              · subst hki
                go_upto_region 26 with fail
                go_quiet (fail)
                go_wp2_with fail
                exact ⟨⟨k + 1, by go_num, by omega, bel_drewN hb nq⟩, by simp [intOf]; omega⟩
              · have hki' : ((k : Int) == (i : Int)) = false := by rw [beq_eq_false_iff_ne]; omega
                have hki2 : (k == i) = false := by rw [beq_eq_false_iff_ne]; exact hki
                have hki3 : ((k : Int) != (i : Int)) = true := by simp [bne, hki']
                have hki4 : (k != i) = true := by simp [bne, hki2]
                have q1 := (hb.cell (p := ⟨ga, k * 3, none⟩) hga7).trans (HC7.out k hkn)
                have hwf : withinB A[k].path sp = false := by
                  have h1 := HAP.out A[k] (List.getElem_mem hkn) ⟨sp, st, sf⟩ HSA.out
                  refine h1 (fun e => ?_)
                  have hpw := List.pairwise_iff_getElem.1 HRA.out
                  have e2 : A[k].path = A[i].path := by rw [HSI.out]; exact e
                  rcases Nat.lt_or_gt_of_ne hki with q | q
                  · have := hpw k i hkn hin q
                    rw [e2, lessB_irrefl] at this
                    cases this
                  · have := hpw i k hin hkn q
                    rw [e2, lessB_irrefl] at this
                    cases this
                have htz := HFA.out A[k] (List.getElem_mem hkn)
                obtain ⟨tp, htp⟩ : ∃ tp, A[k].path = tp := ⟨_, rfl⟩
                rw [htp] at q1 hwf htz
                have cw := fun w => lawWithin tp sp (by omega) (by omega) w
                rw [hwf] at cw
                clear htp hwf
                go_upto_region 26 with fail
                go_quiet ((go_at_call 7; exact Calls.quiet_of_same (cw _)))
                go_wp2_with fail
                exact ⟨⟨k + 1, by go_num, by omega, bel_drewN hb nq⟩, by simp [intOf]; omega⟩
            · obtain rfl : k = A.length := by omega
              have hkn' : ¬ ((A.length : Int) < (A.length : Int)) := by omega
              obtain ⟨x, hxl, hxn, ee, hee, hep, het⟩ := HFR.out _ HSA.out
              have hxl2 : ∃ y ∈ lv, y.x = x := by
                rw [← HLV.out] at hxl
                exact List.mem_map.1 hxl
              obtain ⟨y0, hy0, hyx⟩ := hxl2
              obtain ⟨k0, hk0, hk0e⟩ := List.getElem_of_mem hy0
              obtain ⟨j0, hj0, hj0e⟩ := List.getElem_of_mem hee
              have HK0 : Hid (lv[k0].x.name = sf ∧ ∃ hj : j0 < lv[k0].x.entries.length, lv[k0].x.entries[j0].path = sp ∧ lv[k0].x.entries[j0].text = st) := by
                subst hk0e
                subst hyx
                exact ⟨hxn, hj0, by rw [hj0e]; exact hep, by rw [hj0e]; exact het⟩
              have hk0l : k0 < l.length := by omega
              have p0 := (hb.cell (p := ⟨ga, i * 3, none⟩) hga7).trans HP7.out.1
              have p1 := (hb.cell (p := ⟨ga, i * 3 + 1, none⟩) hga7).trans HP7.out.2.1
              have p2 := (hb.cell (p := ⟨ga, i * 3 + 2, none⟩) hga7).trans HP7.out.2.2
              obtain ⟨w8, hw8⟩ : ∃ w8, w8 = wr := ⟨_, rfl⟩
              subst hw8
              have hga8 : ga < w8.heap.size := Nat.lt_of_lt_of_le hga7 hb.size
              have HP8 : Hid (w8.cell? ⟨ga, i * 3, none⟩ = some (.string sp) ∧ w8.cell? ⟨ga, i * 3 + 1, none⟩ = some (.string st) ∧ w8.cell? ⟨ga, i * 3 + 2, none⟩ = some (.string sf)) := ⟨p0, p1, p2⟩
              have HB8 : Hid (Below w6.heap.size w6 w8) := good_below HB7.out hb
              have HB18 : Hid (Below w1.heap.size w1 w8) := good_below HB6.out HB8.out
              obtain ⟨_, av, avc, hvv, hcv⟩ := HAV.out
              rw [hlvl] at hvv
              simp only [Value.slice.injEq] at hvv
              obtain ⟨rfl, -, rfl⟩ := hvv
              obtain ⟨gb, off, rfl, hgS, hcell⟩ := hcv (by omega)
              have HLC : Hid (∀ (i : Nat) (h : i < lv.length), w1.cell? ⟨gb, off + i * 3, none⟩ = some (.string lv[i].x.name) ∧ w1.cell? ⟨gb, off + i * 3 + 1, none⟩ = some (.int .i64 lv[i].x.rank) ∧ w1.cell? ⟨gb, off + i * 3 + 2, none⟩ = some lv[i].nv) := hcell
              have hgb8 := hgS.2
              clear hcv hcell p0 p1 p2 hb hyx hxl hxn hee hep het hy0 hj0e hk0e HP7 HC7
              go_wp2_with fail
              go_loopw [16, 17] (fun i16 i17 wr => ∃ (k : Nat) (F : Bool), i16 = .bool F ∧ i17 = .int .i64 (k : Int) ∧ k ≤ l.length ∧ (k0 < k → F = true) ∧ Below w8.heap.size w8 wr) (fun _ i17 _ => l.length - (intOf i17).toNat)
              case atStart => exact ⟨0, false, rfl, rfl, by omega, fun h => by omega, Below.refl _ _⟩
              case round =>
                obtain ⟨k, F, rfl, rfl, hk, hF, hb⟩ := hrel
                have HF : Hid (k0 < k → F = true) := hF
                clear hF
                by_cases hkn : k < l.length
                · have hkn' : (k : Int) < (l.length : Int) := by omega
                  obtain ⟨c0, -, c2⟩ := HLC.out k (by omega)
                  have hae := HAE.out lv[k] (List.getElem_mem (by omega))
                  have hname : k = k0 → lv[k].x.name = sf := fun e => by subst e; exact HK0.out.1
                  have hentr : k = k0 → ∃ hj : j0 < lv[k].x.entries.length, lv[k].x.entries[j0].path = sp ∧ lv[k].x.entries[j0].text = st := fun e => by subst e; exact HK0.out.2
                  obtain ⟨y, hy⟩ : ∃ y, lv[k] = y := ⟨_, rfl⟩
                  rw [hy] at c0 c2 hae hname
                  simp only [hy] at hentr
                  obtain ⟨⟨ynm, yr, yes⟩, ynv⟩ := y
                  dsimp only at c0 c2 hae hname hentr
                  obtain ⟨_, ea, ec, hev, hec⟩ := hae
                  subst hev
                  have HNM : Hid (k = k0 → ynm = sf) := hname
                  have HEN : Hid (k = k0 → ∃ hj : j0 < yes.length, yes[j0].path = sp ∧ yes[j0].text = st) := hentr
                  have HEC : Hid (0 < yes.length → ∃ b off, ea = some ⟨b, off, none⟩ ∧ (w.heap.size ≤ b ∧ b < w1.heap.size) ∧ ∀ (i : Nat) (h : i < yes.length), w1.cell? ⟨b, off + i * 2, none⟩ = some (.string yes[i].path) ∧ w1.cell? ⟨b, off + i * 2 + 1, none⟩ = some (.string yes[i].text)) := hec
                  have hb1r := good_below HB18.out hb
                  have d0 := (hb1r.cell (p := ⟨gb, off + k * 3, none⟩) hgb8).trans c0
                  have d2 := (hb1r.cell (p := ⟨gb, off + k * 3 + 2, none⟩) hgb8).trans c2
                  have hyl : yes.length ≤ 1000 := by
                    have hin2 : ∀ x, x ∈ lv.map (·.x) → x ∈ l := fun x hx => by rw [HLV.out] at hx; exact hx
                    have h1 := HGL.out.2.1 lv[k].x (hin2 _ (List.mem_map.2 ⟨lv[k], List.getElem_mem (by omega), rfl⟩))
                    have h2 := h1.2.2.2.1
                    rw [hy] at h2
                    dsimp only at h2
                    omega
                  have hyl' : (yes.length : Int) ≤ 1000 := by omega
                  obtain ⟨w9, hw9⟩ : ∃ w9, w9 = wr := ⟨_, rfl⟩
                  subst hw9
                  have HB9 : Hid (Below w8.heap.size w8 w9) := hb
                  have HD : Hid (w9.cell? ⟨gb, off + k * 3, none⟩ = some (.string ynm) ∧ w9.cell? ⟨gb, off + k * 3 + 2, none⟩ = some (.slice ea yes.length ec)) := ⟨d0, d2⟩
                  have hgb9 : gb < w9.heap.size := Nat.lt_of_lt_of_le hgb8 hb1r.size
                  have HB19 : Hid (Below w1.heap.size w1 w9) := hb1r
                  clear c0 c2 hy hec hname hentr d0 d2 hb1r hb
                  go_wp2_with fail
                  go_loopw [16, 18] (fun i16 i18 wr => ∃ (j : Nat) (G : Bool), i16 = .bool G ∧ i18 = .int .i64 (j : Int) ∧ j ≤ yes.length ∧ (k0 < k ∨ (k = k0 ∧ j0 < j) → G = true) ∧ Below w9.heap.size w9 wr) (fun _ i18 _ => yes.length - (intOf i18).toNat)
                  case atStart => exact ⟨0, F, rfl, rfl, by omega, fun h => HF.out (by omega), Below.refl _ _⟩
                  case round =>
                    obtain ⟨j, G, rfl, rfl, hj, hG, hb⟩ := hrel
                    have HG : Hid (k0 < k ∨ (k = k0 ∧ j0 < j) → G = true) := hG
                    clear hG
                    have d0 := (hb.cell (p := ⟨gb, off + k * 3, none⟩) hgb9).trans HD.out.1
                    have d2 := (hb.cell (p := ⟨gb, off + k * 3 + 2, none⟩) hgb9).trans HD.out.2
                    by_cases hjn : j < yes.length
                    · have hjn' : (j : Int) < (yes.length : Int) := by omega
                      obtain ⟨ge, eo, rfl, hgeS, hecell⟩ := HEC.out (by omega)
                      have hb1r := good_below HB19.out hb
                      have e0 := (hb1r.cell (p := ⟨ge, eo + j * 2, none⟩) hgeS.2).trans (hecell j hjn).1
                      have e1 := (hb1r.cell (p := ⟨ge, eo + j * 2 + 1, none⟩) hgeS.2).trans (hecell j hjn).2
                      have hb8r := good_below HB9.out hb
                      have p0 := (hb8r.cell (p := ⟨ga, i * 3, none⟩) hga8).trans HP8.out.1
                      have p1 := (hb8r.cell (p := ⟨ga, i * 3 + 1, none⟩) hga8).trans HP8.out.2.1
                      have p2 := (hb8r.cell (p := ⟨ga, i * 3 + 2, none⟩) hga8).trans HP8.out.2.2
                      have hmk : k = k0 → j = j0 → yes[j].path = sp ∧ yes[j].text = st := fun e1 e2 => by
                        subst e2
                        obtain ⟨_, h1, h2⟩ := HEN.out e1
                        exact ⟨h1, h2⟩
                      obtain ⟨en, hen⟩ : ∃ en, yes[j] = en := ⟨_, rfl⟩
                      rw [hen] at e0 e1 hmk
                      obtain ⟨enp, ent⟩ := en
                      dsimp only at e0 e1 hmk
                      have HMK : Hid (k = k0 → j = j0 → enp = sp ∧ ent = st) := hmk
                      clear hecell hen hmk hb1r hb8r
                      cases G
                      · have hno : k0 < k ∨ (k = k0 ∧ j0 < j) → False := fun h => by have := HG.out h; cases this
                        have hres : ∀ R : Bool, ((ynm.toList == sf.toList) && (enp.toList == sp.toList) && (ent.toList == st.toList)) = R → (k0 < k ∨ (k = k0 ∧ j0 < j + 1) → R = true) := fun R hR h => by
                          have hkk : k = k0 ∧ j = j0 := by
                            by_cases h1 : k0 < k ∨ (k = k0 ∧ j0 < j)
                            · exact absurd h1 (fun q => hno q)
                            · omega
                          rw [← hR, HNM.out hkk.1, (HMK.out hkk.1 hkk.2).1, (HMK.out hkk.1 hkk.2).2]
                          simp
                        have HRES : Hid (∀ R : Bool, ((ynm.toList == sf.toList) && (enp.toList == sp.toList) && (ent.toList == st.toList)) = R → (k0 < k ∨ (k = k0 ∧ j0 < j + 1) → R = true)) := hres
                        clear hno hres
                        cases c1 : (ynm.toList == sf.toList)
                        · go_upto_region 35 with fail
                          go_quiet (fail)
                          go_wp2_with fail
                          exact ⟨⟨j + 1, false, rfl, by go_num, by omega, HRES.out false (by rw [c1]; rfl), bel_drewN hb nq⟩, by simp [intOf]; omega⟩
                        cases c2 : (enp.toList == sp.toList)
                        · go_upto_region 35 with fail
                          go_quiet (fail)
                          go_wp2_with fail
                          exact ⟨⟨j + 1, false, rfl, by go_num, by omega, HRES.out false (by rw [c1, c2]; rfl), bel_drewN hb nq⟩, by simp [intOf]; omega⟩
                        cases c3 : (ent.toList == st.toList)
                        · go_upto_region 35 with fail
                          go_quiet (fail)
                          go_wp2_with fail
                          exact ⟨⟨j + 1, false, rfl, by go_num, by omega, HRES.out false (by rw [c1, c2, c3]; rfl), bel_drewN hb nq⟩, by simp [intOf]; omega⟩
                        · go_upto_region 35 with fail
                          go_quiet (fail)
                          go_wp2_with fail
                          exact ⟨⟨j + 1, true, rfl, by go_num, by omega, fun _ => rfl, bel_drewN hb nq⟩, by simp [intOf]; omega⟩
                      · go_upto_region 35 with fail
                        go_quiet (fail)
                        go_wp2_with fail
                        exact ⟨⟨j + 1, true, rfl, by go_num, by omega, fun _ => rfl, bel_drewN hb nq⟩, by simp [intOf]; omega⟩
                    · obtain rfl : j = yes.length := by omega
                      have hjn' : ¬ ((yes.length : Int) < (yes.length : Int)) := by omega
                      go_wp2_with fail
                      exact ⟨⟨k + 1, G, rfl, by go_num, by omega, fun h => HG.out (by
                        by_cases h1 : k0 < k
                        · exact .inl h1
                        · have hkk : k = k0 := by omega
                          obtain ⟨h2, -⟩ := HEN.out hkk
                          exact .inr ⟨hkk, h2⟩), good_below HB9.out hb⟩, by simp [intOf]; omega⟩
                · obtain rfl : k = l.length := by omega
                  have hkn' : ¬ ((l.length : Int) < (l.length : Int)) := by omega
                  have hFt := HF.out hk0l
                  subst hFt
                  go_wp2_with fail
                  exact ⟨⟨i + 1, by go_num, by omega, good_below HB8.out hb⟩, by simp [intOf]; omega⟩
        · obtain rfl : i = A.length := by omega
          have hin' : ¬ ((A.length : Int) < (A.length : Int)) := by omega
          have hlg : ¬ ((20 : Int) ≤ (l.length : Int)) := by omega
          have htm : (top == 9223372036854775807) = false := by rw [beq_eq_false_iff_ne]; omega
          have hb1r := good_below HB6.out hb
          have hbwr := good_below HB1.out hb1r
          have hpn := paths_new wr #[.string ⟨#[97]⟩, .string ⟨#[97, 46, 98]⟩, .string ⟨#[110, 101, 116]⟩, .string ⟨#[110, 101, 116, 46, 112, 111, 114, 116]⟩, .string ⟨#[110, 101, 119, 46, 112, 97, 116, 104]⟩] 5 rfl five_paths
          have bP : Below wr.heap.size wr (wr.alloc (.cells #[.string ⟨#[97]⟩, .string ⟨#[97, 46, 98]⟩, .string ⟨#[110, 101, 116]⟩, .string ⟨#[110, 101, 116, 46, 112, 111, 114, 116]⟩, .string ⟨#[110, 101, 119, 46, 112, 97, 116, 104]⟩] 9)) := (Below.refl _ wr).alloc (Nat.le_refl _) _
          have ca := lawAt a1 len1 cap1 5 (wr.alloc (.cells #[.string ⟨#[97]⟩, .string ⟨#[97, 46, 98]⟩, .string ⟨#[110, 101, 116]⟩, .string ⟨#[110, 101, 116, 46, 112, 111, 114, 116]⟩, .string ⟨#[110, 101, 119, 46, 112, 97, 116, 104]⟩] 9)) (by omega) (by omega) (by omega) (fun i hi => by
            obtain ⟨cb, co, ha, hcb, b, hb2, hc⟩ := HC1.out i hi
            have hbx := good_below hbwr bP
            exact ⟨cb, co, ha, Nat.lt_of_lt_of_le hcb hbx.size, b, hb2, (hbx.cell (p := ⟨cb, co + i, none⟩) hcb).trans hc⟩)
          have HPN : Hid (∀ k, k < 5 → ∃ t : ByteArray, pathB nameOK t = true ∧ t.size ≤ 205 ∧ (wr.alloc (.cells #[.string ⟨#[97]⟩, .string ⟨#[97, 46, 98]⟩, .string ⟨#[110, 101, 116]⟩, .string ⟨#[110, 101, 116, 46, 112, 111, 114, 116]⟩, .string ⟨#[110, 101, 119, 46, 112, 97, 116, 104]⟩] 9)).cell? ⟨wr.heap.size, k, none⟩ = some (.string t)) := hpn
          have hPl : wr.heap.size < (wr.alloc (.cells #[.string ⟨#[97]⟩, .string ⟨#[97, 46, 98]⟩, .string ⟨#[110, 101, 116]⟩, .string ⟨#[110, 101, 116, 46, 112, 111, 114, 116]⟩, .string ⟨#[110, 101, 119, 46, 112, 97, 116, 104]⟩] 9)).heap.size := by simp
          obtain ⟨w10, hw10⟩ : ∃ w10, w10 = wr := ⟨_, rfl⟩
          subst hw10
          clear hpn
          go_upto_region 41 with (go_at_call 8; go_must (refine ca.mono ?_; rintro e w11 ⟨⟨q, hq, rfl⟩, hb11⟩; obtain ⟨path, hpB, hpz, hpc⟩ := HPN.out q hq; have hpc2 := (hb11.cell (p := ⟨w10.heap.size, q, none⟩) hPl).trans hpc; have hq' : (q : Int) < 5 := (by omega)))
          have b1_11 := good_below hb1r (good_below bP hb11)
          have hw11 : w.heap.size ≤ w11.heap.size := (good_below HB1.out b1_11).size
          have HAV11 : Hid (LayVsAt (fun b => w.heap.size ≤ b ∧ b < w1.heap.size) (w11.alloc (.cells #[] 30)) (.slice la l.length lc) lv) := HAV.out.keep (cells_below (fun b h => h.2) (good_below b1_11 ((Below.refl _ w11).alloc (Nat.le_refl _) _)))
          have HEM11 : Hid (OwnLayVs w11.heap.size (w11.alloc (.cells #[] 30)) (.slice (some ⟨w11.heap.size, 0, none⟩) 0 0) []) := OwnLayVs.empty w11.heap.size w11 (Nat.le_refl _)
          have hln12 : lv.length + 1 ≤ 1000000 := by omega
          clear ca HPN hpc hPl bP hb11
          go_upto_region 42 with (first
            | (go_at_call 6; go_must (refine cm13.mono ?_; rintro e w14 ⟨⟨p14, rfl, how14⟩, hb14⟩; obtain ⟨pa14, pc14, hpv14, hps14⟩ := how14.setRow; subst hpv14))
            | (at_builtin; have hchk := HX12; refine wpList_appendLayVs rfl (.tmp 219) (.tmp 226) rfl w11.heap.size (.slice a12 l.length c12) lv rfl HX12.out (.slice (some ⟨w12.heap.size + 1, 0, none⟩) 1 1) [⟨⟨⟨#[122, 122, 122]⟩, top + 1, [⟨path, ⟨#[104, 101, 114, 101]⟩⟩]⟩, .slice (some ⟨w12.heap.size, 0, none⟩) 1 1⟩] rfl HN12.out hln12 hz12 (fun x hx => by rw [List.mem_singleton] at hx; subst hx; rfl) ?_; intro v13 w13 hown13 hB13 hgr13 hnil13; have hen13 := ent_new (n := 0) (c := 0) (g := 0) path ⟨#[104, 101, 114, 101]⟩ _ HR12.out hgr13; have hlt13 : w12.heap.size < w13.heap.size := Nat.lt_of_lt_of_le hzz12 hB13.size; have bw13 : Below w11.heap.size w11 w13 := HBX12.out.trans hB13; have b113 := good_below b1_11 bw13; have cm13 := topCall (t := ⟨#[104, 101, 114, 101]⟩) H6.out HGL.out HLV.out HLA.out HAE.out b113 hown13 hen13 hlt13 hwx12 hw11 (fun x hx => Int.lt_add_one_of_le (HTR2.out x hx)) hpB hpz (by decide) (fun W' hW' => HT.out W' (good_below (good_below HB1.out b113) hW')); obtain ⟨a13, c13, e13, -⟩ := hown13.value; have hl13 : (lv ++ [(⟨⟨⟨#[122, 122, 122]⟩, top + 1, [⟨path, ⟨#[104, 101, 114, 101]⟩⟩]⟩, .slice (some ⟨w12.heap.size, 0, none⟩) 1 1⟩ : LayV)]).length = l.length + 1 := (by rw [List.length_append, hlvl]; rfl); rw [hl13] at e13; subst e13; clear hen13 hown13 hgr13 hnil13 hchk HX12 HN12 HR12 HBX12)
            | (at_builtin; go_must (refine wpList_appendLayVs rfl (.tmp 217) (.tmp 218) rfl w11.heap.size (.slice (some ⟨w11.heap.size, 0, none⟩) 0 0) [] rfl HEM11.out (.slice la l.length lc) lv rfl HAV11.out (by simp; omega) (by simp) (lay_ones HAE.out) ?_; intro v12 w12 hown12 hB12 hgr12 hnil12; rw [List.nil_append] at hown12; obtain ⟨a12, c12, e12, -⟩ := hown12.value; rw [hlvl] at e12; subst e12; have HR12 : Hid (OwnLayVs w11.heap.size w12 (.slice a12 l.length c12) lv) := hown12; have bX12 : Below w12.heap.size w12 ((w12.alloc (.cells #[.string path, .string ⟨#[104, 101, 114, 101]⟩] 35)).alloc (.cells #[.string ⟨#[122, 122, 122]⟩, .int .i64 (top + 1), .slice (some ⟨w12.heap.size, 0, none⟩) 1 1] 30)) := ((Below.refl _ w12).alloc (Nat.le_refl _) _).alloc (by simp) _; have HX12 : Hid (OwnLayVs w11.heap.size ((w12.alloc (.cells #[.string path, .string ⟨#[104, 101, 114, 101]⟩] 35)).alloc (.cells #[.string ⟨#[122, 122, 122]⟩, .int .i64 (top + 1), .slice (some ⟨w12.heap.size, 0, none⟩) 1 1] 30)) (.slice a12 l.length c12) lv) := OwnLayVs.below hown12 bX12; have HN12 : Hid (LayVsAt (fun b => b = w12.heap.size + 1) ((w12.alloc (.cells #[.string path, .string ⟨#[104, 101, 114, 101]⟩] 35)).alloc (.cells #[.string ⟨#[122, 122, 122]⟩, .int .i64 (top + 1), .slice (some ⟨w12.heap.size, 0, none⟩) 1 1] 30)) (.slice (some ⟨w12.heap.size + 1, 0, none⟩) 1 1) [⟨⟨⟨#[122, 122, 122]⟩, top + 1, [⟨path, ⟨#[104, 101, 114, 101]⟩⟩]⟩, .slice (some ⟨w12.heap.size, 0, none⟩) 1 1⟩]) := LayVsAt.newAt _ ⟨#[122, 122, 122]⟩ (top + 1) [⟨path, ⟨#[104, 101, 114, 101]⟩⟩] (.slice (some ⟨w12.heap.size, 0, none⟩) 1 1) _ (by simp); have hs12 : w11.heap.size < w12.heap.size := (by have := hB12.size; simp only [World.size_alloc] at this; omega); have hzz12 : w12.heap.size < ((w12.alloc (.cells #[.string path, .string ⟨#[104, 101, 114, 101]⟩] 35)).alloc (.cells #[.string ⟨#[122, 122, 122]⟩, .int .i64 (top + 1), .slice (some ⟨w12.heap.size, 0, none⟩) 1 1] 30)).heap.size := (by simp only [World.size_alloc]; omega); have hwx12 : w.heap.size ≤ w12.heap.size := Nat.le_trans hw11 (Nat.le_of_lt hs12); have hz12 : w11.heap.size ≤ ((w12.alloc (.cells #[.string path, .string ⟨#[104, 101, 114, 101]⟩] 35)).alloc (.cells #[.string ⟨#[122, 122, 122]⟩, .int .i64 (top + 1), .slice (some ⟨w12.heap.size, 0, none⟩) 1 1] 30)).heap.size := (by simp only [World.size_alloc]; omega); have HBX12 : Hid (Below w11.heap.size w11 ((w12.alloc (.cells #[.string path, .string ⟨#[104, 101, 114, 101]⟩] 35)).alloc (.cells #[.string ⟨#[122, 122, 122]⟩, .int .i64 (top + 1), .slice (some ⟨w12.heap.size, 0, none⟩) 1 1] 30))) := (((Below.refl _ w11).alloc (Nat.le_refl _) _).trans hB12).trans (bX12.mono (Nat.le_of_lt hs12)); clear bX12 hB12 hgr12 hnil12 hown12)))
          have HPI : Hid (∀ s ∈ layStep zzzT A ⟨path, hereT⟩, withinB s.path path = true → s = ⟨path, hereT, zzzT⟩) := put_in HRA.out path
          have hp1 := put_one HRA.out path
          have hpl := put_len HRA.out path
          have hgo := gone_out HRA.out path
          have hPz : ∀ s ∈ layStep zzzT A ⟨path, hereT⟩, s.path.size ≤ 205 := fun s hs => by
            rcases (put_mem HRA.out path path s).1 hs with ⟨h1, _⟩ | rfl
            · have := HFA.out s h1; omega
            · exact hpz
          have hGz : ∀ s ∈ layStep zzzT A ⟨path, tildeT⟩, s.path.size ≤ 205 := fun s hs => by
            have := HFA.out s ((gone_mem HRA.out path s).1 hs).1
            omega
          have hPl2 := layStep_len (nm := zzzT) (out := A) (e := ⟨path, hereT⟩)
          have hb114 : Below w1.heap.size w1 w14 := good_below b113 hb14
          obtain ⟨P, hP⟩ : ∃ P, layStep zzzT A ⟨path, hereT⟩ = P := ⟨_, rfl⟩
          obtain ⟨G, hG⟩ : ∃ G, layStep zzzT A ⟨path, tildeT⟩ = G := ⟨_, rfl⟩
          change SetRow w14 pa14 (layStep zzzT A ⟨path, hereT⟩) at hps14
          have hPe : (layStep zzzT A ⟨path, ⟨#[104, 101, 114, 101]⟩⟩) = P := hP
          rw [hP] at HPI hp1 hpl hPz hPl2 hps14
          try rw [hPe]
          rw [hG] at hpl hgo hGz
          have HP14 : Hid (SetRow w14 pa14 P) := hps14
          have HP1 : Hid ((P.filter (fun s => withinB s.path path)).length = 1) := hp1
          have HPZ : Hid (∀ s ∈ P, s.path.size ≤ 205) := hPz
          have HGZ : Hid (∀ s ∈ G, s.path.size ≤ 205) := hGz
          have HGO : Hid (∀ s ∈ G, withinB s.path path = false ∧ withinB path s.path = false) := hgo
          have HGE : Hid (layStep zzzT A ⟨path, tildeT⟩ = G) := hG
          have hPlen : (P.length : Int) ≤ 2001 := by omega
          have hPG : G.length + 1 ≤ P.length ∧ P.length ≤ G.length + 1 := ⟨by omega, by omega⟩
          have HB14 : Hid (Below w1.heap.size w1 w14) := hb114
          clear hps14 hp1 hpl hgo hPz hGz hP hG hPe how14 hb14 hb114 hPl2
          go_wp2_with fail
          go_loopw [21, 22] (fun i21 i22 wr => ∃ (i n : Nat), i22 = .int .i64 (i : Int) ∧ i21 = .int .i64 (n : Int) ∧ i ≤ P.length ∧ n = ((P.take i).filter (fun s => withinB s.path path)).length ∧ Below w14.heap.size w14 wr) (fun _ i22 _ => P.length - (intOf i22).toNat)
          case atStart => exact ⟨0, 0, rfl, rfl, by omega, rfl, Below.refl _ _⟩
          case round =>
            obtain ⟨i, n, rfl, rfl, hi, hn, hb⟩ := hrel
            have hnl : n ≤ P.length := by
              rw [hn]
              have := List.length_filter_le (fun s : Setting => withinB s.path path) (P.take i)
              rw [List.length_take] at this
              omega
            have HN : Hid (n = ((P.take i).filter (fun s => withinB s.path path)).length) := hn
            clear hn
            by_cases hin : i < P.length
            · have hin' : (i : Int) < (P.length : Int) := by omega
              obtain ⟨gp, rfl, hgp, hcp⟩ := (HP14.out.below hb) (by omega)
              obtain ⟨x0, x1, x2⟩ := hcp i hin
              have htk : ((P.take (i + 1)).filter (fun s => withinB s.path path)).length = ((P.take i).filter (fun s => withinB s.path path)).length + (if withinB P[i].path path then 1 else 0) := by
                rw [List.take_succ_eq_append_getElem hin, List.filter_append, List.length_append]
                congr 1
                cases hq : withinB P[i].path path <;> simp [hq]
              rw [← HN.out] at htk
              have hpi := HPI.out P[i] (List.getElem_mem hin)
              have hsz := HPZ.out P[i] (List.getElem_mem hin)
              have hmem : ∃ s, P[i] = s := ⟨_, rfl⟩
              obtain ⟨s, hs⟩ := hmem
              rw [hs] at x0 x1 x2 htk hpi hsz
              obtain ⟨sp, st, sf⟩ := s
              dsimp only at x0 x1 x2 htk hpi hsz
              have cw := fun w => lawWithin sp path (by omega) (by omega) w
              have HTK : Hid (((P.take (i + 1)).filter (fun s => withinB s.path path)).length = n + (if withinB sp path then 1 else 0)) := htk
              clear hcp hs htk
              cases hwi : withinB sp path
              · rw [hwi] at cw HTK
                clear hpi
                go_wp2_with (go_at_call 7; go_must (refine (cw _).mono ?_; rintro e wn ⟨rfl, rfl⟩))
                exact ⟨⟨i + 1, n, by go_num, rfl, by omega, by rw [HTK.out]; simp, hb⟩, by simp [intOf]; omega⟩
              · rw [hwi] at cw HTK
                have he := hpi hwi
                simp only [Setting.mk.injEq] at he
                obtain ⟨rfl, rfl, rfl⟩ := he
                clear hpi
                unfold hereT at x1
                unfold zzzT at x2
                go_wp2_with (go_at_call 7; go_must (refine (cw _).mono ?_; rintro e wn ⟨rfl, rfl⟩))
                exact ⟨⟨i + 1, n + 1, by go_num, by go_num, by omega, by rw [HTK.out]; simp, hb⟩, by simp [intOf]; omega⟩
            · obtain rfl : i = P.length := by omega
              have hin' : ¬ ((P.length : Int) < (P.length : Int)) := by omega
              have hn1 : n = 1 := by rw [HN.out, List.take_length]; exact HP1.out
              subst hn1
              have hb115 := good_below HB14.out hb
              obtain ⟨w15, hw15e⟩ : ∃ w15, w15 = wr := ⟨_, rfl⟩
              subst hw15e
              have b1_15 := hb115
              have hw15 : w.heap.size ≤ w15.heap.size := (good_below HB1.out b1_15).size
              have HAV15 : Hid (LayVsAt (fun b => w.heap.size ≤ b ∧ b < w1.heap.size) (w15.alloc (.cells #[] 30)) (.slice la l.length lc) lv) := HAV.out.keep (cells_below (fun b h => h.2) (good_below b1_15 ((Below.refl _ w15).alloc (Nat.le_refl _) _)))
              have HEM15 : Hid (OwnLayVs w15.heap.size (w15.alloc (.cells #[] 30)) (.slice (some ⟨w15.heap.size, 0, none⟩) 0 0) []) := OwnLayVs.empty w15.heap.size w15 (Nat.le_refl _)
              go_upto_region 53 with (first
                | (go_at_call 6; go_must (refine cm17.mono ?_; rintro e w18 ⟨⟨p18, rfl, how18⟩, hb18⟩; obtain ⟨pa18, pc18, hpv18, hps18⟩ := how18.setRow; subst hpv18))
                | (at_builtin; have hchk := HX16; refine wpList_appendLayVs rfl (.tmp 274) (.tmp 281) rfl w15.heap.size (.slice a16 l.length c16) lv rfl HX16.out (.slice (some ⟨w16.heap.size + 1, 0, none⟩) 1 1) [⟨⟨⟨#[122, 122, 122]⟩, top + 1, [⟨path, ⟨#[126]⟩⟩]⟩, .slice (some ⟨w16.heap.size, 0, none⟩) 1 1⟩] rfl HN16.out hln12 hz16 (fun x hx => by rw [List.mem_singleton] at hx; subst hx; rfl) ?_; intro v17 w17 hown17 hB17 hgr17 hnil17; have hen17 := ent_new (n := 0) (c := 0) (g := 0) path ⟨#[126]⟩ _ HR16.out hgr17; have hlt17 : w16.heap.size < w17.heap.size := Nat.lt_of_lt_of_le hzz16 hB17.size; have bw17 : Below w15.heap.size w15 w17 := HBX16.out.trans hB17; have b117 := good_below b1_15 bw17; have cm17 := topCall (t := ⟨#[126]⟩) H6.out HGL.out HLV.out HLA.out HAE.out b117 hown17 hen17 hlt17 hwx16 hw15 (fun x hx => Int.lt_add_one_of_le (HTR2.out x hx)) hpB hpz (by decide) (fun W' hW' => HT.out W' (good_below (good_below HB1.out b117) hW')); obtain ⟨a17, c17, e17, -⟩ := hown17.value; have hl17 : (lv ++ [(⟨⟨⟨#[122, 122, 122]⟩, top + 1, [⟨path, ⟨#[126]⟩⟩]⟩, .slice (some ⟨w16.heap.size, 0, none⟩) 1 1⟩ : LayV)]).length = l.length + 1 := (by rw [List.length_append, hlvl]; rfl); rw [hl17] at e17; subst e17; clear hen17 hown17 hgr17 hnil17 hchk HX16 HN16 HR16 HBX16)
                | (at_builtin; go_must (refine wpList_appendLayVs rfl (.tmp 272) (.tmp 273) rfl w15.heap.size (.slice (some ⟨w15.heap.size, 0, none⟩) 0 0) [] rfl HEM15.out (.slice la l.length lc) lv rfl HAV15.out (by simp; omega) (by simp) (lay_ones HAE.out) ?_; intro v16 w16 hown16 hB16 hgr16 hnil16; rw [List.nil_append] at hown16; obtain ⟨a16, c16, e16, -⟩ := hown16.value; rw [hlvl] at e16; subst e16; have HR16 : Hid (OwnLayVs w15.heap.size w16 (.slice a16 l.length c16) lv) := hown16; have bX16 : Below w16.heap.size w16 ((w16.alloc (.cells #[.string path, .string ⟨#[126]⟩] 35)).alloc (.cells #[.string ⟨#[122, 122, 122]⟩, .int .i64 (top + 1), .slice (some ⟨w16.heap.size, 0, none⟩) 1 1] 30)) := ((Below.refl _ w16).alloc (Nat.le_refl _) _).alloc (by simp) _; have HX16 : Hid (OwnLayVs w15.heap.size ((w16.alloc (.cells #[.string path, .string ⟨#[126]⟩] 35)).alloc (.cells #[.string ⟨#[122, 122, 122]⟩, .int .i64 (top + 1), .slice (some ⟨w16.heap.size, 0, none⟩) 1 1] 30)) (.slice a16 l.length c16) lv) := OwnLayVs.below hown16 bX16; have HN16 : Hid (LayVsAt (fun b => b = w16.heap.size + 1) ((w16.alloc (.cells #[.string path, .string ⟨#[126]⟩] 35)).alloc (.cells #[.string ⟨#[122, 122, 122]⟩, .int .i64 (top + 1), .slice (some ⟨w16.heap.size, 0, none⟩) 1 1] 30)) (.slice (some ⟨w16.heap.size + 1, 0, none⟩) 1 1) [⟨⟨⟨#[122, 122, 122]⟩, top + 1, [⟨path, ⟨#[126]⟩⟩]⟩, .slice (some ⟨w16.heap.size, 0, none⟩) 1 1⟩]) := LayVsAt.newAt _ ⟨#[122, 122, 122]⟩ (top + 1) [⟨path, ⟨#[126]⟩⟩] (.slice (some ⟨w16.heap.size, 0, none⟩) 1 1) _ (by simp); have hs16 : w15.heap.size < w16.heap.size := (by have := hB16.size; simp only [World.size_alloc] at this; omega); have hzz16 : w16.heap.size < ((w16.alloc (.cells #[.string path, .string ⟨#[126]⟩] 35)).alloc (.cells #[.string ⟨#[122, 122, 122]⟩, .int .i64 (top + 1), .slice (some ⟨w16.heap.size, 0, none⟩) 1 1] 30)).heap.size := (by simp only [World.size_alloc]; omega); have hwx16 : w.heap.size ≤ w16.heap.size := Nat.le_trans hw15 (Nat.le_of_lt hs16); have hz16 : w15.heap.size ≤ ((w16.alloc (.cells #[.string path, .string ⟨#[126]⟩] 35)).alloc (.cells #[.string ⟨#[122, 122, 122]⟩, .int .i64 (top + 1), .slice (some ⟨w16.heap.size, 0, none⟩) 1 1] 30)).heap.size := (by simp only [World.size_alloc]; omega); have HBX16 : Hid (Below w15.heap.size w15 ((w16.alloc (.cells #[.string path, .string ⟨#[126]⟩] 35)).alloc (.cells #[.string ⟨#[122, 122, 122]⟩, .int .i64 (top + 1), .slice (some ⟨w16.heap.size, 0, none⟩) 1 1] 30))) := (((Below.refl _ w15).alloc (Nat.le_refl _) _).trans hB16).trans (bX16.mono (Nat.le_of_lt hs16)); clear bX16 hB16 hgr16 hnil16 hown16)))
              change SetRow w18 pa18 (layStep zzzT A ⟨path, tildeT⟩) at hps18
              have hGe : (layStep zzzT A ⟨path, ⟨#[126]⟩⟩) = G := HGE.out
              rw [HGE.out] at hps18
              try rw [hGe]
              have HG18 : Hid (SetRow w18 pa18 G) := hps18
              have hPG2 : (P.length : Int) - 1 = (G.length : Int) := by omega
              have hGlen : (G.length : Int) ≤ 2001 := by omega
              have HB18 : Hid (Below w.heap.size w w18) := good_below (good_below HB1.out b117) hb18
              clear hps18 hGe how18 hb18
              go_wp2_with fail
              go_loopw [24] (fun i24 wr => ∃ (i : Nat), i24 = .int .i64 (i : Int) ∧ i ≤ G.length ∧ Below w18.heap.size w18 wr) (fun i24 _ => G.length - (intOf i24).toNat)
              case atStart => exact ⟨0, rfl, by omega, Below.refl _ _⟩
              case round =>
                obtain ⟨i, rfl, hi, hb⟩ := hrel
                by_cases hin : i < G.length
                · have hin' : (i : Int) < (G.length : Int) := by omega
                  obtain ⟨gp, rfl, hgp, hcp⟩ := (HG18.out.below hb) (by omega)
                  have x0 := (hcp i hin).1
                  have hgo := HGO.out G[i] (List.getElem_mem hin)
                  have hsz := HGZ.out G[i] (List.getElem_mem hin)
                  obtain ⟨sp, hs⟩ : ∃ sp, G[i].path = sp := ⟨_, rfl⟩
                  rw [hs] at x0 hgo hsz
                  have cw1 := fun w => lawWithin sp path (by omega) (by omega) w
                  have cw2 := fun w => lawWithin path sp (by omega) (by omega) w
                  rw [hgo.1] at cw1
                  rw [hgo.2] at cw2
                  clear hcp hs hgo
                  go_wp2_with (first
                    | (go_at_call 7; have hchk := hfirst; refine (cw2 _).mono ?_; rintro e wn ⟨rfl, rfl⟩)
                    | (go_at_call 7; go_must (refine (cw1 _).mono ?_; rintro e wm ⟨rfl, rfl⟩; have hfirst : True := trivial)))
                  exact ⟨⟨i + 1, by go_num, by omega, hb⟩, by simp [intOf]; omega⟩
                · obtain rfl : i = G.length := by omega
                  have hin' : ¬ ((G.length : Int) < (G.length : Int)) := by omega
                  go_wp2_with fail
                  go_ret
                  exact ⟨rfl, good_below HB18.out hb⟩
end Go.Proofs.YtnlakebhkfbpfaaGreatDoor
