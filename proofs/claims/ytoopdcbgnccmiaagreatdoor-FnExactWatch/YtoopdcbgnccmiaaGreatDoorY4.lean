/-
  What impl's Watch answers: its walk. No statement of the seat is proved here.
-/
import Derived.Test.YtoopdcbgnccmiaaGreatDoorY2
import Derived.Test.YtoopdcbgnccmiaaGreatDoorY3
namespace Go.Proofs.YtoopdcbgnccmiaaGreatDoor
open Go.ChangeShapes Go.WideShapes Go.ChangeAt Go.RowKit Go.Maps
set_option linter.unusedVariables false

theorem union_short {a b : List Setting} (ha : ∀ o ∈ a, o.path.size ≤ 205) (hb : ∀ o ∈ b, o.path.size ≤ 205) : ∀ s ∈ unionS a b, s.path.size ≤ 205 := fun s hs => by
  unfold unionS at hs
  obtain ⟨p, _, hp⟩ := List.mem_filterMap.1 hs
  rcases (either_path hp).2 with q | q
  · exact ha s q
  · exact hb s q
theorem long_int (a b c : Nat) : (decide ((4096 : Int) < (a : Int)) || decide ((4096 : Int) < (b : Int)) || decide ((4096 : Int) < (c : Int))) = (decide (4096 < a) || decide (4096 < b) || decide (4096 < c)) := by
  rw [Bool.eq_iff_iff]
  simp only [decide_eq_true_eq, Bool.or_eq_true]
  omega
theorem txts_cells {S : Nat → Prop} {w : World} {a : Option Addr} {n cap : Nat} {l : List ByteArray} (h : TxtsAt S w (.slice a n cap) l) (hS : ∀ b, S b → b < w.heap.size) : 0 < l.length → ∃ g o, a = some ⟨g, o, none⟩ ∧ g < w.heap.size ∧ ∀ j (hj : j < l.length), w.cell? ⟨g, o + j, none⟩ = some (.string l[j]) := fun h0 => by
  obtain ⟨_, ta, tc, htv, hcell⟩ := h
  simp only [Value.slice.injEq] at htv
  obtain ⟨rfl, -, rfl⟩ := htv
  obtain ⟨b, off, rfl, hbS, hcell⟩ := hcell h0
  exact ⟨b, off, rfl, hS b hbS, hcell⟩
theorem MapS.looks {W : Nat → World} {b m : Nat} {out : List Setting} (h : ∀ n, MapS (W n) b m out) {p : ByteArray} (hp : p.size ≤ 1048576) :
    ∃ x y : ByteArray, ∀ n, (Instr.lookup 92 (.map (some b)) (.string p) false).run Tryz.prog (W n) = .ok (.agg #[.string x, .string (textOf out p), .string y]) (W n) :=
  ⟨_, _, fun n => (h n).look hp⟩
theorem run_text (x y z : ByteArray) (w : World) : (Instr.field 105 (.agg #[.string x, .string y, .string z]) 1).run Tryz.prog w = .ok (.string y) w := by kernel_rfl
set_option maxRecDepth 100000 in
set_option maxHeartbeats 16000000 in
theorem implWatch : WatchC 25 (Lib.Utf8Tabs 1 2) watchL watchC := by
  intro S l0 l1 l2 v0 v1 v2 w hS h0 hl0 hok0 h1 hl1 hok1 h2 hl2 hok2 hT
  have hw1 : ∀ o, Below w.heap.size w (w.alloc o) := fun o => (Below.refl _ w).alloc (Nat.le_refl _) _
  obtain ⟨a0, cap0, hv0⟩ := h0.shape
  obtain ⟨a1, cap1, hv1⟩ := h1.shape
  obtain ⟨a2, cap2, hv2⟩ := h2.shape
  have m0 : (l0.length : Int) ≤ 1048576 := by omega
  have m1 : (l1.length : Int) ≤ 1048576 := by omega
  have m2 : (l2.length : Int) ≤ 1048576 := by omega
  obtain ⟨t0, t1, t2⟩ := three_new w (l0.length : Int) (l1.length : Int) (l2.length : Int) w.heap.size rfl
  have cl3 := implLong3 (l0.length : Int) (l1.length : Int) (l2.length : Int) w.heap.size (w.alloc (.cells #[.int .i64 (l0.length : Int), .int .i64 (l1.length : Int), .int .i64 (l2.length : Int)] 3)) t0 t1 t2
  rw [long_int] at cl3
  change Calls _ _ _ _ (fun e w' => e = .returned (.bool (longW l0 l1 l2)) ∧ _) at cl3
  clear t0 t1 t2
  unfold watchL watchC
  cases hlw : longW l0 l1 l2
  case true =>
    rw [hlw] at cl3
    simp only [↓reduceIte]
    subst hv0 hv1 hv2
    clear h0 h1 h2 hok0 hok1 hok2 hS hT hlw
    go_enter Tryz.func25, Tryz.ntmps25
    go_wp2_with (go_at_call 63; go_must (refine cl3.mono ?_; rintro e w1 ⟨rfl, rfl⟩))
    go_ret2
    exact ⟨⟨_, rfl, OwnChanges.nil _ _⟩, hw1 _⟩
  case false =>
  rw [hlw] at cl3
  simp only [Bool.false_eq_true, ↓reduceIte]
  have hl4 : l2.length ≤ 4096 := by
    unfold longW at hlw
    simp at hlw
    omega
  clear hlw
  have c0 := fun W (hW : Below w.heap.size w W) => implLayers (w := W) (fun b hb => Nat.lt_of_lt_of_le (hS b hb) hW.size) (h0.keep (cells_below hS hW)) hok0 (hT _ hW)
  have c1 := fun W (hW : Below w.heap.size w W) => implLayers (w := W) (fun b hb => Nat.lt_of_lt_of_le (hS b hb) hW.size) (h1.keep (cells_below hS hW)) hok1 (hT _ hW)
  cases hA : layersB nameOK l0
  · rw [hA] at c0
    have erw : rightW l0 l1 l2 = false := by simp [rightW, hA]
    simp only [erw, Bool.false_eq_true, ↓reduceIte]
    clear erw
    subst hv0 hv1 hv2
    clear h0 h1 h2 hok0 hok1 hok2 hS c1 hA hT
    go_enter Tryz.func25, Tryz.ntmps25
    go_wp2_with (first
      | (go_at_call 63; go_must (refine cl3.mono ?_; rintro e w1 ⟨rfl, rfl⟩))
      | (go_at_call 64; go_must (refine (c0 _ (hw1 _)).mono ?_; rintro e w2 ⟨rfl, hb2⟩)))
    go_ret2
    exact ⟨⟨_, rfl, OwnChanges.nil _ _⟩, good_below (hw1 _) hb2⟩
  rw [hA] at c0
  cases hB : layersB nameOK l1
  · rw [hB] at c1
    have erw : rightW l0 l1 l2 = false := by simp [rightW, hB]
    simp only [erw, Bool.false_eq_true, ↓reduceIte]
    clear erw
    subst hv0 hv1 hv2
    clear h0 h1 h2 hok0 hok1 hok2 hS hA hB hT
    go_enter Tryz.func25, Tryz.ntmps25
    go_wp2_with (first
      | (go_at_call 63; go_must (refine cl3.mono ?_; rintro e w1 ⟨rfl, rfl⟩))
      | (go_at_call 64; have hchk := hb2; refine (c1 _ hb2').mono ?_; rintro e w3 ⟨rfl, hb3⟩)
      | (go_at_call 64; go_must (refine (c0 _ (hw1 _)).mono ?_; rintro e w2 ⟨rfl, hb2⟩; have hb2' := good_below (hw1 _) hb2)))
    go_ret2
    exact ⟨⟨_, rfl, OwnChanges.nil _ _⟩, good_below hb2' hb3⟩
  rw [hB] at c1
  subst hv2
  have cp := fun W (hW : Below w.heap.size w W) => implPathsO l2 a2 cap2 W (by omega) (fun s hs => by have := hok2 s hs; unfold TxtsOK at this; omega) (txts_cells (h2.keep (cells_below hS hW)) (fun b hb => Nat.lt_of_lt_of_le (hS b hb) hW.size)) (hT _ hW)
  have hrw : rightW l0 l1 l2 = l2.all (pathB nameOK) := by unfold rightW; rw [hA, hB]; rfl
  rw [hrw]
  cases hP : l2.all (pathB nameOK)
  · rw [hP] at cp
    simp only [Bool.false_eq_true, ↓reduceIte]
    subst hv0 hv1
    clear h0 h1 h2 hok0 hok1 hok2 hS hA hB hT hP hrw
    go_enter Tryz.func25, Tryz.ntmps25
    go_wp2_with (first
      | (go_at_call 63; go_must (refine cl3.mono ?_; rintro e w1 ⟨rfl, rfl⟩))
      | (go_at_call 65; go_must (refine (cp _ hb3').mono ?_; rintro e w4 ⟨rfl, hb4⟩))
      | (go_at_call 64; have hchk := hb2; refine (c1 _ hb2').mono ?_; rintro e w3 ⟨rfl, hb3⟩; have hb3' := good_below hb2' hb3)
      | (go_at_call 64; go_must (refine (c0 _ (hw1 _)).mono ?_; rintro e w2 ⟨rfl, hb2⟩; have hb2' := good_below (hw1 _) hb2)))
    go_ret2
    exact ⟨⟨_, rfl, OwnChanges.nil _ _⟩, good_below hb3' hb4⟩
  rw [hP] at cp
  simp only [↓reduceIte]
  have hps : ∀ q ∈ l2, q.size ≤ 205 := fun q hq => path_short (List.all_eq_true.1 hP q hq)
  have HT2 : Hid (∀ W, Below w.heap.size w W → 0 < l2.length → ∃ g o, a2 = some ⟨g, o, none⟩ ∧ g < W.heap.size ∧ ∀ j (hj : j < l2.length), W.cell? ⟨g, o + j, none⟩ = some (.string l2[j])) := fun W hW => txts_cells (h2.keep (cells_below hS hW)) (fun b hb => Nat.lt_of_lt_of_le (hS b hb) hW.size)
  have HPS : Hid (∀ q ∈ l2, q.size ≤ 205) := hps
  have cm0 := fun W (hW : Below w.heap.size w W) => implMergedR (w := W) (fun b hb => Nat.lt_of_lt_of_le (hS b hb) hW.size) (h0.keep (cells_below hS hW)) hA
  have cm1 := fun W (hW : Below w.heap.size w W) => implMergedR (w := W) (fun b hb => Nat.lt_of_lt_of_le (hS b hb) hW.size) (h1.keep (cells_below hS hW)) hB
  have hsa := laid_short hA
  have hsb := laid_short hB
  have hfa := laid_fair hok0
  have hfb := laid_fair hok1
  have hra := laid_rises (overP l0)
  have hrb := laid_rises (overP l1)
  have hla := laid_len hA
  have hlb := laid_len hB
  obtain ⟨oa, hoa⟩ : ∃ oa, laidF (overP l0) = oa := ⟨_, rfl⟩
  obtain ⟨ob, hob⟩ : ∃ ob, laidF (overP l1) = ob := ⟨_, rfl⟩
  rw [hoa] at cm0 hsa hla hfa hra ⊢
  rw [hob] at cm1 hsb hlb hfb hrb ⊢
  have hul := union_len oa ob
  have hus := union_short hsa hsb
  have hur := union_rises oa ob
  have hcu := changes_union hra hrb l2
  rw [hcu]
  have HSB : Hid (∀ o ∈ ob, o.path.size ≤ 1048576) := fun o ho => by have := hsb o ho; omega
  have HFA : Hid (Fair oa) := hfa
  have HFB : Hid (Fair ob) := hfb
  have HRA : Hid (SRises oa) := hra
  have HRB : Hid (SRises ob) := hrb
  have ccp := fun (W : World) (bd bs nd ns : Nat) (hd : MapS W bd nd oa) (hs : MapS W bs ns ob) (hne : bd ≠ bs) (hn : nd + ns ≤ 100000) => implCopy hd hs hne HRA.out HRB.out hn HSB.out
  obtain ⟨U, hU⟩ : ∃ U, unionS oa ob = U := ⟨_, rfl⟩
  rw [hU] at hul hus hur ccp ⊢
  have HUS : Hid (∀ s ∈ U, s.path.size ≤ 205) := hus
  have HUR : Hid (SRises U) := hur
  have hul' : (U.length : Int) ≤ 4000 := by omega
  obtain ⟨PL, hPL⟩ : ∃ PL, U.filterMap (fun s => chg oa ob l2 s.path) = PL := ⟨_, rfl⟩
  rw [hPL]
  have HPL : Hid (U.filterMap (fun s => chg oa ob l2 s.path) = PL) := hPL
  subst hv0 hv1
  clear h0 h1 h2 hok0 hok1 hok2 hS hA hB hT hP hrw hsa hsb hfa hfb hra hrb hoa hob hcu hus hur hU hPL hps
  go_enter Tryz.func25, Tryz.ntmps25
  go_wp2_with (first
    | (go_at_call 63; go_must (refine cl3.mono ?_; rintro e w1 ⟨rfl, rfl⟩))
    | (go_at_call 65; go_must (refine (cp _ hb3').mono ?_; rintro e w4 ⟨rfl, hb4⟩; have hb4' := good_below hb3' hb4; clear cp))
    | (go_at_call 64; have hchk := hb2; refine (c1 _ hb2').mono ?_; rintro e w3 ⟨rfl, hb3⟩; have hb3' := good_below hb2' hb3; clear c1 hchk)
    | (go_at_call 64; go_must (refine (c0 _ (hw1 _)).mono ?_; rintro e w2 ⟨rfl, hb2⟩; have hb2' := good_below (hw1 _) hb2; clear c0 cl3))
    | (go_at_call 66; have hchk := hb5; refine (cm1 _ hb5').mono ?_; rintro e w6 ⟨⟨b1, n1, rfl, hm1, hbb1, hnn1⟩, hb6⟩; have hb6' := good_below hb5' hb6; have hm06 := MapS.below hm0 hb6; have hlt0 := hm0.lt; have hlt1 := hm1.lt; have cc := implCloneM hm06)
    | (go_at_call 66; go_must (refine (cm0 _ hb4').mono ?_; rintro e w5 ⟨⟨b0, n0, rfl, hm0, hbb0, hnn0⟩, hb5⟩; have hb5' := good_below hb4' hb5))
    | (go_at_call 67; go_must (refine cc.mono ?_; rintro e w7 ⟨rfl, hmc, hb7⟩; have hm07 := MapS.below hm06 hb7; have hm17 := MapS.below hm1 hb7; have hb7' := good_below hb6' hb7; have hs6 := hb6'.size; have hs5 := hb6.size; have cy := ccp _ _ _ _ _ hmc hm17 (by omega) (by omega); clear cc))
    | (go_at_call 68; go_must (refine cy.mono ?_; rintro e w8 ⟨rfl, hmu, hg8⟩; have hm08 := hm07.kept hg8 (by simp; omega); have hm18 := hm17.kept hg8 (by simp; omega); have hb8' : Below w.heap.size w w8 := hb7'.grown hg8 hb7'.size (fun j hj => by cases hj; omega); have ci := implInOrder hmu HUR.out (by omega); clear cy ccp))
    | (go_at_call 69; go_must (refine ci.mono ?_; rintro e w9 ⟨⟨p, rfl, hop⟩, hb9⟩; have hb9' := good_below hb8' hb9; have hm09 := MapS.below hm08 hb9; have hm19 := MapS.below hm18 hb9; obtain ⟨pa, pc, hpv, -, hpc⟩ := hop.value; subst hpv; clear ci)))
  have HPC : Hid (0 < U.length → ∃ g, pa = some ⟨g, 0, none⟩ ∧ w8.heap.size ≤ g ∧ g < w9.heap.size ∧ ∀ j (hj : j < U.length), w9.cell? ⟨g, j * 3, none⟩ = some (.string U[j].path) ∧ w9.cell? ⟨g, j * 3 + 1, none⟩ = some (.string U[j].text) ∧ w9.cell? ⟨g, j * 3 + 2, none⟩ = some (.string U[j].from')) := hpc
  have HB9 : Hid (Below w.heap.size w w9) := hb9'
  have HM0 : Hid (MapS w9 b0 n0 oa) := hm09
  have HM1 : Hid (MapS w9 b1 n1 ob) := hm19
  clear hop hpc hm0 hm1 hm06 hm07 hm17 hm08 hm18 hm09 hm19 hmc hmu hg8 hbb0 hbb1 hb2 hb2' hb3 hb3' hb4 hb4' hb5 hb5' hb6 hb6' hb7 hb7' hb8' hb9 hb9' hw1 cm0 cm1 hchk hlt0 hlt1 hs5 hs6 hnn0 hnn1
  go_loopw [11, 49] (fun i11 i49 wr => ∃ (k : Nat) (oa2 : Option Addr) (oc2 : Nat) (out : List Change), i49 = .int .i64 (k : Int) ∧ i11 = .slice oa2 out.length oc2 ∧ k ≤ U.length ∧ out = (U.take k).filterMap (fun s => chg oa ob l2 s.path) ∧ OwnChanges w9.heap.size wr (.slice oa2 out.length oc2) out ∧ Below w9.heap.size w9 wr) (fun _ i49 _ => U.length - (intOf i49).toNat)
  case atStart => exact ⟨0, none, 0, [], rfl, rfl, by omega, rfl, OwnChanges.nil _ _, Below.refl _ _⟩
  case round =>
    obtain ⟨k, oa2, oc2, out, rfl, rfl, hk, hout, hown, hb⟩ := hrel
    have HOW : Hid (OwnChanges w9.heap.size wr (.slice oa2 out.length oc2) out) := hown
    have HOUT : Hid (out = (U.take k).filterMap (fun s => chg oa ob l2 s.path)) := hout
    have HBR : Hid (Below w9.heap.size w9 wr) := hb
    have hbs := hb.size
    have hol : out.length ≤ 4000 := by
      have := filterMap_len (fun s => chg oa ob l2 s.path) (U.take k)
      rw [← hout, List.length_take] at this
      omega
    clear hown hout
    by_cases hkn : k < U.length
    · have hkn' : (k : Int) < (U.length : Int) := by omega
      obtain ⟨g, rfl, -, hg, hcell⟩ := HPC.out (by omega)
      obtain ⟨c0, c1, c2⟩ := hcell k hkn
      have hps := HUS.out U[k] (List.getElem_mem hkn)
      have htk : (U.take (k + 1)).filterMap (fun s => chg oa ob l2 s.path) = (U.take k).filterMap (fun s => chg oa ob l2 s.path) ++ (match chg oa ob l2 U[k].path with | some c => [c] | none => []) := by
        rw [List.take_succ_eq_append_getElem hkn, List.filterMap_append]
        congr 1
        simp only [List.filterMap_cons, List.filterMap_nil]
        cases chg oa ob l2 U[k].path <;> rfl
      obtain ⟨s, hs⟩ : ∃ s, U[k] = s := ⟨_, rfl⟩
      rw [hs] at c0 c1 c2 hps htk
      obtain ⟨p, st, sf⟩ := s
      dsimp only at c0 c1 c2 hps htk
      have d0 := (hb.cell (p := ⟨g, k * 3, none⟩) hg).trans c0
      have d1 := (hb.cell (p := ⟨g, k * 3 + 1, none⟩) hg).trans c1
      have d2 := (hb.cell (p := ⟨g, k * 3 + 2, none⟩) hg).trans c2
      have HTK : Hid ((U.take (k + 1)).filterMap (fun s => chg oa ob l2 s.path) = (U.take k).filterMap (fun s => chg oa ob l2 s.path) ++ (match chg oa ob l2 p with | some c => [c] | none => [])) := htk
      have HPZ : Hid (p.size ≤ 205) := hps
      clear hcell c0 c1 c2 hps htk hs
      have hbk : Blk (wr.alloc (.cells #[.string p, .string st, .string sf] 105)) wr.heap.size 105 #[.string p, .string st, .string sf] := heap_alloc_last wr _
      have hbA : Below wr.heap.size wr (wr.alloc (.cells #[.string p, .string st, .string sf] 105)) := (Below.refl _ wr).alloc (Nat.le_refl _) _
      obtain ⟨gx, hgx⟩ : ∃ gx, wr.heap.size = gx := ⟨_, rfl⟩
      rw [hgx] at hbk
      go_upto_region 12 with fail
      obtain ⟨wA, hwA⟩ : ∃ wA, wr.alloc (.cells #[.string p, .string st, .string sf] 105) = wA := ⟨_, rfl⟩
      rw [hwA] at hbk hbA ⊢
      have e0 := hbk.cell 0
      simp at e0
      obtain ⟨x0, y0, hL0⟩ := MapS.looks (fun n => (HM0.out.below (good_below HBR.out hbA)).below (bel_drewN (Below.refl _ wA) n)) (p := p) (by have := HPZ.out; omega)
      obtain ⟨x1, y1, hL1⟩ := MapS.looks (fun n => (HM1.out.below (good_below HBR.out hbA)).below (bel_drewN (Below.refl _ wA) n)) (p := p) (by have := HPZ.out; omega)
      have hch : chg oa ob l2 p = if seenB l2 p && !((textOf oa p).toList == (textOf ob p).toList) then some ⟨p, textOf oa p, textOf ob p⟩ else none := rfl
      have hxz := textOf_fair HFA.out p
      have hyz := textOf_fair HFB.out p
      obtain ⟨x, hx⟩ : ∃ x, textOf oa p = x := ⟨_, rfl⟩
      obtain ⟨y, hy⟩ : ∃ y, textOf ob p = y := ⟨_, rfl⟩
      rw [hx] at hL0 hch hxz
      rw [hy] at hL1 hch hyz
      have HCH : Hid (chg oa ob l2 p = if seenB l2 p && !(x.toList == y.toList) then some ⟨p, x, y⟩ else none) := hch
      have HBK : Hid (Blk wA gx 105 #[.string p, .string st, .string sf]) := hbk
      have HBA : Hid (Below wr.heap.size wr wA) := hbA
      have HXZ : Hid (x.size ≤ 1048576) := hxz
      have HYZ : Hid (y.size ≤ 1048576) := hyz
      clear hch hxz hyz hx hy hbk hbA d0 d1 d2 hb hwA
      have hfd := run_text
      go_quiet (fail)
      have hbD : Below wr.heap.size wr (wA.drewN nq) := bel_drewN HBA.out nq
      have hbkD : Blk (wA.drewN nq) gx 105 #[.string p, .string st, .string sf] := Blk.below HBK.out (bel_drewN (Below.refl _ wA) nq)
      obtain ⟨wD, hwD⟩ : ∃ wD, wA.drewN nq = wD := ⟨_, rfl⟩
      rw [hwD] at hbD hbkD ⊢
      have HBD : Hid (Below wr.heap.size wr wD) := hbD
      have HBKD : Hid (Blk wD gx 105 #[.string p, .string st, .string sf]) := hbkD
      have e1 := hbkD.cell 0
      simp at e1
      have hsD := hbD.size
      clear hwD hbD hbkD hL0 hL1 hfd e0 HBK HBA
      cases hxy : (x.toList == y.toList)
      case true =>
        have hch := HCH.out
        rw [hxy, if_neg (by simp)] at hch
        have htk := HTK.out
        rw [hch, List.append_nil, ← HOUT.out] at htk
        have HTK2 : Hid ((U.take (k + 1)).filterMap (fun s => chg oa ob l2 s.path) = out) := htk
        clear hch htk
        go_wp2_with fail
        exact ⟨⟨k + 1, oa2, oc2, out, by go_num, rfl, by omega, HTK2.out.symm, OwnChanges.below HOW.out HBD.out, good_below HBR.out HBD.out⟩, by simp [intOf]; omega⟩
      case false =>
      have cn := implContainsW p (by have := HPZ.out; omega) l2 a2 cap2 wD (by omega) (fun q hq => by have := HPS.out q hq; omega) (HT2.out wD (good_below (good_below HB9.out HBR.out) HBD.out))
      cases hsn : seenB l2 p
      · rw [hsn] at cn
        have hch := HCH.out
        rw [hsn, if_neg (by simp)] at hch
        have htk := HTK.out
        rw [hch, List.append_nil, ← HOUT.out] at htk
        have HTK2 : Hid ((U.take (k + 1)).filterMap (fun s => chg oa ob l2 s.path) = out) := htk
        clear hch htk hsn
        go_wp2_with (go_at_call 70; go_must (refine cn.mono ?_; rintro e w10 ⟨rfl, hb10⟩; have hbr10 := good_below HBD.out hb10))
        exact ⟨⟨k + 1, oa2, oc2, out, by go_num, rfl, by omega, HTK2.out.symm, OwnChanges.below HOW.out hbr10, good_below HBR.out hbr10⟩, by simp [intOf]; omega⟩
      · rw [hsn] at cn
        have hch := HCH.out
        rw [hsn, hxy, if_pos (by rfl)] at hch
        have htk := HTK.out
        rw [hch, ← HOUT.out] at htk
        have HTK2 : Hid ((U.take (k + 1)).filterMap (fun s => chg oa ob l2 s.path) = out ++ [⟨p, x, y⟩]) := htk
        clear hch htk hsn
        have cp := fun w => implCloneT p (by have := HPZ.out; omega) w
        have cx := fun w => implCloneT x HXZ.out w
        have cy := fun w => implCloneT y HYZ.out w
        go_wp2_with (first
          | (go_at_call 70; go_must (refine cn.mono ?_; rintro e w10 ⟨rfl, hb10⟩; have hbr10 := good_below HBD.out hb10; have hbk10 := Blk.below HBKD.out hb10; have e2 := hbk10.cell 0; simp at e2; clear cn e1 hbk10))
          | (go_at_call 59; have hchk := hb12; refine (cy _).mono ?_; rintro e w13 ⟨rfl, hb13⟩; have hbr13 := good_below hbr12 hb13; have how13 := OwnChanges.below HOW.out hbr13; have hs13 := hbr13.size)
          | (go_at_call 59; have hchk := hb11; refine (cx _).mono ?_; rintro e w12 ⟨rfl, hb12⟩; have hbr12 := good_below hbr11 hb12)
          | (go_at_call 59; refine (cp _).mono ?_; rintro e w11 ⟨rfl, hb11⟩; have hbr11 := good_below hbr10 hb11)
          | (at_builtin; go_must (refine wpList_appendChanges rfl (.tmp 75) (.tmp 85) rfl w9.heap.size (.slice oa2 out.length oc2) out rfl (OwnChanges.below how13 ((Below.refl _ w13).alloc (Nat.le_refl _) _)) _ [⟨p, x, y⟩] rfl (ChangesAt.newAt _ p x y _ (by simp)) (by simp <;> omega) (by simp only [World.size_alloc]; omega) ?_; intro vA wB hownB hBB hgrB hnilB; obtain ⟨aB, cB, eB, -⟩ := hownB.value; have hlB : (out ++ [(⟨p, x, y⟩ : Change)]).length = out.length + 1 := (by simp); rw [hlB] at eB; subst eB)))
        have hbw13 := good_below HBR.out hbr13
        exact ⟨⟨k + 1, aB, cB, out ++ [⟨p, x, y⟩], by go_num, by simp, by omega, HTK2.out.symm, by simpa using hownB, (hbw13.alloc hbw13.size _).trans hBB⟩, by simp [intOf]; omega⟩
    · obtain rfl : k = U.length := by omega
      have hkn' : ¬ ((U.length : Int) < (U.length : Int)) := by omega
      have hout := HOUT.out
      rw [List.take_length, HPL.out] at hout
      subst hout
      go_wp2_with fail
      go_ret2
      exact ⟨⟨_, rfl, OwnChanges.mono HOW.out HB9.out.size⟩, good_below HB9.out HBR.out⟩
end Go.Proofs.YtoopdcbgnccmiaaGreatDoor
