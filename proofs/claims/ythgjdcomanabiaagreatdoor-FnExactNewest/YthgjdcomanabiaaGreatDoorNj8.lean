/-
  impl.Newest: its walk. How much a Newest answers at most; the law on it, over both sides. No statement of the seat is proved here.
-/
import Derived.Test.YthgjdcomanabiaaGreatDoorNj7
namespace Go.Proofs.YthgjdcomanabiaaGreatDoor
open Go.ChangeShapes Go.WideShapes Go.ChangeAt Go.RowKit
set_option linter.unusedVariables false

theorem same_good {l : List Rel} {R : List Pk} {ws : List Imp} (h : storeB nameOK l = true) (hs : Same l R (needsOf l)) (hw : ws.length ≤ 21) : Good R (needsOf l) ws where
  len := by rw [hs.perm.length_eq, List.length_map]; exact (store_rel h).1
  sort := hs.rises
  needs := fun p hp => by
    obtain ⟨r, hr, rfl⟩ := (hs.mem p).1 hp
    rw [hs.needs r hr]
    exact (store_needs h).2 r hr
  wish := hw
theorem code_zero {l : List Rel} {ws : List Imp} (h : codeB nameOK l ws = 0) : storeB nameOK l = true ∧ wishesB nameOK ws = true := by
  unfold codeB at h
  split at h
  · omega
  · cases hs : storeB nameOK l <;> cases hw : wishesB nameOK ws <;> rw [hs, hw] at h <;> simp at h ⊢
theorem claims_pos {l : List Rel} {R : List Pk} {nf : Pk → List Imp} {ws : List Imp} (hf : Fine l ws) (hs : Same l R nf) : ∀ c ∈ claimsOf nf ws (picksOf l (pickedOf l ws)), 0 ≤ c.need.mx := by
  intro c hc
  unfold claimsOf at hc
  rcases List.mem_append.1 hc with h | h
  · obtain ⟨m, hm, rfl⟩ := List.mem_map.1 h
    exact (hf.wish m hm).1
  · obtain ⟨p, hp, h⟩ := List.mem_flatMap.1 h
    obtain ⟨m, hm, rfl⟩ := List.mem_map.1 h
    obtain ⟨r, hr, he⟩ := (hs.mem p).1 (picks_in hs p hp)
    rw [← he, hs.needs r hr] at hm
    exact (hf.need r hr m hm).1
/-- Where the code is 0 the choice is what is picked. -/
theorem choice_ok {l : List Rel} {ws : List Imp} (h : (choiceOf l ws).2.1 = 0) : (choiceOf l ws).1 = pickedOf l ws := by
  unfold choiceOf finish at h ⊢
  by_cases hL : lostOf l ws ≠ []
  · rw [if_pos hL] at h; simp at h
  · rw [if_neg hL] at h ⊢
    cases ho : overB (picksOf l (pickedOf l ws)) ws with
    | some t => rw [ho] at h; simp at h
    | none =>
      rw [ho] at h
      dsimp only at h ⊢
      cases hf : firstOver l (picksOf l (pickedOf l ws)) (pickedOf l ws) with
      | some at' => rw [hf] at h; obtain ⟨a, t⟩ := at'; simp at h
      | none => rfl

/-- A map's block has no cells. -/
theorem counts_cell {w : World} {K : TypeId} {B n g i : Nat} {f : Lit → Int} {v : Value} (h : Counts w K B n f) (hc : w.cell? ⟨g, i, none⟩ = some v) : g ≠ B := by
  intro e
  subst e
  obtain ⟨D, ⟨es, clock, hbk, _⟩, _⟩ := h
  simp [World.cell?, hbk] at hc
theorem Counts.kept {w w' : World} {K : TypeId} {B n : Nat} {f : Lit → Int} {row : Option Nat} (h : Counts w K B n f) (hg : w.grownBy w' row) (hne : some B ≠ row) : Counts w' K B n f := by
  obtain ⟨D, h, hf⟩ := h; exact ⟨D, h.kept hg hne, hf⟩
theorem newest_map (l : List Rel) (NS : List Nat) (ws : List Imp) : newestOf l NS ws = (picksOf l NS).map fun p => ⟨p.name, newestV l (allNeeds l NS ws) p.name⟩ := by
  unfold newestOf picksOf
  rw [List.map_map]
  rfl

set_option maxRecDepth 100000 in
set_option maxHeartbeats 4000000 in
theorem implNewest : NewestC 25 (Lib.Utf8Tabs 0 1) newestF := by
  intro S l ws v u w hS h h2 hl hok hwl hwok hT
  have c27 := implShelf hS h h2 hl hok hwl hwok hT
  obtain ⟨la, lc, hv⟩ := h.shape
  obtain ⟨ua, uc, hu⟩ := h2.shape
  subst hv hu
  have HS : Hid _ := hS
  have HOK : Hid _ := hok
  have HWOK : Hid _ := hwok
  obtain ⟨C, hC⟩ : ∃ C, newestF l ws = C := ⟨_, rfl⟩
  rw [hC]
  have HC : Hid (newestF l ws = C) := hC
  obtain ⟨c, hc⟩ : ∃ c, codeB nameOK l ws = c := ⟨_, rfl⟩
  rw [hc] at c27
  have HCD : Hid (codeB nameOK l ws = c) := hc
  clear hC hc h h2 hS hok hwok hT
  by_cases h0 : c = 0
  · subst h0
    obtain ⟨hst, hwi⟩ := code_zero HCD.out
    have hCC : C = if (choiceOf l ws).2.1 = 0 then (newestOf l (choiceOf l ws).1 ws, 0) else ([], (choiceOf l ws).2.1) := by rw [← HC.out]; unfold newestF; rw [if_pos HCD.out]
    have HCC : Hid _ := hCC
    have HST : Hid _ := hst
    have HWI : Hid _ := hwi
    have hmm := @run_makeMap Tryz.prog
    clear hst hwi hCC
    go_enter Tryz.func25, Tryz.ntmps25
    go_upto_region 5 with (first
      | (go_at_call 35; go_must (refine c27.mono ?_; rintro e w1 ⟨⟨sv, rfl, hout⟩, hb1⟩; obtain ⟨R, hsh, hsame⟩ := hout.elim (fun hx => absurd HCD.out hx.1) (fun hh => hh.2); have hfine := store_fine (ws := ws) HST.out HOK.out (fun m hm => ⟨(wishes_fine HWI.out).2 m hm, by have := HWOK.out m hm; unfold ImpOK at this; omega⟩) (by have := (wishes_fine HWI.out).1; omega); have hgood := same_good HST.out hsame (ws := ws) (by have := (wishes_fine HWI.out).1; omega); obtain ⟨rv, mb, wv, f, n, hsv, q2, q3, q4, q5⟩ := hsh; have HSH : Hid (ShelfAt S w.heap.size w1 sv R (needsOf l) ws) := (show ShelfAt S w.heap.size w1 sv R (needsOf l) ws from ⟨rv, mb, wv, f, n, hsv, q2, q3, q4, q5⟩); obtain ⟨ra, rc, hrv, _⟩ := q2.value; obtain ⟨wa, wc, hwv⟩ := q4.shape; subst hrv hwv; subst hsv; have cch := implChoice (w := w1.alloc (.cells #[.slice ra R.length rc, .map (some mb), .slice wa ws.length wc] 68)) (fun b hb => Nat.lt_of_lt_of_le (HS.out b hb) (Nat.le_trans hb1.size (by simp))) (ShelfAt.below HSH.out (fun b hb => Nat.lt_of_lt_of_le (HS.out b hb) hb1.size) ((Below.refl _ w1).alloc (Nat.le_refl _) _)) hgood hsame hfine; have HFI : Hid _ := hfine; have HGO : Hid _ := hgood; have HSA : Hid _ := hsame; clear hfine hgood hsame q2 q3 q4 q5))
      | (go_at_call 36; go_must (refine cch.mono ?_; rintro e w2 ⟨⟨p, q, rfl, hop, hos⟩, hb2⟩; clear hos)))
    have bA : Below w1.heap.size w1 (w1.alloc (.cells #[.slice ra R.length rc, .map (some mb), .slice wa ws.length wc] 68)) := (Below.refl _ w1).alloc (Nat.le_refl _) _
    have hb12 := good_below bA hb2
    have hbw2 := good_below hb1 hb12
    have hbxA : Blk (w1.alloc (.cells #[.slice ra R.length rc, .map (some mb), .slice wa ws.length wc] 68)) w1.heap.size 68 #[.slice ra R.length rc, .map (some mb), .slice wa ws.length wc] := heap_alloc_last w1 _
    have hbx := hbxA.below hb2
    obtain ⟨cc, hcc⟩ : ∃ cc, (choiceOf l ws).2.1 = cc := ⟨_, rfl⟩
    have hCC := HCC.out
    rw [hcc] at hCC ⊢
    by_cases hcc0 : cc = 0
    · rw [if_pos hcc0] at hCC
      have hch := choice_ok (hcc.trans hcc0)
      rw [hch] at hop hCC
      subst hcc0
      subst hCC
      obtain ⟨P, hP⟩ : ∃ P, picksOf l (pickedOf l ws) = P := ⟨_, rfl⟩
      rw [hP] at hop
      have hPf := picks_fine HFI.out
      have hPl := Nat.le_trans (picks_len l ws) HFI.out.len
      have hPin := picks_in (ws := ws) HSA.out
      have hcz := claims_sz HFI.out HSA.out
      have hcp := claims_pos HFI.out HSA.out
      rw [hP] at hPf hPl hPin hcz hcp
      have cC := fun (W : World) (hW : Below w1.heap.size w1 W) (pv : Value) (Bp : Nat) (hop : OwnP Bp W pv P) => implClaims (w := W) (fun b hb => Nat.lt_of_lt_of_le (HS.out b hb) (Nat.le_trans hb1.size hW.size)) (ShelfAt.below HSH.out (fun b hb => Nat.lt_of_lt_of_le (HS.out b hb) hb1.size) hW) HGO.out hop hPin hPl
      have cL := fun (W : World) (hW : Below w1.heap.size w1 W) (nm : ByteArray) (lim : Int) => implLast (w := W) (ShelfAt.below HSH.out (fun b hb => Nat.lt_of_lt_of_le (HS.out b hb) hb1.size) hW) (by have := HGO.out.len; omega) nm lim
      have hclen := claims_len (nf := needsOf l) HGO.out.wish HGO.out.needs hPin P.length (Nat.le_refl _)
      rw [List.take_length] at hclen
      obtain ⟨pa, pc, hpv, hpc⟩ := hop.value
      subst hpv
      have HOP : Hid (OwnP (w1.alloc (.cells #[.slice ra R.length rc, .map (some mb), .slice wa ws.length wc] 68)).heap.size w2 (.slice pa P.length pc) P) := hop
      have HPC : Hid _ := hpc
      have HPF : Hid _ := hPf
      have HCZ : Hid _ := hcz
      have HCP : Hid _ := hcp
      have HCCL : Hid _ := cC
      have HCL : Hid _ := cL
      have HPP : Hid _ := hP
      have HCLE : Hid _ := hclen
      have HBX : Hid (Blk w2 w1.heap.size 68 #[.slice ra R.length rc, .map (some mb), .slice wa ws.length wc]) := hbx
      have hPl' : (P.length : Int) ≤ 200 := by omega
      have hb2M : Below w2.heap.size w2 (w2.alloc (.map #[] 0)) := (Below.refl _ w2).alloc (Nat.le_refl _) _
      clear hop hpc hPf hcz hcp cC cL hP hbx hbxA hclen hcc hch cch c27 hPin
      go_wp2_with fail
      go_loopw [38] (fun i38 wr => ∃ (k : Nat) (f : Lit → Int), i38 = .int .i64 (k : Int) ∧ k ≤ P.length ∧ Counts wr 9 w2.heap.size k f ∧ Lims f (P.take k) [] ∧ Below w2.heap.size w2 wr) (fun i38 _ => P.length - (intOf i38).toNat)
      case atStart => exact ⟨0, _, rfl, by omega, Counts.made _ _, by simpa using Lims.start (fun _ => rfl), hb2M⟩
      case round =>
        obtain ⟨k, f, rfl, hk, hcn, hli, hb⟩ := hrel
        have hb1r := good_below hb12 hb
        by_cases hkn : k < P.length
        · have hkn' : (k : Int) < (P.length : Int) := by omega
          obtain ⟨g, rfl, hcell⟩ := HPC.out (by omega)
          obtain ⟨x1, x2⟩ := hcell k hkn
          have hgw := cell_lt' x1
          have d1 := (hb.cell (p := ⟨g, k * 2, none⟩) hgw).trans x1
          have d2 := (hb.cell (p := ⟨g, k * 2 + 1, none⟩) hgw).trans x2
          have hz := (HPF.out P[k] (List.getElem_mem hkn)).2.1
          have htk : P.take (k + 1) = P.take k ++ [P[k]] := List.take_succ_eq_append_getElem hkn
          obtain ⟨x, hx⟩ : ∃ x, P[k] = x := ⟨_, rfl⟩
          rw [hx] at d1 d2 hz htk
          clear hx hcell x1 x2
          obtain ⟨xn, xv⟩ := x
          dsimp only at d1 d2 hz
          have hkey : keyOf Tryz.prog 9 (.string xn) = some (textKey xn) := key9 (by simp [maxLen]; omega)
          have bB : Below wr.heap.size wr (wr.alloc (.cells #[.string xn, .int .i64 xv] 74)) := (Below.refl _ wr).alloc (Nat.le_refl _) _
          have HCN : Hid (Counts (wr.alloc (.cells #[.string xn, .int .i64 xv] 74)) 9 w2.heap.size k f) := hcn.below bB
          have HLI : Hid _ := hli
          have HTK : Hid _ := htk
          have HKY : Hid _ := hkey
          have hbB := good_below hb bB
          clear hcn hli htk hkey
          go_wp2_with (first
            | (at_mapUpdate; go_must (refine wpList_storeC _ rfl _ _ _ 90 rfl 9 law9 Tryz.underlying90 w2.heap.size k f rfl HCN.out (by simp [maxLen]; omega) _ 999999 _ rfl rfl HKY.out (by decide) ?_; intro w3 hc3 hg3; have HC3 : Hid _ := hc3; clear hc3)))
          have hbb := hbB.grown hg3 hbB.size (fun j hj => by cases hj; exact Nat.le_refl _)
          refine ⟨⟨k + 1, _, rfl, by omega, HC3.out, ?_, hbb⟩, by simp [intOf]; omega⟩
          rw [HTK.out]; exact Lims.pick HLI.out ⟨xn, xv⟩
        · obtain rfl : k = P.length := by omega
          have hkn' : ¬ ((P.length : Int) < (P.length : Int)) := by omega
          rw [List.take_length] at hli
          have bx3 := Blk.below HBX.out hb
          have e0 := bx3.cell 0
          have e1 := bx3.cell 1
          have e2 := bx3.cell 2
          simp at e0 e1 e2
          have cc := HCCL.out wr hb1r _ _ (OwnP.below HOP.out hb)
          have HCN : Hid (Counts wr 9 w2.heap.size P.length f) := hcn
          have HLI : Hid _ := hli
          clear hcn hli bx3
          go_wp2_with (go_at_call 50; go_must (refine cc.mono ?_; rintro e w5 ⟨⟨q5, CL, rfl, hso, hoC⟩, hb5⟩; obtain ⟨ca, cc5, hv5, hcc⟩ := hoC.value; subst hv5))
          have hb25 := good_below hb hb5
          have HC5 : Hid (Counts w5 9 w2.heap.size P.length f) := Counts.below HCN.out hb5
          have hCLl : CL.length ≤ 5000 := by rw [hso.perm.length_eq]; have := HCLE.out; omega
          have hCLl' : (CL.length : Int) ≤ 5000 := by omega
          have hcz : ∀ c ∈ CL, c.need.name.size ≤ 1048576 ∧ 0 ≤ c.need.mx := fun c hc => ⟨(HCZ.out c (hso.perm.mem_iff.1 hc)).2, HCP.out c (hso.perm.mem_iff.1 hc)⟩
          have HCZ2 : Hid _ := hcz
          have HSO : Hid _ := hso
          have HCC2 : Hid _ := hcc
          clear hso hoC hcc hcz
          have HLI2 : Hid (Lims f P []) := (show Lims f P [] from HLI.out)
          have hmb : w2.heap.size < w5.heap.size := Counts.lt HC5.out
          go_loopw [50] (fun i50 wr => ∃ (k : Nat) (f : Lit → Int), i50 = .int .i64 (k : Int) ∧ k ≤ CL.length ∧ Counts wr 9 w2.heap.size (P.length + k) f ∧ Lims f P (CL.take k) ∧ Below w2.heap.size w2 wr ∧ (∀ g, g < w5.heap.size → g ≠ w2.heap.size → wr.heap[g]? = w5.heap[g]?)) (fun i50 _ => CL.length - (intOf i50).toNat)
          case atStart => exact ⟨0, f, rfl, by omega, HC5.out, HLI2.out, hb25, fun _ _ _ => rfl⟩
          case round =>
            obtain ⟨k, f2, rfl, hk2, hcn, hli, hbr, hke⟩ := hrel
            by_cases hkn : k < CL.length
            · have hkn2 : (k : Int) < (CL.length : Int) := by omega
              obtain ⟨g, rfl, _, hgw, hcell⟩ := HCC2.out (by omega)
              obtain ⟨x1, x2, x3, x4⟩ := hcell k hkn
              have hgn := counts_cell HC5.out x1
              have hgh := hke g hgw hgn
              have d1 : wr.cell? ⟨g, k * 4, none⟩ = _ := (by simp only [World.cell?, hgh] : _ = w5.cell? ⟨g, k * 4, none⟩).trans x1
              have d2 : wr.cell? ⟨g, k * 4 + 1, none⟩ = _ := (by simp only [World.cell?, hgh] : _ = w5.cell? ⟨g, k * 4 + 1, none⟩).trans x2
              have d3 : wr.cell? ⟨g, k * 4 + 2, none⟩ = _ := (by simp only [World.cell?, hgh] : _ = w5.cell? ⟨g, k * 4 + 2, none⟩).trans x3
              have d4 : wr.cell? ⟨g, k * 4 + 3, none⟩ = _ := (by simp only [World.cell?, hgh] : _ = w5.cell? ⟨g, k * 4 + 3, none⟩).trans x4
              have hz := HCZ2.out CL[k] (List.getElem_mem hkn)
              have htk : CL.take (k + 1) = CL.take k ++ [CL[k]] := List.take_succ_eq_append_getElem hkn
              obtain ⟨x, hx⟩ : ∃ x, CL[k] = x := ⟨_, rfl⟩
              rw [hx] at d1 d2 d3 d4 hz htk
              clear hx hcell x1 x2 x3 x4 hgh
              obtain ⟨ow, nm, mn, mx⟩ := x
              dsimp only at d1 d2 d3 d4 hz
              obtain ⟨hz1, hz2⟩ := hz
              have hkey : keyOf Tryz.prog 9 (.string nm) = some (textKey nm) := key9 (by simp [maxLen]; omega)
              have bB : Below wr.heap.size wr (wr.alloc (.cells #[.string ow, .string nm, .int .i64 mn, .int .i64 mx] 94)) := (Below.refl _ wr).alloc (Nat.le_refl _) _
              have HCN2 : Hid (Counts (wr.alloc (.cells #[.string ow, .string nm, .int .i64 mn, .int .i64 mx] 94)) 9 w2.heap.size (P.length + k) f2) := hcn.below bB
              have hlk := (Counts.look HCN2.out law9 Tryz.underlying90 hkey).1
              have hfb := Lims.bound hli (fun c hc => (HCZ2.out c (List.mem_of_mem_take hc)).2) nm
              have hlc := Lims.claim hli ⟨ow, ⟨nm, mn, mx⟩⟩
              dsimp only at hlc
              obtain ⟨V, hV⟩ : ∃ V, f2 (textKey nm) = V := ⟨_, rfl⟩
              rw [hV] at hlk hfb hlc
              have HLC : Hid _ := hlc
              have HTK : Hid _ := htk
              have HKY : Hid _ := hkey
              have HKE : Hid _ := hke
              have hbB := good_below hbr bB
              clear hcn hli htk hkey hlc hV hke
              go_wp2_with (first
                | (at_mapUpdate; go_must (refine wpList_storeC _ rfl _ _ _ 90 rfl 9 law9 Tryz.underlying90 w2.heap.size (P.length + k) f2 rfl HCN2.out (by simp [maxLen]; omega) _ (min V mx) _ rfl rfl HKY.out (WalkArith.wf_i64 (by omega)) ?_; intro w6 hc6 hg6; have HC6 : Hid _ := hc6; clear hc6)))
              have hbb := hbB.grown hg6 hbB.size (fun j hj => by cases hj; exact Nat.le_refl _)
              refine ⟨⟨k + 1, _, rfl, by omega, HC6.out, ?_, hbb, fun g' h1 h2 => ?_⟩, by simp [intOf]; omega⟩
              · rw [HTK.out]; exact HLC.out
              · have hg'r : g' < wr.heap.size := by
                  have e := HKE.out g' h1 h2
                  rw [Array.getElem?_eq_getElem h1] at e
                  exact (Array.getElem?_eq_some_iff.1 e).1
                rw [hg6.block g' (Nat.lt_of_lt_of_le hg'r bB.size) (by simpa using h2), bB.block g' hg'r]
                exact HKE.out g' h1 h2
            · obtain rfl : k = CL.length := by omega
              have hkn2 : ¬ ((CL.length : Int) < (CL.length : Int)) := by omega
              rw [List.take_length] at hli
              have hbx6 : Blk wr w1.heap.size 68 #[.slice ra R.length rc, .map (some mb), .slice wa ws.length wc] := Blk.below HBX.out hbr
              have hop6 : OwnP (w1.heap.size + 1) wr (.slice pa P.length pc) P := by
                have := OwnP.below HOP.out hbr
                rwa [World.size_alloc] at this
              have hX : ∀ nm, nm ∈ P.map Pk.name → lastV R nm (f2 (textKey nm)) = newestV l (allNeeds l (pickedOf l ws) ws) nm := fun nm hnm => by
                have e1 : f2 (textKey nm) = limF CL 999999 nm := by rw [hli nm, (hasB_mem _ _).2 hnm]; rfl
                rw [e1]
                have hso := HSO.out
                rw [← HPP.out] at hso
                exact newest_same HSA.out (fun r hr => (HFI.out.rel r hr).2.2) (fun n hn => best_lt (marks_len l ws) n hn) hso nm
              have hb16 := good_below hb12 hbr
              have HX : Hid _ := hX
              have HBX6 : Hid _ := hbx6
              have HOP6 : Hid _ := hop6
              have HCN6 : Hid (Counts wr 9 w2.heap.size (P.length + CL.length) f2) := hcn
              clear hX hli hke hbx6 hop6 hcn
              go_wp2_with fail
              go_loopw [70] (fun i70 wr => ∃ (k : Nat) (l' : List Pk), i70 = .int .i64 (k : Int) ∧ k ≤ P.length ∧ OwnP (w1.heap.size + 1) wr (.slice pa P.length pc) l' ∧ l'.length = P.length ∧ (∀ j, j < k → l'[j]? = (P[j]?).map fun p => ⟨p.name, newestV l (allNeeds l (pickedOf l ws) ws) p.name⟩) ∧ (∀ j, k ≤ j → l'[j]? = P[j]?) ∧ Counts wr 9 w2.heap.size (P.length + CL.length) f2 ∧ Blk wr w1.heap.size 68 #[.slice ra R.length rc, .map (some mb), .slice wa ws.length wc] ∧ Below w1.heap.size w1 wr) (fun i70 _ => P.length - (intOf i70).toNat)
              case atStart => exact ⟨0, P, rfl, by omega, HOP6.out, rfl, fun j h => by omega, fun j _ => rfl, HCN6.out, HBX6.out, hb16⟩
              case round =>
                obtain ⟨k, l', rfl, hk7, hop7, hl7, hlo7, hhi7, hcn7, hbx7, hb7⟩ := hrel
                by_cases hkn7 : k < P.length
                · have hkn7' : (k : Int) < (P.length : Int) := by omega
                  have hkl : k < l'.length := by omega
                  have hat : l'[k] = P[k] := by
                    have e := hhi7 k (Nat.le_refl _)
                    rw [List.getElem?_eq_getElem hkl, List.getElem?_eq_getElem hkn7] at e
                    exact Option.some.inj e
                  have hnmP : P[k].name ∈ P.map Pk.name := List.mem_map.2 ⟨_, List.getElem_mem hkn7, rfl⟩
                  obtain ⟨a7, c7, hv7, hc7⟩ := hop7.value
                  obtain ⟨g, hg7, hcell⟩ := hc7 (by omega)
                  obtain ⟨x1, x2⟩ := hcell k hkl
                  simp only [Value.slice.injEq] at hv7
                  obtain ⟨rfl, -, rfl⟩ := hv7
                  subst hg7
                  have hgB : w1.heap.size + 1 ≤ g := hop7.block g rfl
                  have hgc := counts_cell hcn7 x1
                  have hz := (HPF.out P[k] (List.getElem_mem hkn7)).2.1
                  have hx8 := HX.out _ hnmP
                  have hset := fun (W : World) (h : OwnP (w1.heap.size + 1) W (.slice (some ⟨g, 0, none⟩) P.length pc) l') (v : Int) => OwnP.set h hkl v
                  have hPk : P[k]? = some P[k] := List.getElem?_eq_getElem hkn7
                  rw [hat] at x1 x2 hset
                  obtain ⟨x, hx⟩ : ∃ x, P[k] = x := ⟨_, rfl⟩
                  rw [hx] at x1 x2 hz hx8 hset hPk
                  clear hx hcell hat hnmP hc7
                  obtain ⟨xn, xv⟩ := x
                  dsimp only at x1 x2 hz hx8 hset
                  have bB : Below wr.heap.size wr (wr.alloc (.cells #[.string xn, .int .i64 xv] 74)) := (Below.refl _ wr).alloc (Nat.le_refl _) _
                  have hkey : keyOf Tryz.prog 9 (.string xn) = some (textKey xn) := key9 (by simp [maxLen]; omega)
                  have hlk := (Counts.look (hcn7.below bB) law9 Tryz.underlying90 hkey).1
                  have cL := HCL.out _ (good_below hb7 bB) xn (f2 (textKey xn))
                  rw [hx8] at cL
                  obtain ⟨V, hV⟩ : ∃ V, f2 (textKey xn) = V := ⟨_, rfl⟩
                  rw [hV] at hlk cL
                  obtain ⟨X, hXX⟩ : ∃ X, newestV l (allNeeds l (pickedOf l ws) ws) xn = X := ⟨_, rfl⟩
                  rw [hXX] at cL
                  have bx := hbx7.below bB
                  have e0 := bx.cell 0
                  have e1 := bx.cell 1
                  have e2 := bx.cell 2
                  simp at e0 e1 e2
                  have HXX : Hid _ := hXX
                  have HSET : Hid _ := hset
                  have HOP7 : Hid (OwnP (w1.heap.size + 1) wr (.slice (some ⟨g, 0, none⟩) P.length pc) l') := hop7
                  have HCN7 : Hid (Counts wr 9 w2.heap.size (P.length + CL.length) f2) := hcn7
                  have HBX7 : Hid (Blk wr w1.heap.size 68 #[.slice ra R.length rc, .map (some mb), .slice wa ws.length wc]) := hbx7
                  have HLO : Hid _ := hlo7
                  have HHI : Hid _ := hhi7
                  have HL7 : Hid _ := hl7
                  have HPK : Hid _ := hPk
                  have hgw := cell_lt' x1
                  have hblk : ∃ cur, Blk wr g 74 cur := by
                    rcases hop7.2 with ⟨hv, _⟩ | ⟨g', cap', cur, hv, _, hg, _⟩
                    · simp at hv
                    · simp only [Value.slice.injEq, Option.some.injEq, Addr.mk.injEq, and_true] at hv
                      obtain ⟨rfl, _⟩ := hv
                      exact ⟨cur, hg⟩
                  obtain ⟨cur, hblk⟩ := hblk
                  have HBLK : Hid (Blk wr g 74 cur) := hblk
                  clear hV hXX hx8 hset hop7 hcn7 hbx7 hlo7 hhi7 hl7 hkey bx hPk hblk
                  go_wp2_with (go_at_call 51; go_must (refine cL.mono ?_; rintro e w8 ⟨rfl, hb8⟩; have bB8 := good_below bB hb8; have q8 := Blk.below HBLK.out bB8; have fr8 := q8.fro (k * 2 + 1); have c8 := (bB8.cell (p := ⟨g, k * 2 + 1, none⟩) hgw).trans x2; clear q8))
                  have o8 := OwnP.below HOP7.out bB8
                  have o9 := HSET.out w8 o8 X
                  have g9 := set_grown w8 g (k * 2 + 1) (.int .i64 X)
                  have b18 := good_below hb7 bB8
                  have hl9 := HL7.out
                  refine ⟨⟨k + 1, _, rfl, by omega, o9, by rw [List.length_set]; exact hl9, fun j hj => ?_, fun j hj => ?_, (Counts.below HCN7.out bB8).kept g9 (by simpa using fun e => hgc e.symm), (Blk.below HBX7.out bB8).kept g9 (by simp; omega), b18.setCell (p := ⟨g, k * 2 + 1, none⟩) (Nat.le_trans (Nat.le_succ _) hgB) _⟩, by simp [intOf]; omega⟩
                  · rw [List.getElem?_set]
                    by_cases e : k = j
                    · subst e
                      rw [if_pos rfl, if_pos (by omega), HPK.out]
                      simp only [Option.map_some, HXX.out]
                    · rw [if_neg e]
                      exact HLO.out j (by omega)
                  · rw [List.getElem?_set, if_neg (by omega)]
                    exact HHI.out j (by omega)
                · obtain rfl : k = P.length := by omega
                  have hkn7' : ¬ ((P.length : Int) < (P.length : Int)) := by omega
                  have hl'e : l' = newestOf l (pickedOf l ws) ws := by
                    rw [newest_map, HPP.out]
                    apply List.ext_getElem?
                    intro j
                    rw [List.getElem?_map]
                    by_cases hj : j < P.length
                    · exact hlo7 j hj
                    · rw [List.getElem?_eq_none (by omega), List.getElem?_eq_none (by omega)]; rfl
                  have HL7 : Hid _ := hl'e
                  have HO7 : Hid (OwnP (w1.heap.size + 1) wr (.slice pa P.length pc) l') := hop7
                  clear hlo7 hhi7 hop7 hcn7 hbx7 hl'e hl7
                  go_wp2_with fail
                  go_ret2
                  refine ⟨⟨_, rfl, ?_⟩, good_below hb1 hb7⟩
                  rw [← HL7.out]
                  exact OwnP.mono HO7.out (Nat.le_trans hb1.size (Nat.le_succ _))
    · rw [if_neg hcc0] at hCC
      subst hCC
      have hcc' : (cc == 0) = false := by simp [hcc0]
      go_wp2_with fail
      go_ret2
      exact ⟨⟨_, rfl, ⟨rfl, .inl ⟨rfl, rfl⟩⟩⟩, hbw2⟩
  · have hC : C = ([], c) := by rw [← HC.out]; unfold newestF; rw [HCD.out, if_neg h0]
    subst hC
    have h0' : (c == 0) = false := by simp [h0]
    go_enter Tryz.func25, Tryz.ntmps25
    go_wp2_with (go_at_call 35; go_must (refine c27.mono ?_; rintro e w1 ⟨⟨sv, rfl, hout⟩, hb1⟩; have hzs := hout.elim (fun hx => hx.2) (fun hh => absurd (HCD.out.symm.trans hh.1) h0); unfold zeroShelf at hzs; subst hzs))
    go_ret2
    exact ⟨⟨_, rfl, ⟨rfl, .inl ⟨rfl, rfl⟩⟩⟩, hb1.alloc hb1.size _⟩
end Go.Proofs.YthgjdcomanabiaaGreatDoor

namespace Go.Proofs.YthgjdcomanabiaaGreatDoor
open Go.ChangeShapes Go.WideShapes Go.ChangeAt Go.RowKit
set_option linter.unusedVariables false

theorem newest_len (l : List Rel) (ws : List Imp) : (newestF l ws).1.length ≤ 1000000 := by
  unfold newestF
  split
  · rename_i hc
    have := (choice_in l ws (code_zero hc).1).2
    split
    · simp only [newestOf, List.length_map]; omega
    · simp
  · simp
theorem lawNewest (w : World) (v u : Value) (l : List Rel) (ws : List Imp) (h : RelsAt (fun b => b < w.heap.size) w v l) (hf : ∀ y ∈ l, RelFit y) (h2 : ImpsAt (fun b => b < w.heap.size) w u ws) (hf2 : ∀ y ∈ ws, y.name.size ≤ maxLen) (hT : Lib.Utf8Tabs 0 1 w) :
    Calls Tryz.prog 5 #[v, u] w fun e w' => e = .returned (.bool true) ∧ Below w.heap.size w w' :=
  newestWalk (T := Lib.Utf8Tabs 0 1) (specNewest _) implNewest newest_len w v u l ws h hf h2 hf2 (fun W hb => Utf8Tabs_below hT hb)
end Go.Proofs.YthgjdcomanabiaaGreatDoor
