/-
  impl.Newest: its walk. Stores as plain data; the contracts of spec's source of draws. Drawn needs. Drawn lists of needs. Rows of releases of one's own. Drawn stores. No statement of the seat is proved here.
-/
import Derived.Test.YteokcdobapkkhaaGreatDoorCj6
import Derived.WalkKit
import Derived.ProofKit
import Derived.OpenShut
import Derived.WalkSpells
import Derived.Below
import Derived.BigQuiet
import Derived.BigRegion
import Derived.Laws.MakeOwn
import Derived.Lib.OthersKept
import Derived.Deep.RegionLaw
import Derived.Deep.WholeRow
import Derived.Deep.QuietTactic
import Derived.Deep.RegionHeld3
import Derived.Deep.Cut
import Derived.Deep.CutRange
import Derived.Deep.CutBlock
namespace Go.Proofs.YteokcdobapkkhaaGreatDoor
open Go.ChangeShapes Go.WideShapes Go.ChangeAt Go.RowKit
set_option linter.unusedVariables false

theorem same_good {l : List Rel} {R : List Pk} {ws : List Imp} (h : storeB nameOK l = true) (hs : Same l R (needsOf l)) (hw : ws.length ≤ 21) : Good R (needsOf l) ws where
  len := by rw [hs.perm.length_eq, List.length_map]; exact (store_rel h).1
  sort := hs.rises
  needs := fun p hp => by
    obtain ⟨r, hr, rfl⟩ := (hs.mem p).1 hp
    rw [hs.needs r hr]
    exact (store_needs h).2 r hr
  wish := hw
theorem code_zero {l : List Rel} {ws : List Imp} (h : codeB nameOK l ws = 0) : storeB nameOK l = true ∧ wishesB nameOK ws = true := by
  unfold codeB at h
  split at h
  · omega
  · cases hs : storeB nameOK l <;> cases hw : wishesB nameOK ws <;> rw [hs, hw] at h <;> simp at h ⊢
theorem claims_pos {l : List Rel} {R : List Pk} {nf : Pk → List Imp} {ws : List Imp} (hf : Fine l ws) (hs : Same l R nf) : ∀ c ∈ claimsOf nf ws (picksOf l (pickedOf l ws)), 0 ≤ c.need.mx := by
  intro c hc
  unfold claimsOf at hc
  rcases List.mem_append.1 hc with h | h
  · obtain ⟨m, hm, rfl⟩ := List.mem_map.1 h
    exact (hf.wish m hm).1
  · obtain ⟨p, hp, h⟩ := List.mem_flatMap.1 h
    obtain ⟨m, hm, rfl⟩ := List.mem_map.1 h
    obtain ⟨r, hr, he⟩ := (hs.mem p).1 (picks_in hs p hp)
    rw [← he, hs.needs r hr] at hm
    exact (hf.need r hr m hm).1
/-- Where the code is 0 the choice is what is picked. -/
theorem choice_ok {l : List Rel} {ws : List Imp} (h : (choiceOf l ws).2.1 = 0) : (choiceOf l ws).1 = pickedOf l ws := by
  unfold choiceOf finish at h ⊢
  by_cases hL : lostOf l ws ≠ []
  · rw [if_pos hL] at h; simp at h
  · rw [if_neg hL] at h ⊢
    cases ho : overB (picksOf l (pickedOf l ws)) ws with
    | some t => rw [ho] at h; simp at h
    | none =>
      rw [ho] at h
      dsimp only at h ⊢
      cases hf : firstOver l (picksOf l (pickedOf l ws)) (pickedOf l ws) with
      | some at' => rw [hf] at h; obtain ⟨a, t⟩ := at'; simp at h
      | none => rfl

/-- A map's block has no cells. -/
theorem counts_cell {w : World} {K : TypeId} {B n g i : Nat} {f : Lit → Int} {v : Value} (h : Counts w K B n f) (hc : w.cell? ⟨g, i, none⟩ = some v) : g ≠ B := by
  intro e
  subst e
  obtain ⟨D, ⟨es, clock, hbk, _⟩, _⟩ := h
  simp [World.cell?, hbk] at hc
theorem Counts.kept {w w' : World} {K : TypeId} {B n : Nat} {f : Lit → Int} {row : Option Nat} (h : Counts w K B n f) (hg : w.grownBy w' row) (hne : some B ≠ row) : Counts w' K B n f := by
  obtain ⟨D, h, hf⟩ := h; exact ⟨D, h.kept hg hne, hf⟩
theorem newest_map (l : List Rel) (NS : List Nat) (ws : List Imp) : newestOf l NS ws = (picksOf l NS).map fun p => ⟨p.name, newestV l (allNeeds l NS ws) p.name⟩ := by
  unfold newestOf picksOf
  rw [List.map_map]
  rfl

set_option maxRecDepth 100000 in
set_option maxHeartbeats 4000000 in
theorem implNewest : NewestC 9 (Lib.Utf8Tabs 0 1) newestF := by
  intro S l ws v u w hS h h2 hl hok hwl hwok hT
  have c27 := implShelf hS h h2 hl hok hwl hwok hT
  obtain ⟨la, lc, hv⟩ := h.shape
  obtain ⟨ua, uc, hu⟩ := h2.shape
  subst hv hu
  have HS : Hid _ := hS
  have HOK : Hid _ := hok
  have HWOK : Hid _ := hwok
  obtain ⟨C, hC⟩ : ∃ C, newestF l ws = C := ⟨_, rfl⟩
  rw [hC]
  have HC : Hid (newestF l ws = C) := hC
  obtain ⟨c, hc⟩ : ∃ c, codeB nameOK l ws = c := ⟨_, rfl⟩
  rw [hc] at c27
  have HCD : Hid (codeB nameOK l ws = c) := hc
  clear hC hc h h2 hS hok hwok hT
  by_cases h0 : c = 0
  · subst h0
    obtain ⟨hst, hwi⟩ := code_zero HCD.out
    have hCC : C = if (choiceOf l ws).2.1 = 0 then (newestOf l (choiceOf l ws).1 ws, 0) else ([], (choiceOf l ws).2.1) := by rw [← HC.out]; unfold newestF; rw [if_pos HCD.out]
    have HCC : Hid _ := hCC
    have HST : Hid _ := hst
    have HWI : Hid _ := hwi
    have hmm := @run_makeMap Tryz.prog
    clear hst hwi hCC
    go_enter Tryz.func9, Tryz.ntmps9
    go_upto_region 5 with (first
      | (go_at_call 18; go_must (refine c27.mono ?_; rintro e w1 ⟨⟨sv, rfl, hout⟩, hb1⟩; obtain ⟨R, hsh, hsame⟩ := hout.elim (fun hx => absurd HCD.out hx.1) (fun hh => hh.2); have hfine := store_fine (ws := ws) HST.out HOK.out (fun m hm => ⟨(wishes_fine HWI.out).2 m hm, by have := HWOK.out m hm; unfold ImpOK at this; omega⟩) (by have := (wishes_fine HWI.out).1; omega); have hgood := same_good HST.out hsame (ws := ws) (by have := (wishes_fine HWI.out).1; omega); obtain ⟨rv, mb, wv, f, n, hsv, q2, q3, q4, q5⟩ := hsh; have HSH : Hid (ShelfAt S w.heap.size w1 sv R (needsOf l) ws) := (show ShelfAt S w.heap.size w1 sv R (needsOf l) ws from ⟨rv, mb, wv, f, n, hsv, q2, q3, q4, q5⟩); obtain ⟨ra, rc, hrv, _⟩ := q2.value; obtain ⟨wa, wc, hwv⟩ := q4.shape; subst hrv hwv; subst hsv; have cch := implChoice (w := w1.alloc (.cells #[.slice ra R.length rc, .map (some mb), .slice wa ws.length wc] 55)) (fun b hb => Nat.lt_of_lt_of_le (HS.out b hb) (Nat.le_trans hb1.size (by simp))) (ShelfAt.below HSH.out (fun b hb => Nat.lt_of_lt_of_le (HS.out b hb) hb1.size) ((Below.refl _ w1).alloc (Nat.le_refl _) _)) hgood hsame hfine; have HFI : Hid _ := hfine; have HGO : Hid _ := hgood; have HSA : Hid _ := hsame; clear hfine hgood hsame q2 q3 q4 q5))
      | (go_at_call 19; go_must (refine cch.mono ?_; rintro e w2 ⟨⟨p, q, rfl, hop, hos⟩, hb2⟩; clear hos)))
    have bA : Below w1.heap.size w1 (w1.alloc (.cells #[.slice ra R.length rc, .map (some mb), .slice wa ws.length wc] 55)) := (Below.refl _ w1).alloc (Nat.le_refl _) _
    have hb12 := good_below bA hb2
    have hbw2 := good_below hb1 hb12
    have hbxA : Blk (w1.alloc (.cells #[.slice ra R.length rc, .map (some mb), .slice wa ws.length wc] 55)) w1.heap.size 55 #[.slice ra R.length rc, .map (some mb), .slice wa ws.length wc] := heap_alloc_last w1 _
    have hbx := hbxA.below hb2
    obtain ⟨cc, hcc⟩ : ∃ cc, (choiceOf l ws).2.1 = cc := ⟨_, rfl⟩
    have hCC := HCC.out
    rw [hcc] at hCC ⊢
    by_cases hcc0 : cc = 0
    · rw [if_pos hcc0] at hCC
      have hch := choice_ok (hcc.trans hcc0)
      rw [hch] at hop hCC
      subst hcc0
      subst hCC
      obtain ⟨P, hP⟩ : ∃ P, picksOf l (pickedOf l ws) = P := ⟨_, rfl⟩
      rw [hP] at hop
      have hPf := picks_fine HFI.out
      have hPl := Nat.le_trans (picks_len l ws) HFI.out.len
      have hPin := picks_in (ws := ws) HSA.out
      have hcz := claims_sz HFI.out HSA.out
      have hcp := claims_pos HFI.out HSA.out
      rw [hP] at hPf hPl hPin hcz hcp
      have cC := fun (W : World) (hW : Below w1.heap.size w1 W) (pv : Value) (Bp : Nat) (hop : OwnP Bp W pv P) => implClaims (w := W) (fun b hb => Nat.lt_of_lt_of_le (HS.out b hb) (Nat.le_trans hb1.size hW.size)) (ShelfAt.below HSH.out (fun b hb => Nat.lt_of_lt_of_le (HS.out b hb) hb1.size) hW) HGO.out hop hPin hPl
      have cL := fun (W : World) (hW : Below w1.heap.size w1 W) (nm : ByteArray) (lim : Int) => implLast (w := W) (ShelfAt.below HSH.out (fun b hb => Nat.lt_of_lt_of_le (HS.out b hb) hb1.size) hW) (by have := HGO.out.len; omega) nm lim
      have hclen := claims_len (nf := needsOf l) HGO.out.wish HGO.out.needs hPin P.length (Nat.le_refl _)
      rw [List.take_length] at hclen
      obtain ⟨pa, pc, hpv, hpc⟩ := hop.value
      subst hpv
      have HOP : Hid (OwnP (w1.alloc (.cells #[.slice ra R.length rc, .map (some mb), .slice wa ws.length wc] 55)).heap.size w2 (.slice pa P.length pc) P) := hop
      have HPC : Hid _ := hpc
      have HPF : Hid _ := hPf
      have HCZ : Hid _ := hcz
      have HCP : Hid _ := hcp
      have HCCL : Hid _ := cC
      have HCL : Hid _ := cL
      have HPP : Hid _ := hP
      have HCLE : Hid _ := hclen
      have HBX : Hid (Blk w2 w1.heap.size 55 #[.slice ra R.length rc, .map (some mb), .slice wa ws.length wc]) := hbx
      have hPl' : (P.length : Int) ≤ 200 := by omega
      have hb2M : Below w2.heap.size w2 (w2.alloc (.map #[] 0)) := (Below.refl _ w2).alloc (Nat.le_refl _) _
      clear hop hpc hPf hcz hcp cC cL hP hbx hbxA hclen hcc hch cch c27 hPin
      go_wp2_with fail
      go_loopw [38] (fun i38 wr => ∃ (k : Nat) (f : Lit → Int), i38 = .int .i64 (k : Int) ∧ k ≤ P.length ∧ Counts wr 9 w2.heap.size k f ∧ Lims f (P.take k) [] ∧ Below w2.heap.size w2 wr) (fun i38 _ => P.length - (intOf i38).toNat)
      case atStart => exact ⟨0, _, rfl, by omega, Counts.made _ _, by simpa using Lims.start (fun _ => rfl), hb2M⟩
      case round =>
        obtain ⟨k, f, rfl, hk, hcn, hli, hb⟩ := hrel
        have hb1r := good_below hb12 hb
        by_cases hkn : k < P.length
        · have hkn' : (k : Int) < (P.length : Int) := by omega
          obtain ⟨g, rfl, hcell⟩ := HPC.out (by omega)
          obtain ⟨x1, x2⟩ := hcell k hkn
          have hgw := cell_lt' x1
          have d1 := (hb.cell (p := ⟨g, k * 2, none⟩) hgw).trans x1
          have d2 := (hb.cell (p := ⟨g, k * 2 + 1, none⟩) hgw).trans x2
          have hz := (HPF.out P[k] (List.getElem_mem hkn)).2.1
          have htk : P.take (k + 1) = P.take k ++ [P[k]] := List.take_succ_eq_append_getElem hkn
          obtain ⟨x, hx⟩ : ∃ x, P[k] = x := ⟨_, rfl⟩
          rw [hx] at d1 d2 hz htk
          clear hx hcell x1 x2
          obtain ⟨xn, xv⟩ := x
          dsimp only at d1 d2 hz
          have hkey : keyOf Tryz.prog 9 (.string xn) = some (textKey xn) := key9 (by simp [maxLen]; omega)
          have bB : Below wr.heap.size wr (wr.alloc (.cells #[.string xn, .int .i64 xv] 41)) := (Below.refl _ wr).alloc (Nat.le_refl _) _
          have HCN : Hid (Counts (wr.alloc (.cells #[.string xn, .int .i64 xv] 41)) 9 w2.heap.size k f) := hcn.below bB
          have HLI : Hid _ := hli
          have HTK : Hid _ := htk
          have HKY : Hid _ := hkey
          have hbB := good_below hb bB
          clear hcn hli htk hkey
          go_wp2_with (first
            | (at_mapUpdate; go_must (refine wpList_storeC _ rfl _ _ _ 59 rfl 9 law9 Tryz.underlying59 w2.heap.size k f rfl HCN.out (by simp [maxLen]; omega) _ 999999 _ rfl rfl HKY.out (by decide) ?_; intro w3 hc3 hg3; have HC3 : Hid _ := hc3; clear hc3)))
          have hbb := hbB.grown hg3 hbB.size (fun j hj => by cases hj; exact Nat.le_refl _)
          refine ⟨⟨k + 1, _, rfl, by omega, HC3.out, ?_, hbb⟩, by simp [intOf]; omega⟩
          rw [HTK.out]; exact Lims.pick HLI.out ⟨xn, xv⟩
        · obtain rfl : k = P.length := by omega
          have hkn' : ¬ ((P.length : Int) < (P.length : Int)) := by omega
          rw [List.take_length] at hli
          have bx3 := Blk.below HBX.out hb
          have e0 := bx3.cell 0
          have e1 := bx3.cell 1
          have e2 := bx3.cell 2
          simp at e0 e1 e2
          have cc := HCCL.out wr hb1r _ _ (OwnP.below HOP.out hb)
          have HCN : Hid (Counts wr 9 w2.heap.size P.length f) := hcn
          have HLI : Hid _ := hli
          clear hcn hli bx3
          go_wp2_with (go_at_call 20; go_must (refine cc.mono ?_; rintro e w5 ⟨⟨q5, CL, rfl, hso, hoC⟩, hb5⟩; obtain ⟨ca, cc5, hv5, hcc⟩ := hoC.value; subst hv5))
          have hb25 := good_below hb hb5
          have HC5 : Hid (Counts w5 9 w2.heap.size P.length f) := Counts.below HCN.out hb5
          have hCLl : CL.length ≤ 5000 := by rw [hso.perm.length_eq]; have := HCLE.out; omega
          have hCLl' : (CL.length : Int) ≤ 5000 := by omega
          have hcz : ∀ c ∈ CL, c.need.name.size ≤ 1048576 ∧ 0 ≤ c.need.mx := fun c hc => ⟨(HCZ.out c (hso.perm.mem_iff.1 hc)).2, HCP.out c (hso.perm.mem_iff.1 hc)⟩
          have HCZ2 : Hid _ := hcz
          have HSO : Hid _ := hso
          have HCC2 : Hid _ := hcc
          clear hso hoC hcc hcz
          have HLI2 : Hid (Lims f P []) := (show Lims f P [] from HLI.out)
          have hmb : w2.heap.size < w5.heap.size := Counts.lt HC5.out
          go_loopw [50] (fun i50 wr => ∃ (k : Nat) (f : Lit → Int), i50 = .int .i64 (k : Int) ∧ k ≤ CL.length ∧ Counts wr 9 w2.heap.size (P.length + k) f ∧ Lims f P (CL.take k) ∧ Below w2.heap.size w2 wr ∧ (∀ g, g < w5.heap.size → g ≠ w2.heap.size → wr.heap[g]? = w5.heap[g]?)) (fun i50 _ => CL.length - (intOf i50).toNat)
          case atStart => exact ⟨0, f, rfl, by omega, HC5.out, HLI2.out, hb25, fun _ _ _ => rfl⟩
          case round =>
            obtain ⟨k, f2, rfl, hk2, hcn, hli, hbr, hke⟩ := hrel
            by_cases hkn : k < CL.length
            · have hkn2 : (k : Int) < (CL.length : Int) := by omega
              obtain ⟨g, rfl, _, hgw, hcell⟩ := HCC2.out (by omega)
              obtain ⟨x1, x2, x3, x4⟩ := hcell k hkn
              have hgn := counts_cell HC5.out x1
              have hgh := hke g hgw hgn
              have d1 : wr.cell? ⟨g, k * 4, none⟩ = _ := (by simp only [World.cell?, hgh] : _ = w5.cell? ⟨g, k * 4, none⟩).trans x1
              have d2 : wr.cell? ⟨g, k * 4 + 1, none⟩ = _ := (by simp only [World.cell?, hgh] : _ = w5.cell? ⟨g, k * 4 + 1, none⟩).trans x2
              have d3 : wr.cell? ⟨g, k * 4 + 2, none⟩ = _ := (by simp only [World.cell?, hgh] : _ = w5.cell? ⟨g, k * 4 + 2, none⟩).trans x3
              have d4 : wr.cell? ⟨g, k * 4 + 3, none⟩ = _ := (by simp only [World.cell?, hgh] : _ = w5.cell? ⟨g, k * 4 + 3, none⟩).trans x4
              have hz := HCZ2.out CL[k] (List.getElem_mem hkn)
              have htk : CL.take (k + 1) = CL.take k ++ [CL[k]] := List.take_succ_eq_append_getElem hkn
              obtain ⟨x, hx⟩ : ∃ x, CL[k] = x := ⟨_, rfl⟩
              rw [hx] at d1 d2 d3 d4 hz htk
              clear hx hcell x1 x2 x3 x4 hgh
              obtain ⟨ow, nm, mn, mx⟩ := x
              dsimp only at d1 d2 d3 d4 hz
              obtain ⟨hz1, hz2⟩ := hz
              have hkey : keyOf Tryz.prog 9 (.string nm) = some (textKey nm) := key9 (by simp [maxLen]; omega)
              have bB : Below wr.heap.size wr (wr.alloc (.cells #[.string ow, .string nm, .int .i64 mn, .int .i64 mx] 63)) := (Below.refl _ wr).alloc (Nat.le_refl _) _
              have HCN2 : Hid (Counts (wr.alloc (.cells #[.string ow, .string nm, .int .i64 mn, .int .i64 mx] 63)) 9 w2.heap.size (P.length + k) f2) := hcn.below bB
              have hlk := (Counts.look HCN2.out law9 Tryz.underlying59 hkey).1
              have hfb := Lims.bound hli (fun c hc => (HCZ2.out c (List.mem_of_mem_take hc)).2) nm
              have hlc := Lims.claim hli ⟨ow, ⟨nm, mn, mx⟩⟩
              dsimp only at hlc
              obtain ⟨V, hV⟩ : ∃ V, f2 (textKey nm) = V := ⟨_, rfl⟩
              rw [hV] at hlk hfb hlc
              have HLC : Hid _ := hlc
              have HTK : Hid _ := htk
              have HKY : Hid _ := hkey
              have HKE : Hid _ := hke
              have hbB := good_below hbr bB
              clear hcn hli htk hkey hlc hV hke
              go_wp2_with (first
                | (at_mapUpdate; go_must (refine wpList_storeC _ rfl _ _ _ 59 rfl 9 law9 Tryz.underlying59 w2.heap.size (P.length + k) f2 rfl HCN2.out (by simp [maxLen]; omega) _ (min V mx) _ rfl rfl HKY.out (WalkArith.wf_i64 (by omega)) ?_; intro w6 hc6 hg6; have HC6 : Hid _ := hc6; clear hc6)))
              have hbb := hbB.grown hg6 hbB.size (fun j hj => by cases hj; exact Nat.le_refl _)
              refine ⟨⟨k + 1, _, rfl, by omega, HC6.out, ?_, hbb, fun g' h1 h2 => ?_⟩, by simp [intOf]; omega⟩
              · rw [HTK.out]; exact HLC.out
              · have hg'r : g' < wr.heap.size := by
                  have e := HKE.out g' h1 h2
                  rw [Array.getElem?_eq_getElem h1] at e
                  exact (Array.getElem?_eq_some_iff.1 e).1
                rw [hg6.block g' (Nat.lt_of_lt_of_le hg'r bB.size) (by simpa using h2), bB.block g' hg'r]
                exact HKE.out g' h1 h2
            · obtain rfl : k = CL.length := by omega
              have hkn2 : ¬ ((CL.length : Int) < (CL.length : Int)) := by omega
              rw [List.take_length] at hli
              have hbx6 : Blk wr w1.heap.size 55 #[.slice ra R.length rc, .map (some mb), .slice wa ws.length wc] := Blk.below HBX.out hbr
              have hop6 : OwnP (w1.heap.size + 1) wr (.slice pa P.length pc) P := by
                have := OwnP.below HOP.out hbr
                rwa [World.size_alloc] at this
              have hX : ∀ nm, nm ∈ P.map Pk.name → lastV R nm (f2 (textKey nm)) = newestV l (allNeeds l (pickedOf l ws) ws) nm := fun nm hnm => by
                have e1 : f2 (textKey nm) = limF CL 999999 nm := by rw [hli nm, (hasB_mem _ _).2 hnm]; rfl
                rw [e1]
                have hso := HSO.out
                rw [← HPP.out] at hso
                exact newest_same HSA.out (fun r hr => (HFI.out.rel r hr).2.2) (fun n hn => best_lt (marks_len l ws) n hn) hso nm
              have hb16 := good_below hb12 hbr
              have HX : Hid _ := hX
              have HBX6 : Hid _ := hbx6
              have HOP6 : Hid _ := hop6
              have HCN6 : Hid (Counts wr 9 w2.heap.size (P.length + CL.length) f2) := hcn
              clear hX hli hke hbx6 hop6 hcn
              go_wp2_with fail
              go_loopw [70] (fun i70 wr => ∃ (k : Nat) (l' : List Pk), i70 = .int .i64 (k : Int) ∧ k ≤ P.length ∧ OwnP (w1.heap.size + 1) wr (.slice pa P.length pc) l' ∧ l'.length = P.length ∧ (∀ j, j < k → l'[j]? = (P[j]?).map fun p => ⟨p.name, newestV l (allNeeds l (pickedOf l ws) ws) p.name⟩) ∧ (∀ j, k ≤ j → l'[j]? = P[j]?) ∧ Counts wr 9 w2.heap.size (P.length + CL.length) f2 ∧ Blk wr w1.heap.size 55 #[.slice ra R.length rc, .map (some mb), .slice wa ws.length wc] ∧ Below w1.heap.size w1 wr) (fun i70 _ => P.length - (intOf i70).toNat)
              case atStart => exact ⟨0, P, rfl, by omega, HOP6.out, rfl, fun j h => by omega, fun j _ => rfl, HCN6.out, HBX6.out, hb16⟩
              case round =>
                obtain ⟨k, l', rfl, hk7, hop7, hl7, hlo7, hhi7, hcn7, hbx7, hb7⟩ := hrel
                by_cases hkn7 : k < P.length
                · have hkn7' : (k : Int) < (P.length : Int) := by omega
                  have hkl : k < l'.length := by omega
                  have hat : l'[k] = P[k] := by
                    have e := hhi7 k (Nat.le_refl _)
                    rw [List.getElem?_eq_getElem hkl, List.getElem?_eq_getElem hkn7] at e
                    exact Option.some.inj e
                  have hnmP : P[k].name ∈ P.map Pk.name := List.mem_map.2 ⟨_, List.getElem_mem hkn7, rfl⟩
                  obtain ⟨a7, c7, hv7, hc7⟩ := hop7.value
                  obtain ⟨g, hg7, hcell⟩ := hc7 (by omega)
                  obtain ⟨x1, x2⟩ := hcell k hkl
                  simp only [Value.slice.injEq] at hv7
                  obtain ⟨rfl, -, rfl⟩ := hv7
                  subst hg7
                  have hgB : w1.heap.size + 1 ≤ g := hop7.block g rfl
                  have hgc := counts_cell hcn7 x1
                  have hz := (HPF.out P[k] (List.getElem_mem hkn7)).2.1
                  have hx8 := HX.out _ hnmP
                  have hset := fun (W : World) (h : OwnP (w1.heap.size + 1) W (.slice (some ⟨g, 0, none⟩) P.length pc) l') (v : Int) => OwnP.set h hkl v
                  have hPk : P[k]? = some P[k] := List.getElem?_eq_getElem hkn7
                  rw [hat] at x1 x2 hset
                  obtain ⟨x, hx⟩ : ∃ x, P[k] = x := ⟨_, rfl⟩
                  rw [hx] at x1 x2 hz hx8 hset hPk
                  clear hx hcell hat hnmP hc7
                  obtain ⟨xn, xv⟩ := x
                  dsimp only at x1 x2 hz hx8 hset
                  have bB : Below wr.heap.size wr (wr.alloc (.cells #[.string xn, .int .i64 xv] 41)) := (Below.refl _ wr).alloc (Nat.le_refl _) _
                  have hkey : keyOf Tryz.prog 9 (.string xn) = some (textKey xn) := key9 (by simp [maxLen]; omega)
                  have hlk := (Counts.look (hcn7.below bB) law9 Tryz.underlying59 hkey).1
                  have cL := HCL.out _ (good_below hb7 bB) xn (f2 (textKey xn))
                  rw [hx8] at cL
                  obtain ⟨V, hV⟩ : ∃ V, f2 (textKey xn) = V := ⟨_, rfl⟩
                  rw [hV] at hlk cL
                  obtain ⟨X, hXX⟩ : ∃ X, newestV l (allNeeds l (pickedOf l ws) ws) xn = X := ⟨_, rfl⟩
                  rw [hXX] at cL
                  have bx := hbx7.below bB
                  have e0 := bx.cell 0
                  have e1 := bx.cell 1
                  have e2 := bx.cell 2
                  simp at e0 e1 e2
                  have HXX : Hid _ := hXX
                  have HSET : Hid _ := hset
                  have HOP7 : Hid (OwnP (w1.heap.size + 1) wr (.slice (some ⟨g, 0, none⟩) P.length pc) l') := hop7
                  have HCN7 : Hid (Counts wr 9 w2.heap.size (P.length + CL.length) f2) := hcn7
                  have HBX7 : Hid (Blk wr w1.heap.size 55 #[.slice ra R.length rc, .map (some mb), .slice wa ws.length wc]) := hbx7
                  have HLO : Hid _ := hlo7
                  have HHI : Hid _ := hhi7
                  have HL7 : Hid _ := hl7
                  have HPK : Hid _ := hPk
                  have hgw := cell_lt' x1
                  have hblk : ∃ cur, Blk wr g 41 cur := by
                    rcases hop7.2 with ⟨hv, _⟩ | ⟨g', cap', cur, hv, _, hg, _⟩
                    · simp at hv
                    · simp only [Value.slice.injEq, Option.some.injEq, Addr.mk.injEq, and_true] at hv
                      obtain ⟨rfl, _⟩ := hv
                      exact ⟨cur, hg⟩
                  obtain ⟨cur, hblk⟩ := hblk
                  have HBLK : Hid (Blk wr g 41 cur) := hblk
                  clear hV hXX hx8 hset hop7 hcn7 hbx7 hlo7 hhi7 hl7 hkey bx hPk hblk
                  go_wp2_with (go_at_call 21; go_must (refine cL.mono ?_; rintro e w8 ⟨rfl, hb8⟩; have bB8 := good_below bB hb8; have q8 := Blk.below HBLK.out bB8; have fr8 := q8.fro (k * 2 + 1); have c8 := (bB8.cell (p := ⟨g, k * 2 + 1, none⟩) hgw).trans x2; clear q8))
                  have o8 := OwnP.below HOP7.out bB8
                  have o9 := HSET.out w8 o8 X
                  have g9 := set_grown w8 g (k * 2 + 1) (.int .i64 X)
                  have b18 := good_below hb7 bB8
                  have hl9 := HL7.out
                  refine ⟨⟨k + 1, _, rfl, by omega, o9, by rw [List.length_set]; exact hl9, fun j hj => ?_, fun j hj => ?_, (Counts.below HCN7.out bB8).kept g9 (by simpa using fun e => hgc e.symm), (Blk.below HBX7.out bB8).kept g9 (by simp; omega), b18.setCell (p := ⟨g, k * 2 + 1, none⟩) (Nat.le_trans (Nat.le_succ _) hgB) _⟩, by simp [intOf]; omega⟩
                  · rw [List.getElem?_set]
                    by_cases e : k = j
                    · subst e
                      rw [if_pos rfl, if_pos (by omega), HPK.out]
                      simp only [Option.map_some, HXX.out]
                    · rw [if_neg e]
                      exact HLO.out j (by omega)
                  · rw [List.getElem?_set, if_neg (by omega)]
                    exact HHI.out j (by omega)
                · obtain rfl : k = P.length := by omega
                  have hkn7' : ¬ ((P.length : Int) < (P.length : Int)) := by omega
                  have hl'e : l' = newestOf l (pickedOf l ws) ws := by
                    rw [newest_map, HPP.out]
                    apply List.ext_getElem?
                    intro j
                    rw [List.getElem?_map]
                    by_cases hj : j < P.length
                    · exact hlo7 j hj
                    · rw [List.getElem?_eq_none (by omega), List.getElem?_eq_none (by omega)]; rfl
                  have HL7 : Hid _ := hl'e
                  have HO7 : Hid (OwnP (w1.heap.size + 1) wr (.slice pa P.length pc) l') := hop7
                  clear hlo7 hhi7 hop7 hcn7 hbx7 hl'e hl7
                  go_wp2_with fail
                  go_ret2
                  refine ⟨⟨_, rfl, ?_⟩, good_below hb1 hb7⟩
                  rw [← HL7.out]
                  exact OwnP.mono HO7.out (Nat.le_trans hb1.size (Nat.le_succ _))
    · rw [if_neg hcc0] at hCC
      subst hCC
      have hcc' : (cc == 0) = false := by simp [hcc0]
      go_wp2_with fail
      go_ret2
      exact ⟨⟨_, rfl, ⟨rfl, .inl ⟨rfl, rfl⟩⟩⟩, hbw2⟩
  · have hC : C = ([], c) := by rw [← HC.out]; unfold newestF; rw [HCD.out, if_neg h0]
    subst hC
    have h0' : (c == 0) = false := by simp [h0]
    go_enter Tryz.func9, Tryz.ntmps9
    go_wp2_with (go_at_call 18; go_must (refine c27.mono ?_; rintro e w1 ⟨⟨sv, rfl, hout⟩, hb1⟩; have hzs := hout.elim (fun hx => hx.2) (fun hh => absurd (HCD.out.symm.trans hh.1) h0); unfold zeroShelf at hzs; subst hzs))
    go_ret2
    exact ⟨⟨_, rfl, ⟨rfl, .inl ⟨rfl, rfl⟩⟩⟩, hb1.alloc hb1.size _⟩
end Go.Proofs.YteokcdobapkkhaaGreatDoor

namespace Go.Proofs.YteokcdobapkkhaaGreatDoor
open Go.ChangeShapes Go.WideShapes Go.ChangeAt Go.RowKit
set_option linter.unusedVariables false

/-- Of the blocks that were there only g may have turned. -/
def Only (g : Nat) (w w' : World) : Prop := w.heap.size ≤ w'.heap.size ∧ ∀ k, k < w.heap.size → k ≠ g → w'.heap[k]? = w.heap[k]?
theorem Only.refl (g : Nat) (w : World) : Only g w w := ⟨Nat.le_refl _, fun _ _ _ => rfl⟩
theorem Only.trans {g : Nat} {w w1 w2 : World} (h1 : Only g w w1) (h2 : Only g w1 w2) : Only g w w2 :=
  ⟨Nat.le_trans h1.1 h2.1, fun k hk hg => (h2.2 k (Nat.lt_of_lt_of_le hk h1.1) hg).trans (h1.2 k hk hg)⟩
theorem Only.bel {g : Nat} {w w1 w2 : World} (h1 : Only g w w1) (h2 : Below w1.heap.size w1 w2) : Only g w w2 :=
  h1.trans ⟨h2.size, fun k hk _ => h2.block k hk⟩
theorem Only.set {g : Nat} {w w1 : World} (h : Only g w w1) (i : Nat) (v : Value) : Only g w (w1.setCell ⟨g, i, none⟩ v) :=
  h.trans ⟨by simp only [World.size_setCell]; exact Nat.le_refl _, fun k _ hg => Below.heap_setCell _ _ _ _ hg⟩
theorem Only.cell {g : Nat} {w w1 : World} (h : Only g w w1) {b i : Nat} (hb : b < w.heap.size) (hg : b ≠ g) : w1.cell? ⟨b, i, none⟩ = w.cell? ⟨b, i, none⟩ := by
  simp only [World.cell?, h.2 b hb hg]

/-- What the source of draws holds: the code, a place, a seed; of what was there at first nothing has turned. -/
structure Src (B g : Nat) (a : Option Addr) (len cap A : Nat) (w0 w : World) : Prop where
  blk : ∃ p sd : Nat, Blk w g 76 #[.slice a len cap, .int .i64 p, .int .i64 sd] ∧ p ≤ A ∧ sd < 2147483648
  ge : B ≤ g
  below : Below B w0 w
  code : ∀ i, i < len → ∃ cb co, a = some ⟨cb, co, none⟩ ∧ cb < B ∧ ∃ b : Nat, b < 256 ∧ w0.cell? ⟨cb, co + i, none⟩ = some (.int .u8 b)
section
variable {B g : Nat} {a : Option Addr} {len cap A : Nat} {w0 w : World}
theorem Src.codeAt (h : Src B g a len cap A w0 w) (i : Nat) (hi : i < len) : ∃ cb co, a = some ⟨cb, co, none⟩ ∧ cb < B ∧ ∃ b : Nat, b < 256 ∧ w.cell? ⟨cb, co + i, none⟩ = some (.int .u8 b) := by
  obtain ⟨cb, co, ha, hlt, b, hb, hc⟩ := h.code i hi
  exact ⟨cb, co, ha, hlt, b, hb, (h.below.cell hlt).trans hc⟩
theorem Src.bel (h : Src B g a len cap A w0 w) {w' : World} (hb : Below w.heap.size w w') : Src B g a len cap A w0 w' := by
  obtain ⟨p, sd, h1, h2, h3⟩ := h.blk
  exact ⟨⟨p, sd, h1.below hb, h2, h3⟩, h.ge, h.below.trans (hb.mono (Nat.le_trans h.ge (Nat.le_of_lt h1.lt))), h.code⟩
theorem Src.mono (h : Src B g a len cap A w0 w) {A' : Nat} (hA : A ≤ A') : Src B g a len cap A' w0 w := by
  obtain ⟨p, sd, h1, h2, h3⟩ := h.blk
  exact ⟨⟨p, sd, h1, by omega, h3⟩, h.ge, h.below, h.code⟩
end

set_option maxRecDepth 100000 in
set_option maxHeartbeats 1000000 in
theorem drawByte {B g : Nat} {a : Option Addr} {len cap A : Nat} {w0 w : World} (hA : A ≤ 1000000) (hl : len ≤ 1048576) (h : Src B g a len cap A w0 w) :
    Calls Tryz.prog 57 #[.pointer (some ⟨g, 0, none⟩)] w fun e w' => ∃ b : Nat, b < 256 ∧ e = .returned (.int .i64 b) ∧ Src B g a len cap (A + 1) w0 w' ∧ Only g w w' := by
  obtain ⟨p, sd, hblk, hp, hsd⟩ := h.blk
  have d0 := hblk.cell 0
  have d1 := hblk.cell 1
  have d2 := hblk.cell 2
  simp at d0 d1 d2
  have f1 := hblk.fro 1
  have f2 := hblk.fro 2
  by_cases hin : p < len
  · obtain ⟨cb, co, rfl, hcb, b, hb, hc⟩ := h.codeAt p hin
    have hgc : cb ≠ g := by have := h.ge; omega
    have HH : Hid (Src B g (some ⟨cb, co, none⟩) len cap A w0 w) := h
    have HB : Hid (Blk w g 76 #[.slice (some ⟨cb, co, none⟩) len cap, .int .i64 p, .int .i64 sd]) := hblk
    clear h hblk
    go_enter Tryz.func57, Tryz.ntmps57
    go_wp2_with fail
    have hb1 := HB.out.set 1 (.int .i64 ((p : Int) + 1))
    have hO1 : Only g w (w.setCell ⟨g, 1, none⟩ (.int .i64 ((p : Int) + 1))) := (Only.refl g w).set 1 _
    have hB1 : Below B w0 (w.setCell ⟨g, 1, none⟩ (.int .i64 ((p : Int) + 1))) := HH.out.below.setCell HH.out.ge _
    have hc1 : (w.setCell ⟨g, 1, none⟩ (.int .i64 ((p : Int) + 1))).cell? ⟨cb, co + p, none⟩ = some (.int .u8 (b : Int)) := (World.cell?_setCell_other _ _ _ _ (fun h => hgc (by injection h with h; exact h.symm))).trans hc
    generalize w.setCell ⟨g, 1, none⟩ (.int .i64 ((p : Int) + 1)) = W at hb1 hB1 hc1 hO1 ⊢
    have e0 := hb1.cell 0
    have e1 := hb1.cell 1
    have e2 := hb1.cell 2
    simp at e0 e1 e2
    have k2 := hb1.fro 2
    have hle : ((p : Int) + 1 ≤ (len : Int)) := by omega
    clear d0 d1 d2 f1 f2 hc
    go_quiet (fail)
    go_wp2_with fail
    go_region
    all_goals
      go_wp2_with fail
      have hb2 := (hb1.below (bel_drewN (Below.refl _ W) (nq + 1))).set 2 (.int .i64 (((sd : Int) * 31 + (b : Int) + 7) % 2147483648))
      have hO2 : Only g w ((W.drewN (nq + 1)).setCell ⟨g, 2, none⟩ (.int .i64 (((sd : Int) * 31 + (b : Int) + 7) % 2147483648))) := (hO1.bel (bel_drewN (Below.refl _ W) (nq + 1))).set 2 _
      have hB2 : Below B w0 ((W.drewN (nq + 1)).setCell ⟨g, 2, none⟩ (.int .i64 (((sd : Int) * 31 + (b : Int) + 7) % 2147483648))) := (bel_drewN hB1 (nq + 1)).setCell HH.out.ge _
      have hc2 : ((W.drewN (nq + 1)).setCell ⟨g, 2, none⟩ (.int .i64 (((sd : Int) * 31 + (b : Int) + 7) % 2147483648))).cell? ⟨cb, co + p, none⟩ = some (.int .u8 (b : Int)) := (World.cell?_setCell_other _ _ _ _ (fun h => hgc (by injection h with h; exact h.symm))).trans (hc1)
      generalize (W.drewN (nq + 1)).setCell ⟨g, 2, none⟩ (.int .i64 (((sd : Int) * 31 + (b : Int) + 7) % 2147483648)) = W2 at hb2 hB2 hc2 hO2 ⊢
      have g0 := hb2.cell 0
      have g1 := hb2.cell 1
      simp at g0 g1
      clear e0 e1 e2 k2 hc1
      go_quiet (fail)
      go_wp2_with fail
      go_ret
      refine ⟨b, hb, rfl, ⟨⟨p + 1, (sd * 31 + b + 7) % 2147483648, ?_, by omega, Nat.mod_lt _ (by decide)⟩, HH.out.ge, bel_drewN hB2 _, HH.out.code⟩, hO2.bel (bel_drewN (Below.refl _ W2) _)⟩
      exact hb2.below (bel_drewN (Below.refl _ W2) _)
  · have HH : Hid (Src B g a len cap A w0 w) := h
    have HB : Hid (Blk w g 76 #[.slice a len cap, .int .i64 p, .int .i64 sd]) := hblk
    clear h hblk
    by_cases hbig : 3000 < p + 1
    · have hbig' : (3000 : Int) < (p : Int) + 1 := by omega
      go_enter Tryz.func57, Tryz.ntmps57
      go_wp2_with fail
      have hb1 := HB.out.set 1 (.int .i64 ((p : Int) + 1))
      have hO1 : Only g w (w.setCell ⟨g, 1, none⟩ (.int .i64 ((p : Int) + 1))) := (Only.refl g w).set 1 _
      have hB1 : Below B w0 (w.setCell ⟨g, 1, none⟩ (.int .i64 ((p : Int) + 1))) := HH.out.below.setCell HH.out.ge _
      generalize w.setCell ⟨g, 1, none⟩ (.int .i64 ((p : Int) + 1)) = W at hb1 hB1 hO1 ⊢
      have e0 := hb1.cell 0
      have e1 := hb1.cell 1
      have e2 := hb1.cell 2
      simp at e0 e1 e2
      have hle : ¬ ((p : Int) + 1 ≤ (len : Int)) := by omega
      clear d0 d1 d2 f1 f2
      go_quiet (fail)
      go_wp2_with fail
      go_ret
      refine ⟨0, by omega, rfl, ⟨⟨p + 1, sd, ?_, by omega, hsd⟩, HH.out.ge, bel_drewN hB1 _, HH.out.code⟩, hO1.bel (bel_drewN (Below.refl _ W) _)⟩
      exact hb1.below (bel_drewN (Below.refl _ W) _)
    · have hbig' : ¬ ((3000 : Int) < (p : Int) + 1) := by omega
      go_enter Tryz.func57, Tryz.ntmps57
      go_wp2_with fail
      have hb1 := HB.out.set 1 (.int .i64 ((p : Int) + 1))
      have hO1 : Only g w (w.setCell ⟨g, 1, none⟩ (.int .i64 ((p : Int) + 1))) := (Only.refl g w).set 1 _
      have hB1 : Below B w0 (w.setCell ⟨g, 1, none⟩ (.int .i64 ((p : Int) + 1))) := HH.out.below.setCell HH.out.ge _
      generalize w.setCell ⟨g, 1, none⟩ (.int .i64 ((p : Int) + 1)) = W at hb1 hB1 hO1 ⊢
      have e0 := hb1.cell 0
      have e1 := hb1.cell 1
      have e2 := hb1.cell 2
      simp at e0 e1 e2
      have k2 := hb1.fro 2
      have hle : ¬ ((p : Int) + 1 ≤ (len : Int)) := by omega
      clear d0 d1 d2 f1 f2
      go_quiet (fail)
      go_wp2_with fail
      go_ret
      refine ⟨(sd * 1103515245 + 12345) % 2147483648 / 65536 % 256, Nat.mod_lt _ (by decide), rfl, ⟨⟨p + 1, (sd * 1103515245 + 12345) % 2147483648, ?_, by omega, Nat.mod_lt _ (by decide)⟩, HH.out.ge, (bel_drewN hB1 _).setCell HH.out.ge _, HH.out.code⟩, (hO1.bel (bel_drewN (Below.refl _ W) _)).set 2 _⟩
      exact (hb1.below (bel_drewN (Below.refl _ W) _)).set 2 _

set_option maxRecDepth 100000 in
set_option maxHeartbeats 1000000 in
theorem drawNext {B g : Nat} {a : Option Addr} {len cap A : Nat} {w0 w : World} (n : Nat) (hn : n ≤ 1000000) (hA : A ≤ 100000) (hl : len ≤ 1048576) (h : Src B g a len cap A w0 w) :
    Calls Tryz.prog 29 #[.pointer (some ⟨g, 0, none⟩), .int .i64 n] w fun e w' => ∃ b : Nat, (b = 0 ∨ b < n) ∧ e = .returned (.int .i64 b) ∧ Src B g a len cap (A + 3) w0 w' ∧ Only g w w' := by
  have c := fun (A' : Nat) (hA' : A' ≤ 1000000) (w : World) => drawByte (B := B) (g := g) (a := a) (len := len) (cap := cap) (A := A') (w0 := w0) (w := w) hA' hl
  by_cases h1 : n ≤ 1
  · have h1' : (n : Int) ≤ 1 := by omega
    go_enter Tryz.func29, Tryz.ntmps29
    go_wp2_with fail
    go_ret
    exact ⟨0, .inl rfl, rfl, h.mono (by omega), Only.refl g w⟩
  · have h1' : ¬ ((n : Int) ≤ 1) := by omega
    by_cases h2 : n ≤ 256
    · have h2' : (n : Int) ≤ 256 := by omega
      have hnz : (n : Int) ≠ 0 := by omega
      go_enter Tryz.func29, Tryz.ntmps29
      go_wp2_with (go_at_call 57; go_must (refine (c A (by omega) _ h).mono ?_; rintro e w1 ⟨b, hb, rfl, hs1, ho1⟩))
      go_ret
      exact ⟨b % n, .inr (Nat.mod_lt _ (by omega)), rfl, hs1.mono (by omega), ho1⟩
    · have h2' : ¬ ((n : Int) ≤ 256) := by omega
      have hnz : (n : Int) ≠ 0 := by omega
      go_enter Tryz.func29, Tryz.ntmps29
      go_wp2_with (first
        | (go_at_call 57; refine (c (A + 2) (by omega) _ hs2).mono ?_; rintro e w3 ⟨b3, hb3, rfl, hs3, ho3⟩)
        | (go_at_call 57; refine (c (A + 1) (by omega) _ hs1).mono ?_; rintro e w2 ⟨b2, hb2, rfl, hs2, ho2⟩)
        | (go_at_call 57; go_must (refine (c A (by omega) _ h).mono ?_; rintro e w1 ⟨b1, hb1, rfl, hs1, ho1⟩)))
      go_ret
      exact ⟨(b1 * 65536 + b2 * 256 + b3) % n, .inr (Nat.mod_lt _ (by omega)), rfl, hs3, (ho1.trans ho2).trans ho3⟩

set_option maxRecDepth 100000 in
theorem drawChance {B g : Nat} {a : Option Addr} {len cap A : Nat} {w0 w : World} (n : Nat) (hn : n ≤ 1000000) (hA : A ≤ 100000) (hl : len ≤ 1048576) (h : Src B g a len cap A w0 w) :
    Calls Tryz.prog 32 #[.pointer (some ⟨g, 0, none⟩), .int .i64 n] w fun e w' => ∃ b : Bool, e = .returned (.bool b) ∧ Src B g a len cap (A + 3) w0 w' ∧ Only g w w' := by
  have c := drawNext n hn hA hl h
  go_enter Tryz.func32, Tryz.ntmps32
  go_wp2_with (go_at_call 29; go_must (refine c.mono ?_; rintro e w1 ⟨b, hb, rfl, hs1, ho1⟩))
  go_ret
  exact ⟨_, rfl, hs1, ho1⟩

set_option maxRecDepth 100000 in
theorem drawSize {B g : Nat} {a : Option Addr} {len cap A : Nat} {w0 w : World} (n : Nat) (hn : n ≤ 1000) (hl : len ≤ 1048576) (h : Src B g a len cap A w0 w) :
    Calls Tryz.prog 30 #[.pointer (some ⟨g, 0, none⟩), .int .i64 n] w fun e w' => ∃ b : Nat, b ≤ n ∧ e = .returned (.int .i64 b) ∧ w = w' := by
  obtain ⟨p, sd, hblk, hp, hsd⟩ := h.blk
  have d0 := hblk.cell 0
  simp at d0
  clear h hblk
  go_enter Tryz.func30, Tryz.ntmps30
  go_wp2_with fail
  all_goals
    go_ret
    exact ⟨min (1 + len / 12) n, by omega, by simp; omega, rfl⟩

/-- A row of texts, each of at most 30 bytes. -/
def Texts (w : World) (b n : Nat) : Prop := ∀ k, k < n → ∃ t : ByteArray, t.size ≤ 30 ∧ w.cell? ⟨b, k, none⟩ = some (.string t)
theorem Texts.only {g : Nat} {w w' : World} {b n : Nat} (h : Texts w b n) (ho : Only g w w') (hb : b < w.heap.size) (hg : b ≠ g) : Texts w' b n := fun k hk => by
  obtain ⟨t, ht, hc⟩ := h k hk
  exact ⟨t, ht, (ho.cell hb hg).trans hc⟩

set_option maxRecDepth 100000 in
theorem drawPick {B g : Nat} {a : Option Addr} {len cap A : Nat} {w0 w : World} (lb n : Nat) (hn : 0 < n) (hn2 : n ≤ 1000) (hA : A ≤ 100000) (hl : len ≤ 1048576) (h : Src B g a len cap A w0 w) (ht : Texts w lb n) (hlb : lb < w.heap.size) (hg : lb ≠ g) :
    Calls Tryz.prog 31 #[.pointer (some ⟨g, 0, none⟩), .slice (some ⟨lb, 0, none⟩) n n] w fun e w' => ∃ t : ByteArray, t.size ≤ 30 ∧ e = .returned (.string t) ∧ Src B g a len cap (A + 3) w0 w' ∧ Only g w w' := by
  have c := drawNext n (by omega) hA hl h
  have hn0 : ((n : Int) == 0) = false := by rw [beq_eq_false_iff_ne]; omega
  go_enter Tryz.func31, Tryz.ntmps31
  go_wp2_with (go_at_call 29; go_must (refine c.mono ?_; rintro e w1 ⟨b, hb, rfl, hs1, ho1⟩; obtain ⟨t, ht30, htc⟩ := ht.only ho1 hlb hg b (by omega)))
  go_ret
  exact ⟨t, ht30, rfl, hs1, ho1⟩

theorem texts_new (w : World) (vs : Array Value) (n : Nat) (hn : vs.size = n) (hv : (vs.toList.all fun v => match v with | .string t => decide (t.size ≤ 30) | _ => false) = true) : Texts (w.alloc (.cells vs 9)) w.heap.size n := fun k hk => by
  have hk' : k < vs.size := by omega
  have hc : (w.alloc (.cells vs 9)).cell? ⟨w.heap.size, k, none⟩ = some vs[k] := by
    simp only [World.cell?, heap_alloc_last]
    exact Array.getElem?_eq_getElem hk'
  have := List.all_eq_true.1 hv vs[k] (by simp)
  rw [hc]
  revert this
  cases vs[k] with
  | string t => intro h; exact ⟨t, by simpa using h, rfl⟩
  | _ => intro h; simp at h

end Go.Proofs.YteokcdobapkkhaaGreatDoor

namespace Go.Proofs.YteokcdobapkkhaaGreatDoor
open Go.ChangeShapes Go.WideShapes Go.ChangeAt Go.RowKit
set_option linter.unusedVariables false

theorem Blk.only {g b : Nat} {ty : TypeId} {cs : Array Value} {w w' : World} (h : Blk w b ty cs) (ho : Only g w w') (hg : b ≠ g) : Blk w' b ty cs := (ho.2 b h.lt hg).trans h
def sixTexts : Array Value := #[.string ⟨#[97]⟩, .string ⟨#[98]⟩, .string ⟨#[99]⟩, .string ⟨#[206, 187]⟩, .string ⟨#[105, 111]⟩, .string ⟨#[110, 101, 116]⟩]
theorem six_new (w : World) : Texts (w.alloc (.cells #[.string ⟨#[97]⟩, .string ⟨#[98]⟩, .string ⟨#[99]⟩, .string ⟨#[206, 187]⟩, .string ⟨#[105, 111]⟩, .string ⟨#[110, 101, 116]⟩] 9)) w.heap.size 6 := texts_new w _ 6 rfl (by decide)

theorem Src.set' {B g : Nat} {a : Option Addr} {len cap A : Nat} {w0 w : World} (h : Src B g a len cap A w0 w) {x : Nat} (hx : x ≠ g) (hB : B ≤ x) (i : Nat) (v : Value) : Src B g a len cap A w0 (w.setCell ⟨x, i, none⟩ v) := by
  obtain ⟨p, sd, h1, h2, h3⟩ := h.blk
  exact ⟨⟨p, sd, h1.other (fun e => hx e.symm) i v, h2, h3⟩, h.ge, h.below.setCell hB _, h.code⟩
theorem Only.set' {g : Nat} {w w1 : World} (h : Only g w w1) {x : Nat} (hx : w.heap.size ≤ x) (i : Nat) (v : Value) : Only g w (w1.setCell ⟨x, i, none⟩ v) :=
  ⟨by simp only [World.size_setCell]; exact h.1, fun k hk hg => (Below.heap_setCell _ _ _ _ (by show k ≠ x; omega)).trans (h.2 k hk hg)⟩
/-- What is drawn of a need. -/
def NeedOK (m : Imp) : Prop := m.name.size ≤ 30 ∧ 1 ≤ m.mn ∧ m.mn ≤ 4 ∧ m.mn ≤ m.mx ∧ m.mx ≤ 999999
set_option maxRecDepth 100000 in
set_option maxHeartbeats 2000000 in
theorem drawNeed {B g : Nat} {a : Option Addr} {len cap A : Nat} {w0 w : World} (nt : ByteArray) (hA : A ≤ 90000) (hl : len ≤ 1048576) (h : Src B g a len cap A w0 w) :
    Calls Tryz.prog 33 #[.pointer (some ⟨g, 0, none⟩), .string nt] w fun e w' => ∃ m : Imp, NeedOK m ∧ e = .returned (.agg #[.string m.name, .int .i64 m.mn, .int .i64 m.mx]) ∧ Src B g a len cap (A + 21) w0 w' ∧ Only g w w' := by
  have hgl : g < w.heap.size := by obtain ⟨_, _, hb, _⟩ := h.blk; exact hb.lt
  have c24 := fun (A' : Nat) (hA' : A' ≤ 100000) (w : World) (lb : Nat) => drawPick (B := B) (g := g) (a := a) (len := len) (cap := cap) (A := A') (w0 := w0) (w := w) lb 6 (by omega) (by omega) hA' hl
  have c22 := fun (A' : Nat) (hA' : A' ≤ 100000) (w : World) => drawNext (B := B) (g := g) (a := a) (len := len) (cap := cap) (A := A') (w0 := w0) (w := w) 4 (by omega) hA' hl
  have c25 := fun (A' : Nat) (hA' : A' ≤ 100000) (w : World) => drawChance (B := B) (g := g) (a := a) (len := len) (cap := cap) (A := A') (w0 := w0) (w := w) 4 (by omega) hA' hl
  have hb1 : Below w.heap.size w (w.alloc (.cells #[.string ⟨#[]⟩, .int .i64 0, .int .i64 0] 34)) := (Below.refl _ w).alloc (Nat.le_refl _) _
  have c1 : Calls Tryz.prog 31 #[.pointer (some ⟨g, 0, none⟩), .slice (some ⟨w.heap.size + 1, 0, none⟩) 6 6] ((w.alloc (.cells #[.string ⟨#[]⟩, .int .i64 0, .int .i64 0] 34)).alloc (.cells #[.string ⟨#[97]⟩, .string ⟨#[98]⟩, .string ⟨#[99]⟩, .string ⟨#[206, 187]⟩, .string ⟨#[105, 111]⟩, .string ⟨#[110, 101, 116]⟩] 9)) fun e w' => ∃ t : ByteArray, t.size ≤ 30 ∧ e = .returned (.string t) ∧ Src B g a len cap (A + 3) w0 w' ∧ Only g ((w.alloc (.cells #[.string ⟨#[]⟩, .int .i64 0, .int .i64 0] 34)).alloc (.cells #[.string ⟨#[97]⟩, .string ⟨#[98]⟩, .string ⟨#[99]⟩, .string ⟨#[206, 187]⟩, .string ⟨#[105, 111]⟩, .string ⟨#[110, 101, 116]⟩] 9)) w' := by
    have hx := six_new (w.alloc (.cells #[.string ⟨#[]⟩, .int .i64 0, .int .i64 0] 34))
    rw [World.size_alloc] at hx
    exact c24 A (by omega) _ (w.heap.size + 1) ((h.bel hb1).bel ((Below.refl _ _).alloc (Nat.le_refl _) _)) hx (by simp only [World.size_alloc]; omega) (by omega)
  have c2 : ∀ (A' : Nat) (W : World), A' ≤ 100000 → Src B g a len cap A' w0 W → g < W.heap.size → Calls Tryz.prog 31 #[.pointer (some ⟨g, 0, none⟩), .slice (some ⟨W.heap.size, 0, none⟩) 6 6] (W.alloc (.cells #[.string ⟨#[97]⟩, .string ⟨#[98]⟩, .string ⟨#[99]⟩, .string ⟨#[206, 187]⟩, .string ⟨#[105, 111]⟩, .string ⟨#[110, 101, 116]⟩] 9)) fun e w' => ∃ t : ByteArray, t.size ≤ 30 ∧ e = .returned (.string t) ∧ Src B g a len cap (A' + 3) w0 w' ∧ Only g (W.alloc (.cells #[.string ⟨#[97]⟩, .string ⟨#[98]⟩, .string ⟨#[99]⟩, .string ⟨#[206, 187]⟩, .string ⟨#[105, 111]⟩, .string ⟨#[110, 101, 116]⟩] 9)) w' := fun A' W hA' hs hg =>
    c24 A' hA' _ W.heap.size (hs.bel ((Below.refl _ _).alloc (Nat.le_refl _) _)) (six_new W) (by simp only [World.size_alloc]; omega) (by omega)
  clear c24
  have HH : Hid (Src B g a len cap A w0 w) := h
  clear h
  have hk1 : Blk (w.alloc (.cells #[.string ⟨#[]⟩, .int .i64 0, .int .i64 0] 34)) w.heap.size 34 #[.string ⟨#[]⟩, .int .i64 0, .int .i64 0] := heap_alloc_last w _
  have HK1 : Hid (Blk (w.alloc (.cells #[.string ⟨#[]⟩, .int .i64 0, .int .i64 0] 34)) w.heap.size 34 #[.string ⟨#[]⟩, .int .i64 0, .int .i64 0]) := hk1
  clear hk1
  have ho0 : Only g w ((w.alloc (.cells #[.string ⟨#[]⟩, .int .i64 0, .int .i64 0] 34)).alloc (.cells #[.string ⟨#[97]⟩, .string ⟨#[98]⟩, .string ⟨#[99]⟩, .string ⟨#[206, 187]⟩, .string ⟨#[105, 111]⟩, .string ⟨#[110, 101, 116]⟩] 9)) := ((Only.refl g w).bel hb1).bel ((Below.refl _ _).alloc (Nat.le_refl _) _)
  have ho00 : Only g (w.alloc (.cells #[.string ⟨#[]⟩, .int .i64 0, .int .i64 0] 34)) ((w.alloc (.cells #[.string ⟨#[]⟩, .int .i64 0, .int .i64 0] 34)).alloc (.cells #[.string ⟨#[97]⟩, .string ⟨#[98]⟩, .string ⟨#[99]⟩, .string ⟨#[206, 187]⟩, .string ⟨#[105, 111]⟩, .string ⟨#[110, 101, 116]⟩] 9)) := (Only.refl g _).bel ((Below.refl _ _).alloc (Nat.le_refl _) _)
  go_enter Tryz.func33, Tryz.ntmps33
  go_upto_region 2 with (go_at_call 31; go_must (refine c1.mono ?_; rintro e w1 ⟨t1, ht1, rfl, hs1, ho1⟩))
  have hblk1 : Blk w1 w.heap.size 34 #[.string ⟨#[]⟩, .int .i64 0, .int .i64 0] := (Blk.only HK1.out ho00 (by omega)).only ho1 (by omega)
  have ho01 : Only g w w1 := ho0.trans ho1
  have HB1 : Hid (Blk w1 w.heap.size 34 #[.string ⟨#[]⟩, .int .i64 0, .int .i64 0]) := hblk1
  clear hblk1 c1 ho0 ho00 ho1 hb1 HK1
  go_upto_block 0 with fail
  go_cut [5] from 11 to 22 (fun s5 wx => ∃ t : ByteArray, s5 = .string t ∧ t.size ≤ 30 ∧ Src B g a len cap (A + 12) w0 wx ∧ Only g w wx ∧ Blk wx w.heap.size 34 #[.string ⟨#[]⟩, .int .i64 0, .int .i64 0])
  case first =>
    go_wp2_with fail
    go_loopw [5, 6] (fun i5 i6 wr => ∃ (k : Nat) (t : ByteArray), i6 = .int .i64 (k : Int) ∧ i5 = .string t ∧ k ≤ 3 ∧ t.size ≤ 30 ∧ Src B g a len cap (A + 3 + 3 * k) w0 wr ∧ Only g w wr ∧ Blk wr w.heap.size 34 #[.string ⟨#[]⟩, .int .i64 0, .int .i64 0]) (fun _ i6 _ => 3 - (intOf i6).toNat)
    case atStart => exact ⟨0, t1, rfl, rfl, by omega, ht1, by simpa using hs1, ho01, HB1.out⟩
    case round =>
      obtain ⟨k, t, rfl, rfl, hk, ht, hs, ho, hblk⟩ := hrel
      have HSS : Hid (Src B g a len cap (A + 3 + 3 * k) w0 wr) := hs
      have HBK : Hid (Blk wr w.heap.size 34 #[.string ⟨#[]⟩, .int .i64 0, .int .i64 0]) := hblk
      have hgw : g < wr.heap.size := Nat.lt_of_lt_of_le hgl ho.1
      clear hs hblk
      by_cases hk3 : k < 3
      · have hk3' : (k : Int) < 3 := by omega
        cases hcmp : (t.toList == nt.toList)
        · go_wp2_with fail
          go_meet
          exact ⟨t, rfl, ht, Src.mono HSS.out (by omega), ho, HBK.out⟩
        · have c3 := c2 (A + 3 + 3 * k) wr (by omega) HSS.out hgw
          go_wp2_with (go_at_call 31; go_must (refine c3.mono ?_; rintro e w2 ⟨t2, ht2, rfl, hs2, ho2⟩))
          have hoA : Only g wr w2 := ((Only.refl g wr).bel ((Below.refl _ _).alloc (Nat.le_refl _) _)).trans ho2
          exact ⟨⟨k + 1, t2, rfl, rfl, by omega, ht2, Src.mono hs2 (by omega), ho.trans hoA, Blk.only HBK.out hoA (by omega)⟩, by simp [intOf]; omega⟩
      · have hk3' : ¬ ((k : Int) < 3) := by omega
        go_wp2_with fail
        go_meet
        exact ⟨t, rfl, ht, Src.mono HSS.out (by omega), ho, HBK.out⟩
  case rest =>
    obtain ⟨t, rfl, ht, hs2, ho2, hblk2⟩ := hcut
    clear c2 hs1 HB1 ho01 ht1
    obtain ⟨w2, hw2⟩ : ∃ w2, w2 = wc := ⟨_, rfl⟩
    subst hw2
    have HB2 : Hid (Blk w2 w.heap.size 34 #[.string ⟨#[]⟩, .int .i64 0, .int .i64 0]) := hblk2
    have hgw2 : g < w2.heap.size := Nat.lt_of_lt_of_le hgl ho2.1
    clear hblk2
    have c3 := c22 (A + 12) (by omega) w2 hs2
    go_upto_region 7 with (go_at_call 29; go_must (refine c3.mono ?_; rintro e w3 ⟨b3, hb3, rfl, hs3, ho3⟩))
    have hb4 : b3 < 4 := by omega
    have hs4 := hs3.bel ((Below.refl _ w3).alloc (Nat.le_refl _) (.cells #[.string t, .int .i64 (1 + (b3 : Int)), .int .i64 999999] 34))
    have hblk3 : Blk (w3.alloc (.cells #[.string t, .int .i64 (1 + (b3 : Int)), .int .i64 999999] 34)) w3.heap.size 34 #[.string t, .int .i64 (1 + (b3 : Int)), .int .i64 999999] := heap_alloc_last w3 _
    have hblkR : Blk (w3.alloc (.cells #[.string t, .int .i64 (1 + (b3 : Int)), .int .i64 999999] 34)) w.heap.size 34 #[.string ⟨#[]⟩, .int .i64 0, .int .i64 0] := (Blk.only HB2.out ho3 (by omega)).below ((Below.refl _ w3).alloc (Nat.le_refl _) _)
    have hgw3 : g < w3.heap.size := Nat.lt_of_lt_of_le hgw2 ho3.1
    have hww3 : w.heap.size < w3.heap.size := Nat.lt_of_lt_of_le HB2.out.lt ho3.1
    have hoX : Only g w (w3.alloc (.cells #[.string t, .int .i64 (1 + (b3 : Int)), .int .i64 999999] 34)) := (ho2.trans ho3).bel ((Below.refl _ w3).alloc (Nat.le_refl _) _)
    generalize (w3.alloc (.cells #[.string t, .int .i64 (1 + (b3 : Int)), .int .i64 999999] 34)) = W4 at hs4 hblk3 hblkR hoX ⊢
    have hBw : B ≤ w.heap.size := Nat.le_trans HH.out.ge (Nat.le_of_lt hgl)
    have c5 := c25 (A + 12 + 3) (by omega) W4 hs4
    go_upto_if 29 with (go_at_call 32; go_must (refine c5.mono ?_; rintro e w5 ⟨b5, rfl, hs5, ho5⟩))
    have hm5 := hblk3.only ho5 (by omega)
    have hr5 := hblkR.only ho5 (by omega)
    have ho6 : Only g w w5 := hoX.trans ho5
    have HM5 : Hid (Blk w5 w3.heap.size 34 #[.string t, .int .i64 (1 + (b3 : Int)), .int .i64 999999]) := hm5
    have HR5 : Hid (Blk w5 w.heap.size 34 #[.string ⟨#[]⟩, .int .i64 0, .int .i64 0]) := hr5
    clear hblk3 hblkR hs4 hoX c5 c25 hs3 ho3 hs2 ho2 HB2 c3
    go_cut [7] from 30 to 35 (fun s7 wx => s7 = .pointer (some ⟨w3.heap.size, 0, none⟩) ∧ ∃ mx : Nat, 1 + b3 ≤ mx ∧ mx ≤ 999999 ∧ Blk wx w3.heap.size 34 #[.string t, .int .i64 (1 + (b3 : Int)), .int .i64 (mx : Int)] ∧ Blk wx w.heap.size 34 #[.string ⟨#[]⟩, .int .i64 0, .int .i64 0] ∧ Src B g a len cap (A + 21) w0 wx ∧ Only g w wx)
    case first =>
      cases b5
      · go_wp2_with fail
        go_meet
        exact ⟨rfl, 999999, by omega, by omega, HM5.out, HR5.out, hs5.mono (by omega), ho6⟩
      · have e1 := hm5.cell 1
        simp at e1
        have c6 := c22 (A + 12 + 3 + 3) (by omega)
        have hbd : Below w5.heap.size w5 w5.drew := (Below.refl _ w5).drew
        have c7 := c6 w5.drew (hs5.bel hbd)
        have e1' : w5.drew.cell? ⟨w3.heap.size, 1, none⟩ = some (.int .i64 (1 + (b3 : Int))) := e1
        have hmd := HM5.out.below hbd
        have HMD : Hid (Blk w5.drew w3.heap.size 34 #[.string t, .int .i64 (1 + (b3 : Int)), .int .i64 999999]) := hmd
        have hg3 : w3.heap.size ≠ g := by omega
        clear c6 c22 hm5 hr5 hmd
        go_wp2_with fail
        go_region_with (go_at_call 29; refine c7.mono ?_; rintro e w6 ⟨b6, hb6, rfl, hs6, ho7⟩; have m6 := Blk.only HMD.out ho7 hg3; have g1 := m6.cell 1; have g2 := m6.cell 2; simp at g1 g2; have k2 := m6.fro 2; have hwp : IntKind.i64.wrap (1 + (b3 : Int) + (b6 : Int)) = 1 + (b3 : Int) + (b6 : Int) := by rw [IntKind.wrap_i64]; omega)
        all_goals
          go_wp2_with fail
          go_meet
          have hcast : ((1 + b3 + b6 : Nat) : Int) = 1 + (b3 : Int) + (b6 : Int) := by omega
          have hb6' : b6 < 4 := by omega
          have hmm : Blk (w6.setCell ⟨w3.heap.size, 2, none⟩ (.int .i64 (1 + (b3 : Int) + (b6 : Int)))) w3.heap.size 34 #[.string t, .int .i64 (1 + (b3 : Int)), .int .i64 (1 + (b3 : Int) + (b6 : Int))] := m6.set 2 _
          have hrr : Blk w6 w.heap.size 34 #[.string ⟨#[]⟩, .int .i64 0, .int .i64 0] := Blk.only (HR5.out.below hbd) ho7 (by omega)
          have hoo : Only g w w6 := (ho6.bel hbd).trans ho7
          refine ⟨rfl, 1 + b3 + b6, by omega, by omega, ?_, hrr.other (by omega) _ _, (hs6.set' hg3 (by omega) _ _).mono (by omega), hoo.set' (by omega) _ _⟩
          rw [hcast]; exact hmm
    case rest =>
      obtain ⟨rfl, mx, hx1, hx2, hm, hr, hs, ho⟩ := hcut
      have e0 := hm.cell 0
      have e1 := hm.cell 1
      have e2 := hm.cell 2
      have r0 := hr.cell 0
      have r1 := hr.cell 1
      have r2 := hr.cell 2
      simp at e0 e1 e2 r0 r1 r2
      have f0 := hr.fro 0
      have f1 := hr.fro 1
      have f2 := hr.fro 2
      have HMX : Hid (Blk wc w.heap.size 34 #[.string ⟨#[]⟩, .int .i64 0, .int .i64 0]) := hr
      clear hm hr
      go_wp2_with fail
      refine bodyPost_ret (v := .agg #[.string t, .int .i64 (1 + (b3 : Int)), .int .i64 (mx : Int)]) (results_cell_row rfl _ _ w.heap.size 34 #[.string t, .int .i64 (1 + (b3 : Int)), .int .i64 (mx : Int)] (0, 0) _ rfl (((HMX.out.set 0 _).set 1 _).set 2 _) Tryz.underlying34 rfl (by kernel_rfl)) rfl ?_
      refine ⟨⟨t, 1 + (b3 : Int), (mx : Int)⟩, ⟨ht, by show (1 : Int) ≤ 1 + b3; omega, by show 1 + (b3 : Int) ≤ 4; omega, by show 1 + (b3 : Int) ≤ mx; omega, by show (mx : Int) ≤ 999999; omega⟩, rfl, ((hs.set' (by omega) hBw _ _).set' (by omega) hBw _ _).set' (by omega) hBw _ _, ((ho.set' (Nat.le_refl _) _ _).set' (Nat.le_refl _) _ _).set' (Nat.le_refl _) _ _⟩
end Go.Proofs.YteokcdobapkkhaaGreatDoor

namespace Go.Proofs.YteokcdobapkkhaaGreatDoor
open Go.ChangeShapes Go.WideShapes Go.ChangeAt Go.RowKit
set_option linter.unusedVariables false

theorem OwnI.only {B g : Nat} {w w' : World} {v : Value} {l : List Imp} (h : OwnI B w v l) (ho : Only g w w') (hg : g < B) : OwnI B w' v l := by
  obtain ⟨hl, h⟩ := h
  refine ⟨hl, ?_⟩
  rcases h with h | ⟨x, cap, cur, hv, hB, hx, h1, h2, h3, h4⟩
  · exact .inl h
  · refine .inr ⟨x, cap, cur, hv, hB, ?_, h1, h2, h3, h4⟩
    rw [ho.2 x (Array.getElem?_eq_some_iff.1 hx).1 (by omega)]; exact hx
theorem empty_impD (B : Nat) (w : World) (hB : B ≤ w.heap.size) : OwnI B (w.alloc (.cells #[] 34)) (.slice (some ⟨w.heap.size, 0, none⟩) 0 0) [] :=
  ⟨rfl, .inr ⟨w.heap.size, 0, #[], rfl, hB, heap_alloc_last w _, Nat.le_refl _, Nat.zero_le _, rfl, rfl⟩⟩
theorem wpList_appendI1 {ops : Array Oper} {rest : List Oper} {o : Oper} {a : Act} {w : World} {Q : Exit → Act → World → Prop} (hgd : o.guard = none) (s x : Operand)
    (ho : o.op = .call { callee := .builtin .append, args := #[s, x], argTypes := #[24, 24] })
    (B : Nat) (v : Value) (l : List Imp) (hs : a.eval s = v) (hown : OwnI B w v l) (b : Nat) (c : Nat) (m : Imp) (hx : a.eval x = .slice (some ⟨b, 0, none⟩) 1 c)
    (hblk : Blk w b 34 #[.string m.name, .int .i64 m.mn, .int .i64 m.mx])
    (hsz : l.length ≤ 1000000) (hB : B ≤ w.heap.size)
    (h : ∀ v' w', OwnI B w' v' (l ++ [m]) → Below B w w' → w.grownBy w' v.ownBlock → wpList Tryz.prog ops Q rest (a.put o.dst v') w') : wpList Tryz.prog ops Q (o :: rest) a w := by
  obtain ⟨i, hii, hz0, hz1, hz2⟩ := info57
  refine wpList_append_own w hgd s x 24 ho B 34 i zeroImp 3 32 Tryz.underlying24 hii hz0 hz1 hz2 rfl (by decide) v l.length (impCells l) hs hown ⟨b, 0, none⟩ 1 c (impCells [m]) hx (impCells_length [m]) ?_ (fun u hu => impCells_one hu) ?_ ?_ hB ?_
  · intro j u hj
    rw [addr_at, Nat.zero_add, hblk.cell]
    simpa [impCells, Imp.cells] using hj
  · unfold maxLen; omega
  · omega
  · intro v' w' h1 h2 h3
    refine h v' w' ?_ ((Below.refl _ w).grown h2 hB (OwnI.block hown)) h2
    unfold OwnI
    rw [impCells_append, List.length_append]
    exact h1
theorem Src.grown {B g : Nat} {a : Option Addr} {len cap A : Nat} {w0 w w' : World} {C : Nat} (h : Src B g a len cap A w0 w) (hb : Below C w w') (hC : g < C) (hBC : B ≤ C) : Src B g a len cap A w0 w' := by
  obtain ⟨p, sd, h1, h2, h3⟩ := h.blk
  exact ⟨⟨p, sd, by unfold Blk at *; rw [hb.block g hC]; exact h1, h2, h3⟩, h.ge, h.below.trans (hb.mono hBC), h.code⟩
theorem Only.grown {g : Nat} {w w1 w2 : World} (h : Only g w w1) (hb : Below w.heap.size w1 w2) : Only g w w2 :=
  ⟨Nat.le_trans h.1 hb.size, fun k hk hg => (hb.block k hk).trans (h.2 k hk hg)⟩

set_option maxRecDepth 100000 in
set_option maxHeartbeats 2000000 in
theorem drawNeeds {B g : Nat} {a : Option Addr} {len cap A : Nat} {w0 w : World} (nt : ByteArray) (hA : A ≤ 80000) (hl : len ≤ 1048576) (h : Src B g a len cap A w0 w) :
    Calls Tryz.prog 14 #[.pointer (some ⟨g, 0, none⟩), .string nt, .int .i64 4] w fun e w' => ∃ (v : Value) (l : List Imp), e = .returned v ∧ OwnI w.heap.size w' v l ∧ l.length ≤ 4 ∧ (∀ x ∈ l, NeedOK x) ∧ Src B g a len cap (A + 100) w0 w' ∧ Only g w w' := by
  have hgl : g < w.heap.size := by obtain ⟨_, _, hb, _⟩ := h.blk; exact hb.lt
  have hBw : B ≤ w.heap.size := Nat.le_trans h.ge (Nat.le_of_lt hgl)
  have hb0 : Below w.heap.size w (w.alloc (.cells #[] 34)) := (Below.refl _ w).alloc (Nat.le_refl _) _
  have c1 := drawNext (n := 4) (by omega) (by omega) hl (h.bel hb0)
  have c26 := fun (A' : Nat) (hA' : A' ≤ 90000) (W : World) (hs : Src B g a len cap A' w0 W) => drawNeed nt hA' hl hs
  have HC26 : Hid _ := c26
  have hown0 := empty_impD w.heap.size w (Nat.le_refl _)
  have HO0 : Hid (OwnI w.heap.size (w.alloc (.cells #[] 34)) (.slice (some ⟨w.heap.size, 0, none⟩) 0 0) []) := hown0
  clear hown0 c26 h
  go_enter Tryz.func14, Tryz.ntmps14
  go_wp2_with (go_at_call 29; go_must (refine c1.mono ?_; rintro e w1 ⟨b1, hb1, rfl, hs1, ho1⟩))
  have ho01 : Only g w w1 := ((Only.refl g w).bel hb0).trans ho1
  have hown1 := OwnI.only HO0.out ho1 hgl
  have HO1 : Hid (OwnI w.heap.size w1 (.slice (some ⟨w.heap.size, 0, none⟩) 0 0) []) := hown1
  clear hown1 HO0
  go_loopw [7, 8] (fun i7 i8 wr => ∃ (i : Nat) (l : List Imp), i8 = .int .i64 (i : Int) ∧ OwnI w.heap.size wr i7 l ∧ l.length + i ≤ 4 ∧ (∀ x ∈ l, NeedOK x) ∧ Src B g a len cap (A + 3 + 21 * (4 - i)) w0 wr ∧ Only g w wr) (fun _ i8 _ => (intOf i8).toNat)
  case atStart => exact ⟨b1, [], rfl, HO1.out, by simp; omega, by simp, hs1.mono (by omega), ho01⟩
  case round =>
    obtain ⟨i, l, rfl, hown, hli, hall, hs, ho⟩ := hrel
    have HOW : Hid (OwnI w.heap.size wr u7 l) := hown
    have HALL : Hid _ := hall
    obtain ⟨a7, c7, hv7, _⟩ := hown.value
    subst hv7
    have hl4 : (l.length : Int) ≤ 4 := by omega
    clear hown hall
    by_cases hi0 : 0 < i
    · have hi0' : (0 : Int) < (i : Int) := by omega
      have c2 := HC26.out (A + 3 + 21 * (4 - i)) (by omega) wr hs
      go_upto_region 6 with (go_at_call 33; go_must (refine c2.mono ?_; rintro e w2 ⟨⟨nm, mi, ma⟩, hm, rfl, hs2, ho2⟩))
      have hbA : Below w2.heap.size w2 (w2.alloc (.cells #[.string nm, .int .i64 mi, .int .i64 ma] 34)) := (Below.refl _ w2).alloc (Nat.le_refl _) _
      have hblk : Blk (w2.alloc (.cells #[.string nm, .int .i64 mi, .int .i64 ma] 34)) w2.heap.size 34 #[.string nm, .int .i64 mi, .int .i64 ma] := heap_alloc_last w2 _
      have hs3 := hs2.bel hbA
      have ho3 : Only g w (w2.alloc (.cells #[.string nm, .int .i64 mi, .int .i64 ma] 34)) := (ho.trans ho2).bel hbA
      have how3 := (OwnI.only HOW.out ho2 hgl).below hbA
      have hww : w.heap.size ≤ w2.heap.size := (ho.trans ho2).1
      have hsz3 : w2.heap.size < (w2.alloc (.cells #[.string nm, .int .i64 mi, .int .i64 ma] 34)).heap.size := by simp
      generalize (w2.alloc (.cells #[.string nm, .int .i64 mi, .int .i64 ma] 34)) = W3 at hblk hs3 ho3 how3 hsz3 ⊢
      have e0 := hblk.cell 0
      simp at e0
      have HBL : Hid (Blk W3 w2.heap.size 34 #[.string nm, .int .i64 mi, .int .i64 ma]) := hblk
      have HOW3 : Hid (OwnI w.heap.size W3 (.slice a7 l.length c7) l) := how3
      obtain ⟨a7', c7', hv7', hcc⟩ := how3.value
      simp only [Value.slice.injEq] at hv7'
      obtain ⟨rfl, -, rfl⟩ := hv7'
      have HCC : Hid _ := hcc
      have hl4' : l.length ≤ 4 := by omega
      clear hblk how3 hcc c2 hs2 ho2 hbA HOW
      go_wp2_with fail
      go_loopw [10, 11] (fun i10 i11 wr => ∃ (k : Nat) (Fb : Bool), i10 = .bool Fb ∧ i11 = .int .i64 (k : Int) ∧ k ≤ l.length ∧ Below W3.heap.size W3 wr) (fun _ i11 _ => l.length - (intOf i11).toNat)
      case atStart => exact ⟨0, _, rfl, rfl, by omega, Below.refl _ _⟩
      case round =>
        obtain ⟨k, Fb, rfl, rfl, hk, hb4⟩ := hrel
        have f0 := (hb4.cell (p := ⟨w2.heap.size, 0, none⟩) hsz3).trans e0
        by_cases hkn : k < l.length
        · have hkn' : (k : Int) < (l.length : Int) := by omega
          obtain ⟨g7, rfl, _, hg7, hcell⟩ := HCC.out (by omega)
          obtain ⟨x1, _, _⟩ := hcell k hkn
          have d1 := (hb4.cell (p := ⟨g7, k * 3, none⟩) hg7).trans x1
          obtain ⟨zn, hzn⟩ : ∃ zn, l[k].name = zn := ⟨_, rfl⟩
          rw [hzn] at d1
          clear hcell x1 hzn
          cases Fb
          · go_upto_region 10 with fail
            go_quiet (fail)
            go_wp2_with fail
            exact ⟨⟨k + 1, false, rfl, rfl, by omega, bel_drewN hb4 nq⟩, by simp [intOf]; omega⟩
          · cases hcmp : (zn.toList == nm.toList)
            · go_upto_region 10 with fail
              go_quiet (fail)
              go_wp2_with fail
              exact ⟨⟨k + 1, true, rfl, rfl, by omega, bel_drewN hb4 nq⟩, by simp [intOf]; omega⟩
            · go_upto_region 10 with fail
              go_quiet (fail)
              go_wp2_with fail
              exact ⟨⟨k + 1, false, rfl, rfl, by omega, bel_drewN hb4 nq⟩, by simp [intOf]; omega⟩
        · obtain rfl : k = l.length := by omega
          have hkn' : ¬ ((l.length : Int) < (l.length : Int)) := by omega
          have hblk4 := HBL.out.below hb4
          have how4 := HOW3.out.below hb4
          have hs4 := hs3.bel hb4
          have ho4 := ho3.bel hb4
          cases Fb
          · go_wp2_with fail
            exact ⟨⟨i - 1, l, by simp; omega, how4, by omega, HALL.out, hs4.mono (by omega), ho4⟩, by simp [intOf]; omega⟩
          · have m0 := hblk4.cell 0
            have m1 := hblk4.cell 1
            have m2 := hblk4.cell 2
            simp at m0 m1 m2
            have hbN : Below wr.heap.size wr (wr.alloc (.cells #[.string nm, .int .i64 mi, .int .i64 ma] 34)) := (Below.refl _ wr).alloc (Nat.le_refl _) _
            have hblkN : Blk (wr.alloc (.cells #[.string nm, .int .i64 mi, .int .i64 ma] 34)) wr.heap.size 34 #[.string nm, .int .i64 mi, .int .i64 ma] := heap_alloc_last wr _
            have HOW5 : Hid (OwnI w.heap.size (wr.alloc (.cells #[.string nm, .int .i64 mi, .int .i64 ma] 34)) (.slice a7 l.length c7) l) := how4.below hbN
            have HBN : Hid (Blk (wr.alloc (.cells #[.string nm, .int .i64 mi, .int .i64 ma] 34)) wr.heap.size 34 #[.string nm, .int .i64 mi, .int .i64 ma]) := hblkN
            have hsN := hs4.bel hbN
            have hoN := ho4.bel hbN
            have hszN : w.heap.size ≤ (wr.alloc (.cells #[.string nm, .int .i64 mi, .int .i64 ma] 34)).heap.size := hoN.1
            clear hblkN how4
            go_wp2_with (at_builtin; go_must (refine wpList_appendI1 rfl (.tmp 45) (.tmp 47) rfl w.heap.size (.slice a7 l.length c7) l rfl HOW5.out wr.heap.size 1 ⟨nm, mi, ma⟩ rfl HBN.out (by omega) hszN ?_; intro v9 w9 hown9 hB9 hgr9))
            refine ⟨⟨i - 1, l ++ [⟨nm, mi, ma⟩], by simp; omega, hown9, by simp; omega, fun x hx => ?_, (hsN.grown hB9 hgl hBw).mono (by omega), hoN.grown hB9⟩, by simp [intOf]; omega⟩
            rcases List.mem_append.1 hx with q | q
            · exact HALL.out x q
            · simp at q; subst q; exact hm
    · have hi0' : ¬ ((0 : Int) < (i : Int)) := by omega
      go_wp2_with fail
      go_ret
      exact ⟨_, rfl, l, HOW.out, by omega, HALL.out, hs.mono (by omega), ho⟩
end Go.Proofs.YteokcdobapkkhaaGreatDoor

namespace Go.Proofs.YteokcdobapkkhaaGreatDoor
open Go.ChangeShapes Go.WideShapes Go.ChangeAt Go.RowKit
set_option linter.unusedVariables false

theorem OwnI.imps' {B : Nat} {w : World} {v : Value} {l : List Imp} (h : OwnI B w v l) (hl : l.length ≤ 1000) : ImpsAt (fun b => B ≤ b ∧ b < w.heap.size) w v l := by
  obtain ⟨a, cap, hv, hc⟩ := h.value
  refine ⟨by simp [maxLen]; omega, a, cap, hv, fun h0 => ?_⟩
  obtain ⟨g, rfl, hB, hg, hcell⟩ := hc h0
  exact ⟨g, 0, rfl, ⟨hB, hg⟩, fun i hi => by simpa using hcell i hi⟩
theorem OwnI.nil (B : Nat) (w : World) : OwnI B w (.slice none 0 0) [] := ⟨rfl, .inl ⟨rfl, rfl⟩⟩
/-- A release and the value that its needs are. -/
structure RelV where
  rel : Rel
  nv : Value
def RelV.cells (x : RelV) : List Value := [.string x.rel.name, .int .i64 x.rel.ver, x.nv]
def relCells (l : List RelV) : List Value := l.flatMap RelV.cells
theorem relCells_length (l : List RelV) : (relCells l).length = l.length * 3 := by
  induction l with
  | nil => rfl
  | cons a t ih => simp only [relCells, List.flatMap_cons, List.length_append, List.length_cons] at ih ⊢; rw [ih]; simp [RelV.cells]; omega
theorem relCells_append (l k : List RelV) : relCells (l ++ k) = relCells l ++ relCells k := by simp [relCells]
theorem relCells_get (l : List RelV) (k j : Nat) (hk : k < l.length) (hj : j < 3) : (relCells l)[k * 3 + j]? = l[k].cells[j]? := by
  induction l generalizing k with
  | nil => simp at hk
  | cons a t ih =>
    simp only [relCells, List.flatMap_cons]
    cases k with
    | zero =>
      rw [List.getElem?_append_left (by simp [RelV.cells]; omega)]
      simp
    | succ k =>
      rw [List.getElem?_append_right (by simp [RelV.cells]; omega)]
      have e1 : (k + 1) * 3 + j - (RelV.cells a).length = k * 3 + j := by simp [RelV.cells]; omega
      rw [e1]
      have := ih k (by simpa using hk)
      unfold relCells at this
      simpa using this
theorem relCells_at (l : List RelV) (k : Nat) (hk : k < l.length) : (relCells l)[k * 3]? = some (.string l[k].rel.name) ∧ (relCells l)[k * 3 + 1]? = some (.int .i64 l[k].rel.ver) ∧ (relCells l)[k * 3 + 2]? = some l[k].nv :=
  ⟨by simpa [RelV.cells] using relCells_get l k 0 hk (by omega), by simpa [RelV.cells] using relCells_get l k 1 hk (by omega), by simpa [RelV.cells] using relCells_get l k 2 hk (by omega)⟩
/-- What is drawn of a release. -/
def RelD (r : Rel) : Prop := r.name.size ≤ 30 ∧ r.needs.length ≤ 4 ∧ ∀ m ∈ r.needs, NeedOK m
/-- A row of releases of one's own, its needs rows of one's own, too. -/
structure OwnR (B : Nat) (w : World) (v : Value) (l : List RelV) : Prop where
  row : w.ownsRow B 36 3 v l.length (relCells l)
  needs : ∀ x ∈ l, OwnI B w x.nv x.rel.needs ∧ RelD x.rel
theorem OwnR.below {B : Nat} {w w' : World} {v : Value} {l : List RelV} (h : OwnR B w v l) (hb : Below w.heap.size w w') : OwnR B w' v l := by
  refine ⟨?_, fun x hx => ⟨(h.needs x hx).1.below hb, (h.needs x hx).2⟩⟩
  obtain ⟨hl, h⟩ := h.row
  refine ⟨hl, ?_⟩
  rcases h with h | ⟨g, cap, cur, hv, hB, hg, h1, h2, h3, h4⟩
  · exact .inl h
  · refine .inr ⟨g, cap, cur, hv, hB, ?_, h1, h2, h3, h4⟩
    rw [hb.block g (Array.getElem?_eq_some_iff.1 hg).1]; exact hg
theorem OwnR.only {B g : Nat} {w w' : World} {v : Value} {l : List RelV} (h : OwnR B w v l) (ho : Only g w w') (hg : g < B) : OwnR B w' v l := by
  refine ⟨?_, fun x hx => ⟨(h.needs x hx).1.only ho hg, (h.needs x hx).2⟩⟩
  obtain ⟨hl, h⟩ := h.row
  refine ⟨hl, ?_⟩
  rcases h with h | ⟨x, cap, cur, hv, hB, hx, h1, h2, h3, h4⟩
  · exact .inl h
  · refine .inr ⟨x, cap, cur, hv, hB, ?_, h1, h2, h3, h4⟩
    rw [ho.2 x (Array.getElem?_eq_some_iff.1 hx).1 (by omega)]; exact hx
theorem OwnR.block {B : Nat} {w : World} {v : Value} {l : List RelV} (h : OwnR B w v l) : ∀ k, v.ownBlock = some k → B ≤ k := by
  intro k hk
  rcases h.row.2 with ⟨rfl, _⟩ | ⟨g, cap, cur, rfl, hB, _⟩
  · simp [Value.ownBlock] at hk
  · simp [Value.ownBlock] at hk; omega
theorem OwnR.value {B : Nat} {w : World} {v : Value} {l : List RelV} (h : OwnR B w v l) :
    ∃ a cap, v = .slice a l.length cap ∧ (0 < l.length → ∃ g, a = some ⟨g, 0, none⟩ ∧ B ≤ g ∧ g < w.heap.size ∧ ∀ j (hj : j < l.length), w.cell? ⟨g, j * 3, none⟩ = some (.string l[j].rel.name) ∧ w.cell? ⟨g, j * 3 + 1, none⟩ = some (.int .i64 l[j].rel.ver) ∧ w.cell? ⟨g, j * 3 + 2, none⟩ = some l[j].nv) := by
  rcases h.row.2 with ⟨rfl, h0⟩ | ⟨g, cap, cur, rfl, hB, hg, h1, h2, h3, h4⟩
  · exact ⟨none, 0, by rw [h0], fun h => by omega⟩
  · refine ⟨_, cap, rfl, fun _ => ⟨g, rfl, hB, (Array.getElem?_eq_some_iff.1 hg).1, fun j hj => ?_⟩⟩
    simp only [World.cell?, hg]
    have h5 := relCells_at l j hj
    rw [← h4, List.getElem?_take, List.getElem?_take, List.getElem?_take, if_pos (by omega), if_pos (by omega), if_pos (by omega)] at h5
    simpa using h5
/-- Needs lie in other blocks than the releases. -/
theorem OwnR.apart {B : Nat} {w : World} {v : Value} {l : List RelV} (h : OwnR B w v l) {B' : Nat} {u : Value} {ns : List Imp} (hn : OwnI B' w u ns) : u.ownBlock = none ∨ u.ownBlock ≠ v.ownBlock := by
  rcases hn.2 with ⟨rfl, _⟩ | ⟨g, cap, cur, rfl, hB, hg, _⟩
  · exact .inl rfl
  · refine .inr fun e => ?_
    rcases h.row.2 with ⟨rfl, _⟩ | ⟨g', cap', cur', rfl, hB', hg', _⟩
    · simp [Value.ownBlock] at e
    · simp [Value.ownBlock] at e
      subst e
      rw [hg] at hg'
      simp at hg'
theorem empty_rel (B : Nat) (w : World) (hB : B ≤ w.heap.size) : OwnR B (w.alloc (.cells #[] 36)) (.slice (some ⟨w.heap.size, 0, none⟩) 0 0) [] :=
  ⟨⟨rfl, .inr ⟨w.heap.size, 0, #[], rfl, hB, heap_alloc_last w _, Nat.le_refl _, Nat.zero_le _, rfl, rfl⟩⟩, by simp⟩
def zeroRel : Value := .agg #[.string ⟨#[]⟩, .int .i64 0, .slice none 0 0]
theorem info32 : ∃ i, Tryz.prog.info? 36 = some i ∧ i.zero = some zeroRel ∧ i.size = 3 ∧ i.bytes = 48 := by
  have hi : (Tryz.prog.info? 36).map (fun i => (i.zero, i.size, i.bytes)) = some (some zeroRel, 3, 48) := by kernel_rfl
  cases h : Tryz.prog.info? 36 with
  | none => rw [h] at hi; simp at hi
  | some i =>
    rw [h] at hi
    simp only [Option.map_some, Option.some.injEq, Prod.mk.injEq] at hi
    exact ⟨i, rfl, hi.1, hi.2.1, hi.2.2⟩
theorem OwnI.one {B : Nat} {w : World} {v : Value} {l : List Imp} (h : OwnI B w v l) : v.oneCell' = true := by
  obtain ⟨a, cap, rfl, _⟩ := h.value
  rfl
theorem relCells_one {B : Nat} {w : World} {l : List RelV} (h : ∀ x ∈ l, OwnI B w x.nv x.rel.needs) {u : Value} (hu : u ∈ relCells l) : u.oneCell' = true := by
  obtain ⟨x, hxl, hx⟩ := List.mem_flatMap.1 hu
  simp only [RelV.cells, List.mem_cons, List.mem_nil_iff, or_false] at hx
  rcases hx with rfl | rfl | rfl
  · rfl
  · rfl
  · exact (h x hxl).one
theorem wpList_appendR1 {ops : Array Oper} {rest : List Oper} {o : Oper} {a : Act} {w : World} {Q : Exit → Act → World → Prop} (hgd : o.guard = none) (s x : Operand)
    (ho : o.op = .call { callee := .builtin .append, args := #[s, x], argTypes := #[23, 23] })
    (B : Nat) (v : Value) (l : List RelV) (hs : a.eval s = v) (hown : OwnR B w v l) (b : Nat) (c : Nat) (m : RelV) (hx : a.eval x = .slice (some ⟨b, 0, none⟩) 1 c)
    (hblk : Blk w b 36 #[.string m.rel.name, .int .i64 m.rel.ver, m.nv]) (hm : OwnI B w m.nv m.rel.needs) (hmd : RelD m.rel)
    (hsz : l.length ≤ 1000000) (hB : B ≤ w.heap.size)
    (h : ∀ v' w', OwnR B w' v' (l ++ [m]) → Below B w w' → w.grownBy w' v.ownBlock → wpList Tryz.prog ops Q rest (a.put o.dst v') w') : wpList Tryz.prog ops Q (o :: rest) a w := by
  obtain ⟨i, hii, hz0, hz1, hz2⟩ := info32
  refine wpList_append_own w hgd s x 23 ho B 36 i zeroRel 3 48 Tryz.underlying23 hii hz0 hz1 hz2 rfl (by decide) v l.length (relCells l) hs hown.row ⟨b, 0, none⟩ 1 c (relCells [m]) hx (relCells_length [m]) ?_ (fun u hu => relCells_one (l := [m]) (B := B) (w := w) (by simpa using hm) hu) ?_ ?_ hB ?_
  · intro j u hj
    rw [addr_at, Nat.zero_add, hblk.cell]
    simpa [relCells, RelV.cells] using hj
  · unfold maxLen; omega
  · omega
  · intro v' w' h1 h2 h3
    refine h v' w' ⟨?_, fun y hy => ?_⟩ ((Below.refl _ w).grown h2 hB (OwnR.block hown)) h2
    · rw [relCells_append, List.length_append]
      exact h1
    · rcases List.mem_append.1 hy with q | q
      · exact ⟨(hown.needs y q).1.kept h2 (hown.apart (hown.needs y q).1), (hown.needs y q).2⟩
      · simp at q
        subst q
        exact ⟨hm.kept h2 (hown.apart hm), hmd⟩
/-- The releases, read. -/
theorem OwnR.rels {B : Nat} {w : World} {v : Value} {l : List RelV} (h : OwnR B w v l) (hl : l.length ≤ 1000) : RelsAt (fun b => B ≤ b ∧ b < w.heap.size) w v (l.map RelV.rel) := by
  obtain ⟨a, cap, hv, hc⟩ := h.value
  refine ⟨by simp [maxLen]; omega, a, cap, by rw [List.length_map]; exact hv, fun h0 => ?_⟩
  rw [List.length_map] at h0
  obtain ⟨g, rfl, hB, hg, hcell⟩ := hc h0
  refine ⟨g, 0, rfl, ⟨hB, hg⟩, fun i hi => ?_⟩
  have hi' : i < l.length := by simpa using hi
  obtain ⟨c1, c2, c3⟩ := hcell i hi'
  simp only [Nat.zero_add, List.getElem_map]
  exact ⟨c1, c2, _, c3, (h.needs _ (List.getElem_mem hi')).1.imps' (by have := (h.needs _ (List.getElem_mem hi')).2.2.1; omega)⟩
end Go.Proofs.YteokcdobapkkhaaGreatDoor

namespace Go.Proofs.YteokcdobapkkhaaGreatDoor
open Go.ChangeShapes Go.WideShapes Go.ChangeAt Go.RowKit
set_option linter.unusedVariables false

theorem OwnI.mono {B B' : Nat} {w : World} {v : Value} {l : List Imp} (h : OwnI B w v l) (hB : B' ≤ B) : OwnI B' w v l := by
  obtain ⟨hl, h⟩ := h
  refine ⟨hl, ?_⟩
  rcases h with h | ⟨g, cap, cur, hv, hB', hg, h1, h2, h3, h4⟩
  · exact .inl h
  · exact .inr ⟨g, cap, cur, hv, by omega, hg, h1, h2, h3, h4⟩
theorem OwnI.set' {B : Nat} {w : World} {v : Value} {l : List Imp} (h : OwnI B w v l) {x : Nat} (hx : x < B) (i : Nat) (u : Value) : OwnI B (w.setCell ⟨x, i, none⟩ u) v l :=
  h.only ((Only.refl x w).set i u) hx
set_option maxRecDepth 100000 in
set_option maxHeartbeats 4000000 in
theorem drawStore {B g : Nat} {a : Option Addr} {len cap A : Nat} {w0 w : World} (hA : A ≤ 70000) (hl : len ≤ 1048576) (h : Src B g a len cap A w0 w) :
    Calls Tryz.prog 13 #[.pointer (some ⟨g, 0, none⟩)] w fun e w' => ∃ (v : Value) (l : List RelV), e = .returned v ∧ OwnR w.heap.size w' v l ∧ 0 < l.length ∧ l.length ≤ 40 ∧ Src B g a len cap (A + 3000) w0 w' ∧ Only g w w' := by
  have hgl : g < w.heap.size := by obtain ⟨_, _, hb, _⟩ := h.blk; exact hb.lt
  have hBw : B ≤ w.heap.size := Nat.le_trans h.ge (Nat.le_of_lt hgl)
  have hb0 : Below w.heap.size w (w.alloc (.cells #[] 36)) := (Below.refl _ w).alloc (Nat.le_refl _) _
  have hs0 := h.bel hb0
  have c23 := drawSize (n := 16) (by omega) hl hs0
  have c22 := fun (n A' : Nat) (hn : n ≤ 100) (hA' : A' ≤ 100000) (W : World) (hs : Src B g a len cap A' w0 W) => drawNext (n := n) (by omega) hA' hl hs
  have c24 := fun (A' : Nat) (hA' : A' ≤ 100000) (W : World) (hs : Src B g a len cap A' w0 W) (hg : g < W.heap.size) => drawPick W.heap.size 6 (by omega) (by omega) hA' hl (hs.bel ((Below.refl _ W).alloc (Nat.le_refl _) _)) (six_new W) (by simp only [World.size_alloc]; omega) (by omega)
  have c14 := fun (nt : ByteArray) (A' : Nat) (hA' : A' ≤ 80000) (W : World) (hs : Src B g a len cap A' w0 W) => drawNeeds nt hA' hl hs
  have c25 := fun (A' : Nat) (hA' : A' ≤ 100000) (W : World) (hs : Src B g a len cap A' w0 W) => drawChance (n := 3) (by omega) hA' hl hs
  have HC22 : Hid _ := c22
  have HC24 : Hid _ := c24
  have HC14 : Hid _ := c14
  have HC25 : Hid _ := c25
  have hown0 := empty_rel w.heap.size w (Nat.le_refl _)
  have HO0 : Hid (OwnR w.heap.size (w.alloc (.cells #[] 36)) (.slice (some ⟨w.heap.size, 0, none⟩) 0 0) []) := hown0
  clear hown0 c22 c24 c14 c25 h
  go_enter Tryz.func13, Tryz.ntmps13
  go_upto_block 0 with (first
    | (go_at_call 30; go_must (refine c23.mono ?_; rintro e w1 ⟨b1, hb1, rfl, rfl⟩; have c1 := HC22.out (b1 + 6) A (by omega) (by omega) _ hs0))
    | (go_at_call 29; go_must (refine c1.mono ?_; rintro e w2 ⟨b2, hb2, rfl, hs2, ho2⟩)))
  have ho02 : Only g w w2 := ((Only.refl g w).bel hb0).trans ho2
  have hown2 := OwnR.only HO0.out ho2 hgl
  have HO2 : Hid (OwnR w.heap.size w2 (.slice (some ⟨w.heap.size, 0, none⟩) 0 0) []) := hown2
  have hb2' : b2 ≤ 21 := by omega
  clear hown2 HO0 c1 c23 hs0 hb0 ho2
  go_cut [3] from 16 to 64 (fun s3 wx => ∃ l : List RelV, OwnR w.heap.size wx s3 l ∧ 0 < l.length ∧ l.length ≤ 23 ∧ Src B g a len cap (A + 2500) w0 wx ∧ Only g w wx)
  case first =>
    go_wp2_with fail
    go_loopw [3, 4] (fun i3 i4 wr => ∃ (i : Nat) (l : List RelV), i4 = .int .i64 (i : Int) ∧ OwnR w.heap.size wr i3 l ∧ l.length + i ≤ 23 ∧ (l.length = 0 → 0 < i) ∧ Src B g a len cap (A + 3 + 106 * (23 - i)) w0 wr ∧ Only g w wr) (fun _ i4 _ => (intOf i4).toNat)
    case atStart => exact ⟨2 + b2, [], by simp, HO2.out, by simp; omega, by omega, hs2.mono (by omega), ho02⟩
    case round =>
      obtain ⟨i, l, rfl, hown, hli, hne, hs, ho⟩ := hrel
      have HOW : Hid (OwnR w.heap.size wr u3 l) := hown
      obtain ⟨a3, c3, hv3, _⟩ := hown.value
      subst hv3
      have hl4 : (l.length : Int) ≤ 23 := by omega
      clear hown
      by_cases hi0 : 0 < i
      · have hi0' : (0 : Int) < (i : Int) := by omega
        have hgw : g < wr.heap.size := Nat.lt_of_lt_of_le hgl ho.1
        have cp := HC24.out (A + 3 + 106 * (23 - i)) (by omega) wr hs hgw
        have hoS : Only g wr (wr.alloc (.cells #[.string ⟨#[97]⟩, .string ⟨#[98]⟩, .string ⟨#[99]⟩, .string ⟨#[206, 187]⟩, .string ⟨#[105, 111]⟩, .string ⟨#[110, 101, 116]⟩] 9)) := (Only.refl g wr).bel ((Below.refl _ wr).alloc (Nat.le_refl _) _)
        go_upto_region 6 with (first
          | (go_at_call 31; go_must (refine cp.mono ?_; rintro e w3 ⟨t, ht, rfl, hs3, ho3⟩; have cq := HC22.out 7 (A + 3 + 106 * (23 - i) + 3) (by omega) (by omega) w3 hs3))
          | (go_at_call 29; go_must (refine cq.mono ?_; rintro e w4 ⟨b4, hb4, rfl, hs4, ho4⟩)))
        have ho34 : Only g wr w4 := (hoS.trans ho3).trans ho4
        have how4 := OwnR.only HOW.out ho34 hgl
        have HOW4 : Hid (OwnR w.heap.size w4 (.slice a3 l.length c3) l) := how4
        have hbA : Below w4.heap.size w4 (w4.alloc (.cells #[.string t, .int .i64 (1 + (b4 : Int)), .slice none 0 0] 36)) := (Below.refl _ w4).alloc (Nat.le_refl _) _
        have hblk5 : Blk (w4.alloc (.cells #[.string t, .int .i64 (1 + (b4 : Int)), .slice none 0 0] 36)) w4.heap.size 36 #[.string t, .int .i64 (1 + (b4 : Int)), .slice none 0 0] := heap_alloc_last w4 _
        have hs5 := hs4.bel hbA
        have hoA : Only g w4 (w4.alloc (.cells #[.string t, .int .i64 (1 + (b4 : Int)), .slice none 0 0] 36)) := (Only.refl g w4).bel hbA
        have hsz5 : w4.heap.size < (w4.alloc (.cells #[.string t, .int .i64 (1 + (b4 : Int)), .slice none 0 0] 36)).heap.size := by simp
        have hw4 : w.heap.size ≤ w4.heap.size := (ho.trans ho34).1
        have hg4 : w4.heap.size ≠ g := by omega
        clear how4 hbA cp cq hoS ho3 ho4 hs3 hs4 HOW hs
        generalize (w4.alloc (.cells #[.string t, .int .i64 (1 + (b4 : Int)), .slice none 0 0] 36)) = W5 at hblk5 hs5 hoA hsz5 ⊢
        have e0 := hblk5.cell 0
        simp at e0
        have cn := HC14.out t (A + 3 + 106 * (23 - i) + 3 + 3) (by omega) W5 hs5
        have HB5 : Hid (Blk W5 w4.heap.size 36 #[.string t, .int .i64 (1 + (b4 : Int)), .slice none 0 0]) := hblk5
        clear hblk5
        go_upto_region 7 with (go_at_call 14; go_must (refine cn.mono ?_; rintro e w6 ⟨nv, ns, rfl, hni, hnl, hnok, hs6, ho6⟩; have hb6 := Blk.only HB5.out ho6 hg4; have q2 := hb6.cell 2; simp at q2; have qf := hb6.fro 2; have HNI : Hid (OwnI W5.heap.size w6 nv ns) := hni; have HB6 : Hid (Blk w6 w4.heap.size 36 #[.string t, .int .i64 (1 + (b4 : Int)), .slice none 0 0]) := hb6; obtain ⟨nva, nvc, hnv, _⟩ := hni.value; subst hnv; clear hni hb6))
        have hblk7 : Blk (w6.setCell ⟨w4.heap.size, 2, none⟩ (.slice nva ns.length nvc)) w4.heap.size 36 #[.string t, .int .i64 (1 + (b4 : Int)), .slice nva ns.length nvc] := HB6.out.set 2 _
        have ho47 : Only g w4 (w6.setCell ⟨w4.heap.size, 2, none⟩ (.slice nva ns.length nvc)) := (hoA.trans ho6).set' (Nat.le_refl _) _ _
        have how7 := OwnR.only HOW4.out ho47 hgl
        have hni7 := (OwnI.set' HNI.out hsz5 2 (.slice nva ns.length nvc)).mono (Nat.le_trans hw4 (Nat.le_of_lt hsz5))
        have hs7 := hs6.set' hg4 (Nat.le_trans hBw hw4) 2 (.slice nva ns.length nvc)
        have ho7 : Only g w (w6.setCell ⟨w4.heap.size, 2, none⟩ (.slice nva ns.length nvc)) := (ho.trans ho34).trans ho47
        clear ho47 hs6 HB6 HNI HOW4 hoA ho6 cn q2 qf e0 HB5 hs5
        generalize (w6.setCell ⟨w4.heap.size, 2, none⟩ (.slice nva ns.length nvc)) = W7 at hblk7 how7 hni7 hs7 ho7 ⊢
        have HB7 : Hid (Blk W7 w4.heap.size 36 #[.string t, .int .i64 (1 + (b4 : Int)), .slice nva ns.length nvc]) := hblk7
        have HOW7 : Hid (OwnR w.heap.size W7 (.slice a3 l.length c3) l) := how7
        have HNI7 : Hid (OwnI w.heap.size W7 (.slice nva ns.length nvc) ns) := hni7
        have e0 := hblk7.cell 0
        have e1 := hblk7.cell 1
        simp at e0 e1
        have hlt7 := hblk7.lt
        obtain ⟨a3', c3', hv3', hcc⟩ := how7.value
        simp only [Value.slice.injEq] at hv3'
        obtain ⟨rfl, -, rfl⟩ := hv3'
        have HCC : Hid _ := hcc
        clear hblk7 how7 hni7 hcc
        go_wp2_with fail
        go_loopw [6, 7] (fun i6 i7 wr => ∃ (k : Nat) (Fb : Bool), i6 = .bool Fb ∧ i7 = .int .i64 (k : Int) ∧ k ≤ l.length ∧ (k = 0 → Fb = true) ∧ Below W7.heap.size W7 wr) (fun _ i7 _ => l.length - (intOf i7).toNat)
        case atStart => exact ⟨0, true, rfl, rfl, by omega, fun _ => rfl, Below.refl _ _⟩
        case round =>
          obtain ⟨k, Fb, rfl, rfl, hk, hFb, hb8⟩ := hrel
          have f0 := (hb8.cell (p := ⟨w4.heap.size, 0, none⟩) hlt7).trans e0
          have f1 := (hb8.cell (p := ⟨w4.heap.size, 1, none⟩) hlt7).trans e1
          by_cases hkn : k < l.length
          · have hkn' : (k : Int) < (l.length : Int) := by omega
            obtain ⟨g7, rfl, _, hg7, hcell⟩ := HCC.out (by omega)
            obtain ⟨x1, x2, _⟩ := hcell k hkn
            have d1 := (hb8.cell (p := ⟨g7, k * 3, none⟩) hg7).trans x1
            have d2 := (hb8.cell (p := ⟨g7, k * 3 + 1, none⟩) hg7).trans x2
            obtain ⟨zn, hzn⟩ : ∃ zn, l[k].rel.name = zn := ⟨_, rfl⟩
            obtain ⟨zv, hzv⟩ : ∃ zv, l[k].rel.ver = zv := ⟨_, rfl⟩
            rw [hzn] at d1
            rw [hzv] at d2
            clear hcell x1 x2 hzn hzv hFb
            cases Fb
            · go_upto_region 11 with fail
              go_quiet (fail)
              go_wp2_with fail
              exact ⟨⟨k + 1, false, rfl, rfl, by omega, fun h => by omega, bel_drewN hb8 nq⟩, by simp [intOf]; omega⟩
            · cases hcmp : (zn.toList == t.toList)
              · go_upto_region 11 with fail
                go_quiet (fail)
                go_wp2_with fail
                exact ⟨⟨k + 1, true, rfl, rfl, by omega, fun h => by omega, bel_drewN hb8 nq⟩, by simp [intOf]; omega⟩
              · cases hcv : (zv == 1 + (b4 : Int))
                · go_upto_region 11 with fail
                  go_quiet (fail)
                  go_wp2_with fail
                  exact ⟨⟨k + 1, true, rfl, rfl, by omega, fun h => by omega, bel_drewN hb8 nq⟩, by simp [intOf]; omega⟩
                · go_upto_region 11 with fail
                  go_quiet (fail)
                  go_wp2_with fail
                  exact ⟨⟨k + 1, false, rfl, rfl, by omega, fun h => by omega, bel_drewN hb8 nq⟩, by simp [intOf]; omega⟩
          · obtain rfl : k = l.length := by omega
            have hkn' : ¬ ((l.length : Int) < (l.length : Int)) := by omega
            have hblk9 := HB7.out.below hb8
            have how9 := OwnR.below HOW7.out hb8
            have hni9 := OwnI.below HNI7.out hb8
            have hs9 := hs7.bel hb8
            have ho9 := ho7.bel hb8
            cases Fb
            · have hlne : l.length ≠ 0 := fun e => by have := hFb e; cases this
              clear hFb
              go_wp2_with fail
              exact ⟨⟨i - 1, l, by simp; omega, how9, by omega, fun e => absurd e hlne, hs9.mono (by omega), ho9⟩, by simp [intOf]; omega⟩
            · clear hFb
              have m0 := hblk9.cell 0
              have m1 := hblk9.cell 1
              have m2 := hblk9.cell 2
              simp at m0 m1 m2
              have hbN : Below wr.heap.size wr (wr.alloc (.cells #[.string t, .int .i64 (1 + (b4 : Int)), .slice nva ns.length nvc] 36)) := (Below.refl _ wr).alloc (Nat.le_refl _) _
              have hblkN : Blk (wr.alloc (.cells #[.string t, .int .i64 (1 + (b4 : Int)), .slice nva ns.length nvc] 36)) wr.heap.size 36 #[.string t, .int .i64 (1 + (b4 : Int)), .slice nva ns.length nvc] := heap_alloc_last wr _
              have HOW5 : Hid (OwnR w.heap.size (wr.alloc (.cells #[.string t, .int .i64 (1 + (b4 : Int)), .slice nva ns.length nvc] 36)) (.slice a3 l.length c3) l) := how9.below hbN
              have HNI5 : Hid (OwnI w.heap.size (wr.alloc (.cells #[.string t, .int .i64 (1 + (b4 : Int)), .slice nva ns.length nvc] 36)) (.slice nva ns.length nvc) ns) := hni9.below hbN
              have HBN : Hid (Blk (wr.alloc (.cells #[.string t, .int .i64 (1 + (b4 : Int)), .slice nva ns.length nvc] 36)) wr.heap.size 36 #[.string t, .int .i64 (1 + (b4 : Int)), .slice nva ns.length nvc]) := hblkN
              have hsN := hs9.bel hbN
              have hoN := ho9.bel hbN
              have hszN : w.heap.size ≤ (wr.alloc (.cells #[.string t, .int .i64 (1 + (b4 : Int)), .slice nva ns.length nvc] 36)).heap.size := hoN.1
              clear hblkN how9 hni9
              go_wp2_with (at_builtin; go_must (refine wpList_appendR1 rfl (.tmp 61) (.tmp 63) rfl w.heap.size (.slice a3 l.length c3) l rfl HOW5.out wr.heap.size 1 ⟨⟨t, 1 + (b4 : Int), ns⟩, .slice nva ns.length nvc⟩ rfl HBN.out HNI5.out ⟨ht, hnl, hnok⟩ (by omega) hszN ?_; intro v9 w9 hown9 hB9 hgr9))
              exact ⟨⟨i - 1, l ++ [⟨⟨t, 1 + (b4 : Int), ns⟩, .slice nva ns.length nvc⟩], by simp; omega, hown9, by simp; omega, fun e => by simp at e, (hsN.grown hB9 hgl hBw).mono (by omega), hoN.grown hB9⟩, by simp [intOf]; omega⟩
      · have hi0' : ¬ ((0 : Int) < (i : Int)) := by omega
        have hlp : 0 < l.length := by
          rcases Nat.eq_zero_or_pos l.length with e | e
          · have := hne e; omega
          · exact e
        clear hne
        go_wp2_with fail
        go_meet
        exact ⟨l, HOW.out, hlp, by omega, hs.mono (by omega), ho⟩
  case rest =>
    obtain ⟨l0, hown3, hl0, hl23, hs3, ho3⟩ := hcut
    have HO3 : Hid (OwnR w.heap.size wc u3 l0) := hown3
    obtain ⟨a3, c3, hv3, _⟩ := hown3.value
    subst hv3
    clear hown3 HO2 hs2 ho02
    obtain ⟨w3, hw3⟩ : ∃ w3, w3 = wc := ⟨_, rfl⟩
    subst hw3
    have cc := HC25.out (A + 2500) (by omega) w3 hs3
    go_upto_if 67 with (go_at_call 32; go_must (refine cc.mono ?_; rintro e w4 ⟨b4, rfl, hs4, ho4⟩))
    have how4 := OwnR.only HO3.out ho4 hgl
    have HO4 : Hid (OwnR w.heap.size w4 (.slice a3 l0.length c3) l0) := how4
    have ho5 : Only g w w4 := ho3.trans ho4
    clear how4 cc HC22 HC24 HC14 HC25 hs3 ho3 HO3
    cases b4
    · simp only [Bool.not_false]
      go_wp2_with fail
      go_loopw [3, 8] (fun i3 i8 wr => ∃ (k : Nat) (l : List RelV), i8 = .int .i64 (k : Int) ∧ k ≤ 6 ∧ OwnR w.heap.size wr i3 l ∧ 0 < l.length ∧ l.length ≤ 23 + k ∧ Src B g a len cap (A + 2500 + 3) w0 wr ∧ Only g w wr) (fun _ i8 _ => 6 - (intOf i8).toNat)
      case atStart => exact ⟨0, l0, rfl, by omega, HO4.out, hl0, by omega, hs4, ho5⟩
      case round =>
        obtain ⟨k, l, rfl, hk, hown, hlp, hlk, hs, ho⟩ := hrel
        have HOW : Hid (OwnR w.heap.size wr u3 l) := hown
        obtain ⟨a5, c5, hv5, _⟩ := hown.value
        subst hv5
        clear hown
        by_cases hk6 : k < 6
        · have hk6' : (k : Int) < 6 := by omega
          obtain ⟨t, ht, htc⟩ := six_new wr k hk6
          have hbS : Below wr.heap.size wr (wr.alloc (.cells #[.string ⟨#[97]⟩, .string ⟨#[98]⟩, .string ⟨#[99]⟩, .string ⟨#[206, 187]⟩, .string ⟨#[105, 111]⟩, .string ⟨#[110, 101, 116]⟩] 9)) := (Below.refl _ wr).alloc (Nat.le_refl _) _
          have hbN : Below (wr.alloc (.cells #[.string ⟨#[97]⟩, .string ⟨#[98]⟩, .string ⟨#[99]⟩, .string ⟨#[206, 187]⟩, .string ⟨#[105, 111]⟩, .string ⟨#[110, 101, 116]⟩] 9)).heap.size (wr.alloc (.cells #[.string ⟨#[97]⟩, .string ⟨#[98]⟩, .string ⟨#[99]⟩, .string ⟨#[206, 187]⟩, .string ⟨#[105, 111]⟩, .string ⟨#[110, 101, 116]⟩] 9)) ((wr.alloc (.cells #[.string ⟨#[97]⟩, .string ⟨#[98]⟩, .string ⟨#[99]⟩, .string ⟨#[206, 187]⟩, .string ⟨#[105, 111]⟩, .string ⟨#[110, 101, 116]⟩] 9)).alloc (.cells #[.string t, .int .i64 (8 + (k : Int)), .slice none 0 0] 36)) := (Below.refl _ _).alloc (Nat.le_refl _) _
          have hblkN : Blk ((wr.alloc (.cells #[.string ⟨#[97]⟩, .string ⟨#[98]⟩, .string ⟨#[99]⟩, .string ⟨#[206, 187]⟩, .string ⟨#[105, 111]⟩, .string ⟨#[110, 101, 116]⟩] 9)).alloc (.cells #[.string t, .int .i64 (8 + (k : Int)), .slice none 0 0] 36)) (wr.heap.size + 1) 36 #[.string t, .int .i64 (8 + (k : Int)), .slice none 0 0] := by
            have := heap_alloc_last (wr.alloc (.cells #[.string ⟨#[97]⟩, .string ⟨#[98]⟩, .string ⟨#[99]⟩, .string ⟨#[206, 187]⟩, .string ⟨#[105, 111]⟩, .string ⟨#[110, 101, 116]⟩] 9)) (.cells #[.string t, .int .i64 (8 + (k : Int)), .slice none 0 0] 36)
            rwa [World.size_alloc] at this
          have HBN : Hid (Blk ((wr.alloc (.cells #[.string ⟨#[97]⟩, .string ⟨#[98]⟩, .string ⟨#[99]⟩, .string ⟨#[206, 187]⟩, .string ⟨#[105, 111]⟩, .string ⟨#[110, 101, 116]⟩] 9)).alloc (.cells #[.string t, .int .i64 (8 + (k : Int)), .slice none 0 0] 36)) (wr.heap.size + 1) 36 #[.string t, .int .i64 (8 + (k : Int)), .slice none 0 0]) := hblkN
          have HOW5 : Hid (OwnR w.heap.size ((wr.alloc (.cells #[.string ⟨#[97]⟩, .string ⟨#[98]⟩, .string ⟨#[99]⟩, .string ⟨#[206, 187]⟩, .string ⟨#[105, 111]⟩, .string ⟨#[110, 101, 116]⟩] 9)).alloc (.cells #[.string t, .int .i64 (8 + (k : Int)), .slice none 0 0] 36)) (.slice a5 l.length c5) l) := (HOW.out.below hbS).below hbN
          have hsN := (hs.bel hbS).bel hbN
          have hoN := (ho.bel hbS).bel hbN
          have hszN : w.heap.size ≤ ((wr.alloc (.cells #[.string ⟨#[97]⟩, .string ⟨#[98]⟩, .string ⟨#[99]⟩, .string ⟨#[206, 187]⟩, .string ⟨#[105, 111]⟩, .string ⟨#[110, 101, 116]⟩] 9)).alloc (.cells #[.string t, .int .i64 (8 + (k : Int)), .slice none 0 0] 36)).heap.size := hoN.1
          clear hblkN
          go_wp2_with (at_builtin; go_must (refine wpList_appendR1 rfl (.tmp 72) (.tmp 80) rfl w.heap.size (.slice a5 l.length c5) l rfl HOW5.out (wr.heap.size + 1) 1 ⟨⟨t, 8 + (k : Int), []⟩, .slice none 0 0⟩ rfl HBN.out (OwnI.nil _ _) ⟨ht, by simp, by simp⟩ (by omega) hszN ?_; intro v9 w9 hown9 hB9 hgr9))
          exact ⟨⟨k + 1, l ++ [⟨⟨t, 8 + (k : Int), []⟩, .slice none 0 0⟩], rfl, by omega, hown9, by simp, by simp; omega, hsN.grown hB9 hgl hBw, hoN.grown hB9⟩, by simp [intOf]; omega⟩
        · have hk6' : ¬ ((k : Int) < 6) := by omega
          go_wp2_with fail
          go_ret
          first
            | exact ⟨_, rfl, l, HOW.out, hlp, by omega, hs.mono (by omega), ho⟩
            | exact ⟨_, l, rfl, HOW.out, hlp, by omega, hs.mono (by omega), ho⟩
    · go_wp2_with fail
      go_ret
      first
        | exact ⟨_, rfl, l0, HO4.out, hl0, by omega, hs4.mono (by omega), ho5⟩
        | exact ⟨_, l0, rfl, HO4.out, hl0, by omega, hs4.mono (by omega), ho5⟩
end Go.Proofs.YteokcdobapkkhaaGreatDoor
