/-
  spec.Newest: its walk. impl.shelfOf: its walk. impl's newest release of a name below a limit; a version stored into a row of releases; limits by names. impl.Newest: its walk. spec.Upgrade: its walk. What a Why answers, plain: of the first pick of that name the least row, by the store alone; the search's row is that one. How long a Why's answer is. No statement of the seat is proved here.
-/
import Derived.Test.YthgjdcomanabiaaGreatDoorYj7
import Derived.Laws.ResultCell
namespace Go.Proofs.YthgjdcomanabiaaGreatDoor
open Go.ChangeShapes Go.WideShapes Go.ChangeAt Go.RowKit
set_option linter.unusedVariables false

set_option maxRecDepth 100000 in
set_option maxHeartbeats 4000000 in
theorem specNewest (T : World → Prop) : NewestC 24 T newestF := by
  intro S l ws v u w hS h h2 hl hok hwl hwok hT
  have c28 := specCode specName hS h h2
  have HR : Hid (RelsAt S w v l) := h
  have HI : Hid (ImpsAt S w u ws) := h2
  have HS : Hid _ := hS
  have c29 := fun (hst : storeB nameOK l = true) (hw : ws.length ≤ 21) (W : World) (hW : Below w.heap.size w W) => specChoice nameOK S l ws v u W (fun b hb => Nat.lt_of_lt_of_le (hS b hb) hW.size) (h.keep (cells_below hS hW)) (h2.keep (cells_below hS hW)) hst hw
  obtain ⟨la, lc, hv⟩ := h.shape
  obtain ⟨ua, uc, hu⟩ := h2.shape
  subst hv hu
  obtain ⟨C, hC⟩ : ∃ C, newestF l ws = C := ⟨_, rfl⟩
  rw [hC]
  have HC : Hid (newestF l ws = C) := hC
  obtain ⟨c, hc⟩ : ∃ c, codeB nameOK l ws = c := ⟨_, rfl⟩
  rw [hc] at c28
  have HCD : Hid (codeB nameOK l ws = c) := hc
  clear hC hc h h2 hS hT
  by_cases h0 : c = 0
  · subst h0
    obtain ⟨hst, hwi⟩ : storeB nameOK l = true ∧ wishesB nameOK ws = true := by
      have h := HCD.out
      unfold codeB at h
      split at h
      · omega
      · cases hs : storeB nameOK l <;> cases hw : wishesB nameOK ws <;> rw [hs, hw] at h <;> simp at h ⊢
    have hw20 := (wishes_fine hwi).1
    have hl2 := (store_needs hst).1
    have hnd := (store_needs hst).2
    obtain ⟨hin, hinl⟩ := choice_in l ws hst
    have hver : ∀ r ∈ l, 0 ≤ r.ver ∧ r.ver ≤ 999999 := fun r hr => by
      obtain ⟨i, hi, rfl⟩ := List.getElem_of_mem hr
      have := (store_rel hst).2 i hi
      simp only [relB, Bool.and_eq_true, decide_eq_true_eq] at this
      omega
    have c29' := c29 hst (by omega)
    clear c29 hst hwi
    obtain ⟨NS, hNS⟩ : ∃ NS, (choiceOf l ws).1 = NS := ⟨_, rfl⟩
    obtain ⟨cc, hcc⟩ : ∃ cc, (choiceOf l ws).2.1 = cc := ⟨_, rfl⟩
    have hCC : C = if cc = 0 then (newestOf l NS ws, 0) else ([], cc) := by rw [← HC.out]; unfold newestF; rw [if_pos HCD.out, hNS, hcc]
    rw [hNS, hcc] at c29'
    rw [hNS] at hin hinl
    have HCC : Hid _ := hCC
    have HIN : Hid _ := hin
    have HND : Hid _ := hnd
    have HVER : Hid _ := hver
    have hl2' : (l.length : Int) ≤ 200 := by omega
    have hinl' : (NS.length : Int) ≤ 200 := by omega
    clear hCC hNS hcc hin hnd hver
    go_enter Tryz.func24, Tryz.ntmps24
    go_upto_region 5 with (first
      | (go_at_call 28; go_must (refine c28.mono ?_; rintro e w1 ⟨rfl, hb1⟩; have c29'' := c29' _ hb1))
      | (go_at_call 29; go_must (refine c29''.mono ?_; rintro e w2 ⟨⟨p2, q2, rfl, hop2, hos2⟩, hb2⟩; clear hos2)))
    have hbw2 := good_below hb1 hb2
    by_cases hcc0 : cc = 0
    · subst hcc0
      have hCC := HCC.out
      rw [if_pos rfl] at hCC
      subst hCC
      obtain ⟨pa, pc, hp2, hpc⟩ := hop2.value
      subst hp2
      have HPC : Hid _ := hpc
      clear hpc hop2 c28 c29' c29''
      have hempI := empty_imp w2.heap.size w2 (Nat.le_refl _)
      have hI2 : ImpsAt S (w2.alloc (.cells #[] 61)) (.slice ua ws.length uc) ws := HI.out.keep (cells_below HS.out (hbw2.alloc hbw2.size _))
      have HEI : Hid _ := hempI
      have HI2 : Hid (ImpsAt S (w2.alloc (.cells #[] 61)) (.slice ua ws.length uc) ws) := hI2
      clear hempI hI2
      go_upto_region 8 with (at_builtin; go_must (refine wpList_appendI rfl (.tmp 36) (.tmp 37) rfl w2.heap.size (.slice (some ⟨w2.heap.size, 0, none⟩) 0 0) [] rfl HEI.out (.slice ua ws.length uc) ws rfl HI2.out (by simp; omega) (by simp only [World.size_alloc]; omega) ?_; intro v3 w3 hown3 hB3 hgr3))
      have hb3 : Below w2.heap.size w2 w3 := ((Below.refl _ w2).alloc (Nat.le_refl _) _).trans hB3
      have HO3 : Hid (OwnI w2.heap.size w3 v3 (allNeeds l (NS.take 0) ws)) := (show OwnI w2.heap.size w3 v3 (allNeeds l (NS.take 0) ws) from by simpa [allNeeds] using hown3)
      clear hown3
      have hulAll := all_len (l := l) (NS := NS) (ws := ws) (by omega) HND.out HIN.out
      have HUL : Hid _ := hulAll
      clear hulAll
      go_wp2_with fail
      go_loopw [10, 11] (fun i10 i11 wr => ∃ (k : Nat), i11 = .int .i64 (k : Int) ∧ k ≤ NS.length ∧ OwnI w2.heap.size wr i10 (allNeeds l (NS.take k) ws) ∧ Below w2.heap.size w2 wr) (fun _ i11 _ => NS.length - (intOf i11).toNat)
      case atStart => exact ⟨0, rfl, by omega, HO3.out, hb3⟩
      case round =>
        obtain ⟨k, rfl, hk, hoI, hb⟩ := hrel
        have hbW := good_below hbw2 hb
        have hulk := HUL.out k hk
        have HOI : Hid (OwnI w2.heap.size wr u10 (allNeeds l (NS.take k) ws)) := hoI
        by_cases hkn : k < NS.length
        · have hkn' : (k : Int) < (NS.length : Int) := by omega
          obtain ⟨g, rfl, hgw, hcell⟩ := HPC.out (by omega)
          have d1 := (hb.cell (p := ⟨g, k, none⟩) hgw).trans (hcell k hkn)
          have hnl := HIN.out NS[k] (List.getElem_mem hkn)
          have hus := all_succ (ws := ws) hkn (List.getElem?_eq_getElem hnl)
          obtain ⟨_, la', lc', hlv, hlc⟩ := (show RelsAt S w (.slice la l.length lc) l from HR.out)
          simp only [Value.slice.injEq] at hlv
          obtain ⟨rfl, -, rfl⟩ := hlv
          obtain ⟨b, off, rfl, hbS, hlcell⟩ := hlc (by omega)
          obtain ⟨_, _, nv, x3, hnI⟩ := hlcell NS[k] hnl
          have hns := HND.out _ (List.getElem_mem hnl)
          have hbw := HS.out b hbS
          have d3 := (hbW.cell (p := ⟨b, off + NS[k] * 3 + 2, none⟩) hbw).trans x3
          have hnI2 : ImpsAt S wr nv l[NS[k]].needs := hnI.keep (cells_below HS.out hbW)
          obtain ⟨na, nc, hnv⟩ := hnI.shape
          subst hnv
          obtain ⟨n, hn⟩ : ∃ n, NS[k] = n := ⟨_, rfl⟩
          simp only [hn] at d1 d3 hus hns hnl hnI2
          obtain ⟨xs, hxs⟩ : ∃ xs, (l[n]'hnl).needs = xs := ⟨_, rfl⟩
          simp only [hxs] at hus hns hnI2 d3
          have hnl' : (n : Int) < (l.length : Int) := by omega
          have HUS : Hid _ := hus
          have HNI : Hid (ImpsAt S wr (.slice na xs.length nc) xs) := hnI2
          clear hcell hlc hlcell x3 hnI hn hxs hus hnI2 hoI
          go_wp2_with (at_builtin; go_must (refine wpList_appendI rfl (.tmp 45) (.tmp 53) rfl w2.heap.size u10 (allNeeds l (NS.take k) ws) rfl HOI.out (.slice na xs.length nc) xs rfl HNI.out (by omega) hb.size ?_; intro v4 w4 hown4 hB4 hgr4))
          refine ⟨⟨k + 1, rfl, by omega, ?_, hb.trans hB4⟩, by simp [intOf]; omega⟩
          rw [HUS.out]; exact hown4
        · obtain rfl : k = NS.length := by omega
          have hkn' : ¬ ((NS.length : Int) < (NS.length : Int)) := by omega
          rw [List.take_length] at hoI hulk
          obtain ⟨ns, hns⟩ : ∃ ns, allNeeds l NS ws = ns := ⟨_, rfl⟩
          rw [hns] at hoI hulk
          obtain ⟨na, nc, hnv, hnc⟩ := hoI.value
          subst hnv
          have HNC : Hid _ := hnc
          have HNSS : Hid (allNeeds l NS ws = ns) := hns
          have hnsl : (ns.length : Int) ≤ 5000 := by omega
          clear hnc hns hoI HOI
          go_wp2_with fail
          have hb4 : Below wr.heap.size wr (wr.alloc (.cells #[] 74)) := (Below.refl _ wr).alloc (Nat.le_refl _) _
          obtain ⟨w5, hw5⟩ : ∃ w5, w5 = wr := ⟨_, rfl⟩
          subst hw5
          go_loopw [12, 13] (fun i12 i13 wr => ∃ (k : Nat), i13 = .int .i64 (k : Int) ∧ k ≤ NS.length ∧ OwnP w5.heap.size wr i12 ((NS.take k).map fun n => (⟨(pickAt l n).name, newestV l ns (pickAt l n).name⟩ : Pk)) ∧ Below w5.heap.size w5 wr) (fun _ i13 _ => NS.length - (intOf i13).toNat)
          case atStart => exact ⟨0, rfl, by omega, empty_pk w5.heap.size w5 (Nat.le_refl _), hb4⟩
          case round =>
            obtain ⟨k, rfl, hk2, hoP, hb6⟩ := hrel
            have HOP : Hid (OwnP w5.heap.size wr u12 ((NS.take k).map fun n => (⟨(pickAt l n).name, newestV l ns (pickAt l n).name⟩ : Pk))) := hoP
            clear hoP
            have hbW6 := good_below hbW hb6
            have hb26 := good_below hb hb6
            by_cases hkn : k < NS.length
            · have hkn2 : (k : Int) < (NS.length : Int) := by omega
              obtain ⟨g, rfl, hgw, hcell⟩ := HPC.out (by omega)
              have d1 := (hb26.cell (p := ⟨g, k, none⟩) hgw).trans (hcell k hkn)
              have hnl := HIN.out NS[k] (List.getElem_mem hkn)
              have hsn := newest_snoc (l := l) (ws := ws) hkn ns
              obtain ⟨_, la', lc', hlv, hlc⟩ := (show RelsAt S w (.slice la l.length lc) l from HR.out)
              simp only [Value.slice.injEq] at hlv
              obtain ⟨rfl, -, rfl⟩ := hlv
              obtain ⟨b, off, rfl, hbS, hlcell⟩ := hlc (by omega)
              obtain ⟨x1, _⟩ := hlcell NS[k] hnl
              have hbw := HS.out b hbS
              have d2 := (hbW6.cell (p := ⟨b, off + NS[k] * 3, none⟩) hbw).trans x1
              have hpn : (pickAt l NS[k]).name = l[NS[k]].name := by rw [pick_at (List.getElem?_eq_getElem hnl)]; rfl
              rw [hpn] at hsn
              obtain ⟨nm, hnm⟩ : ∃ nm, l[NS[k]].name = nm := ⟨_, rfl⟩
              rw [hnm] at d2 hsn
              obtain ⟨n, hn⟩ : ∃ n, NS[k] = n := ⟨_, rfl⟩
              rw [hn] at d1 d2 hnl
              have hnl' : (n : Int) < (l.length : Int) := by omega
              have HLC : Hid _ := hlcell
              have HSN : Hid _ := hsn
              clear hcell hlc hlcell x1 hn hsn hpn hnm
              have hbx : Blk (wr.alloc (.cells #[.string nm, .int .i64 0] 74)) wr.heap.size 74 #[.string nm, .int .i64 (newUp l ns nm 0)] := heap_alloc_last wr _
              have HBX : Hid _ := hbx
              have bA : Below wr.heap.size wr (wr.alloc (.cells #[.string nm, .int .i64 0] 74)) := (Below.refl _ wr).alloc (Nat.le_refl _) _
              have hnub := fun k hk => newUp_bound (l := l) (ns := ns) (nm := nm) HVER.out k hk
              have HNUB : Hid _ := hnub
              clear hbx hnub
              go_wp2_with fail
              obtain ⟨w7, hw7⟩ : ∃ w7, w7 = wr := ⟨_, rfl⟩
              subst hw7
              go_loopw [15] (fun i15 wr => ∃ (k : Nat), i15 = .int .i64 (k : Int) ∧ k ≤ l.length ∧ Blk wr w7.heap.size 74 #[.string nm, .int .i64 (newUp l ns nm k)] ∧ Below w7.heap.size w7 wr) (fun i15 _ => l.length - (intOf i15).toNat)
              case atStart => exact ⟨0, rfl, by omega, HBX.out, bA⟩
              case round =>
                obtain ⟨k3, rfl, hk3, hbx, hb8⟩ := hrel
                have hbW8 := good_below hbW6 hb8
                have hb58 := good_below hb6 hb8
                obtain ⟨V, hV⟩ : ∃ V, newUp l ns nm k3 = V := ⟨_, rfl⟩
                have hVb := HNUB.out k3 hk3
                rw [hV] at hbx hVb
                have z0 := hbx.cell 0
                have z1 := hbx.cell 1
                simp at z0 z1
                have HBX3 : Hid _ := hbx
                have HV : Hid _ := hV
                clear hbx hV
                by_cases hkn3 : k3 < l.length
                · have hkn3' : (k3 : Int) < (l.length : Int) := by omega
                  obtain ⟨x1, x2, _⟩ := HLC.out k3 hkn3
                  have e1 := (hbW8.cell (p := ⟨b, off + k3 * 3, none⟩) hbw).trans x1
                  have e2 := (hbW8.cell (p := ⟨b, off + k3 * 3 + 1, none⟩) hbw).trans x2
                  have hus := newUp_succ (ns := ns) (nm := nm) hkn3
                  have hrv := HVER.out _ (List.getElem_mem hkn3)
                  obtain ⟨r, hr⟩ : ∃ r, l[k3] = r := ⟨_, rfl⟩
                  rw [hr] at e1 e2 hus hrv
                  rw [HV.out] at hus
                  have HUS : Hid _ := hus
                  clear x1 x2 hr hus
                  obtain ⟨rn, rv, rs⟩ := r
                  dsimp only at e1 e2 hrv
                  have HF0 : Hid _ := fitsUp_zero ns nm ⟨rn, rv, rs⟩
                  go_upto_region 20 with fail
                  go_quiet (fail)
                  go_wp2_with fail
                  obtain ⟨w9, hw9⟩ : ∃ w9, w9 = wr := ⟨_, rfl⟩
                  subst hw9
                  have hb59 := hb58
                  have hfs := fun j hj => fitsUp_succ (ns := ns) (nm := nm) (r := ⟨rn, rv, rs⟩) (j := j) hj
                  have HFS : Hid _ := hfs
                  clear hfs
                  have hbw9 : w7.heap.size < w9.heap.size := (show Blk w9 w7.heap.size 74 _ from HBX3.out).lt
                  go_loopw [16, 17] (fun i16 i17 wr => ∃ (j : Nat) (F : Bool), i16 = .bool F ∧ fitsUp ns nm ⟨rn, rv, rs⟩ j = F ∧ i17 = .int .i64 (j : Int) ∧ j ≤ ns.length ∧ Below w9.heap.size w9 wr) (fun _ i17 _ => ns.length - (intOf i17).toNat)
                  case atStart => exact ⟨0, _, rfl, HF0.out, rfl, by omega, bel_drewN (Below.refl _ _) nq⟩
                  case round =>
                    obtain ⟨j, F, rfl, hF, rfl, hj, hb10⟩ := hrel
                    have hbW10 := good_below hbW8 hb10
                    have hb510 := good_below hb59 hb10
                    have y0 := (hb10.cell (p := ⟨w7.heap.size, 0, none⟩) hbw9).trans z0
                    have y1 := (hb10.cell (p := ⟨w7.heap.size, 1, none⟩) hbw9).trans z1
                    have f1 := (hbW10.cell (p := ⟨b, off + k3 * 3, none⟩) hbw).trans ((hbW8.cell (p := ⟨b, off + k3 * 3, none⟩) hbw).symm.trans e1)
                    have f2 := (hbW10.cell (p := ⟨b, off + k3 * 3 + 1, none⟩) hbw).trans ((hbW8.cell (p := ⟨b, off + k3 * 3 + 1, none⟩) hbw).symm.trans e2)
                    have HF : Hid _ := hF
                    clear hF
                    by_cases hjn : j < ns.length
                    · have hjn' : (j : Int) < (ns.length : Int) := by omega
                      obtain ⟨gn, rfl, _, hgn, hncell⟩ := HNC.out (by omega)
                      obtain ⟨m1, _, m3⟩ := hncell j hjn
                      have p1 := (hb510.cell (p := ⟨gn, j * 3, none⟩) hgn).trans m1
                      have p3 := (hb510.cell (p := ⟨gn, j * 3 + 2, none⟩) hgn).trans m3
                      have hfj := HFS.out j hjn
                      rw [HF.out] at hfj
                      obtain ⟨m, hm⟩ : ∃ m, ns[j] = m := ⟨_, rfl⟩
                      rw [hm] at p1 p3 hfj
                      clear hm m1 m3 hncell
                      obtain ⟨mn, ma, mx⟩ := m
                      dsimp only at p1 p3 hfj
                      have HFJ : Hid _ := hfj
                      clear hfj
                      cases F
                      · go_upto_region 24 with fail
                        go_quiet (fail)
                        go_wp2_with fail
                        refine ⟨⟨j + 1, false, rfl, ?_, rfl, by omega, bel_drewN hb10 nq⟩, by simp [intOf]; omega⟩
                        rw [HFJ.out]; rfl
                      · cases hne : mn.toList == nm.toList
                        · go_upto_region 24 with fail
                          go_quiet (fail)
                          go_wp2_with fail
                          refine ⟨⟨j + 1, true, rfl, ?_, rfl, by omega, bel_drewN hb10 nq⟩, by simp [intOf]; omega⟩
                          rw [HFJ.out, hne]; rfl
                        · by_cases hmv : mx < rv
                          · have hmv' : decide (mx < rv) = true := by simpa using hmv
                            go_upto_region 24 with fail
                            go_quiet (fail)
                            go_wp2_with fail
                            refine ⟨⟨j + 1, false, rfl, ?_, rfl, by omega, bel_drewN hb10 nq⟩, by simp [intOf]; omega⟩
                            rw [HFJ.out, hne, hmv']; rfl
                          · have hmv' : decide (mx < rv) = false := by simpa using hmv
                            go_upto_region 24 with fail
                            go_quiet (fail)
                            go_wp2_with fail
                            refine ⟨⟨j + 1, true, rfl, ?_, rfl, by omega, bel_drewN hb10 nq⟩, by simp [intOf]; omega⟩
                            rw [HFJ.out, hne, hmv']; rfl
                    · obtain rfl : j = ns.length := by omega
                      have hjn' : ¬ ((ns.length : Int) < (ns.length : Int)) := by omega
                      have hFn : fitsN ns nm ⟨rn, rv, rs⟩ = F := by rw [← HF.out]; unfold fitsUp; rw [List.take_length]
                      have hus := HUS.out
                      rw [hFn] at hus
                      have HUS2 : Hid _ := hus
                      clear hus hFn
                      have bx10 := Blk.below HBX3.out hb10
                      have HBX10 : Hid _ := bx10
                      have ff1 := bx10.fro 1
                      clear bx10
                      cases F
                      · go_wp2_with fail
                        refine ⟨⟨k3 + 1, rfl, by omega, ?_, good_below hb8 hb10⟩, by simp [intOf]; omega⟩
                        rw [HUS2.out]; exact HBX10.out
                      · go_upto_region 26 with fail
                        go_region
                        all_goals go_wp2_with fail
                        all_goals
                          have bs := Blk.set HBX10.out 1 (.int .i64 (max V rv))
                          have bs2 : Blk (wr.setCell ⟨w7.heap.size, 1, none⟩ (.int .i64 (max V rv))).drew w7.heap.size 74 #[.string nm, .int .i64 (max V rv)] := bs
                          refine ⟨⟨k3 + 1, rfl, by omega, ?_, ((good_below hb8 hb10).setCell (p := ⟨w7.heap.size, 1, none⟩) (Nat.le_refl _) _).drew⟩, by simp [intOf]; omega⟩
                          rw [HUS2.out, if_pos rfl]; exact bs2
                · obtain rfl : k3 = l.length := by omega
                  have hkn3' : ¬ ((l.length : Int) < (l.length : Int)) := by omega
                  have hVV : newestV l ns nm = V := by rw [← HV.out]; unfold newUp; rw [List.take_length]
                  have bAA : Below wr.heap.size wr (wr.alloc (.cells #[.string nm, .int .i64 V] 74)) := (Below.refl _ wr).alloc (Nat.le_refl _) _
                  have ho8 := OwnP.below HOP.out hb8
                  have HO8 : Hid (OwnP w5.heap.size (wr.alloc (.cells #[.string nm, .int .i64 V] 74)) u12 ((NS.take k).map fun n => (⟨(pickAt l n).name, newestV l ns (pickAt l n).name⟩ : Pk))) := ho8.below bAA
                  have hs58 := hb58.size
                  have HVV : Hid _ := hVV
                  clear ho8 hVV
                  go_wp2_with (at_builtin; go_must (refine wpList_appendP rfl (.tmp 126) (.tmp 128) rfl w5.heap.size u12 ((NS.take k).map fun n => (⟨(pickAt l n).name, newestV l ns (pickAt l n).name⟩ : Pk)) rfl HO8.out ⟨wr.heap.size, 0, none⟩ ⟨nm, V⟩ rfl (pk_new wr nm V) (by simp; omega) (by simp only [World.size_alloc]; omega) ?_; intro v11 w11 hown11 hB11 hgr11))
                  refine ⟨⟨k + 1, rfl, by omega, ?_, (hb58.trans (bAA.mono hs58)).trans hB11⟩, by simp [intOf]; omega⟩
                  rw [HSN.out, HVV.out]
                  exact hown11
            · obtain rfl : k = NS.length := by omega
              have hkn2 : ¬ ((NS.length : Int) < (NS.length : Int)) := by omega
              have ho := HOP.out
              rw [List.take_length] at ho
              have HO2 : Hid _ := ho
              clear ho
              go_wp2_with fail
              go_ret2
              refine ⟨⟨_, rfl, ?_⟩, hbW6⟩
              have := OwnP.mono HO2.out hbW.size
              unfold newestOf
              rw [HNSS.out]
              exact this
    · have hCC := HCC.out
      rw [if_neg hcc0] at hCC
      subst hCC
      have hcc' : (cc == 0) = false := by simp [hcc0]
      go_wp2_with fail
      go_ret2
      exact ⟨⟨_, rfl, empty_pk w.heap.size w2 hbw2.size⟩, hbw2.alloc hbw2.size _⟩
  · have hC : C = ([], c) := by rw [← HC.out]; unfold newestF; rw [HCD.out, if_neg h0]
    subst hC
    have h0' : (c == 0) = false := by simp [h0]
    go_enter Tryz.func24, Tryz.ntmps24
    go_wp2_with (go_at_call 28; go_must (refine c28.mono ?_; rintro e w1 ⟨rfl, hb1⟩))
    go_ret2
    exact ⟨⟨_, rfl, empty_pk w.heap.size w1 hb1.size⟩, hb1.alloc hb1.size _⟩
end Go.Proofs.YthgjdcomanabiaaGreatDoor

namespace Go.Proofs.YthgjdcomanabiaaGreatDoor
open Go.ChangeShapes Go.WideShapes Go.ChangeAt Go.RowKit Go.Maps
set_option linter.unusedVariables false

def zeroShelf : Value := .agg #[.slice none 0 0, .map none, .slice none 0 0]
/-- What shelfOf answers. -/
def ShelfOut (S : Nat → Prop) (l : List Rel) (ws : List Imp) (B : Nat) (w' : World) (sv : Value) : Prop :=
  (codeB nameOK l ws ≠ 0 ∧ sv = zeroShelf) ∨ (codeB nameOK l ws = 0 ∧ ∃ R, ShelfAt S B w' sv R (needsOf l) ws ∧ Same l R (needsOf l))
set_option maxRecDepth 100000 in
set_option maxHeartbeats 4000000 in
theorem implShelf {S : Nat → Prop} {l : List Rel} {ws : List Imp} {v u : Value} {w : World} (hS : ∀ b, S b → b < w.heap.size) (h : RelsAt S w v l) (h2 : ImpsAt S w u ws) (hl : l.length ≤ 1048576) (hok : ∀ x ∈ l, RelOK 1048576 x) (hwl : ws.length ≤ 1048576) (hwok : ∀ x ∈ ws, ImpOK 1048576 x) (hT : ∀ W, Below w.heap.size w W → Lib.Utf8Tabs 0 1 W) :
    Calls Tryz.prog 35 #[v, u] w fun e w' => (∃ sv, e = .returned (.tuple #[sv, .int .i64 (codeB nameOK l ws)]) ∧ ShelfOut S l ws w.heap.size w' sv) ∧ Below w.heap.size w w' := by
  have c38 := fun (W : World) (hW : Below w.heap.size w W) => implStore S l v W (fun b hb => Nat.lt_of_lt_of_le (hS b hb) hW.size) (h.keep (cells_below hS hW)) hl hok (hT W hW)
  have c39 := fun (W : World) (hW : Below w.heap.size w W) => implWishes (w := W) (fun b hb => Nat.lt_of_lt_of_le (hS b hb) hW.size) (h2.keep (cells_below hS hW)) (fun x hx => by have := hwok x hx; unfold ImpOK at this; omega) (hT W hW)
  obtain ⟨la, lc, hv⟩ := h.shape
  obtain ⟨ua, uc, hu⟩ := h2.shape
  subst hv hu
  have hl' : (l.length : Int) ≤ 1048576 := by omega
  have hwl' : (ws.length : Int) ≤ 1048576 := by omega
  have hbA : Below w.heap.size w (w.alloc (.cells #[.slice none 0 0, .map none, .slice none 0 0] 68)) := (Below.refl _ w).alloc (Nat.le_refl _) _
  have hbk0 : Blk (w.alloc (.cells #[.slice none 0 0, .map none, .slice none 0 0] 68)) w.heap.size 68 #[.slice none 0 0, .map none, .slice none 0 0] := heap_alloc_last w _
  by_cases h1 : 4096 < l.length ∨ 4096 < ws.length
  · have hc : codeB nameOK l ws = 2 := by unfold codeB; rw [if_pos h1]
    rw [hc]
    have HC : Hid (codeB nameOK l ws = 2) := hc
    have f0 := hbk0.fro 0
    have f1 := hbk0.fro 1
    have f2 := hbk0.fro 2
    clear c38 c39 hbk0 hc
    by_cases h3 : 4096 < l.length
    · have h3' : (4096 : Int) < (l.length : Int) := by omega
      go_enter Tryz.func35, Tryz.ntmps35
      go_wp2_with fail
      refine bodyPost_ret (v := .tuple #[.agg #[.slice none 0 0, .map none, .slice none 0 0], .int .i64 2]) (by rw [results_cell_tmp Tryz.results35]; simp [go_sem]) rfl ⟨⟨_, rfl, .inl ⟨by rw [HC.out]; decide, rfl⟩⟩, hbA⟩
    · have h3' : ¬ ((4096 : Int) < (l.length : Int)) := by omega
      have h4' : (4096 : Int) < (ws.length : Int) := by omega
      go_enter Tryz.func35, Tryz.ntmps35
      go_wp2_with fail
      refine bodyPost_ret (v := .tuple #[.agg #[.slice none 0 0, .map none, .slice none 0 0], .int .i64 2]) (by rw [results_cell_tmp Tryz.results35]; simp [go_sem]) rfl ⟨⟨_, rfl, .inl ⟨by rw [HC.out]; decide, rfl⟩⟩, hbA⟩
  · have h3' : ¬ ((4096 : Int) < (l.length : Int)) := by omega
    have h4' : ¬ ((4096 : Int) < (ws.length : Int)) := by omega
    have hcd : codeB nameOK l ws = if storeB nameOK l && wishesB nameOK ws then 0 else 1 := by unfold codeB; rw [if_neg h1]
    have c38' := c38 _ hbA
    have HC39 : Hid _ := c39
    have HBK0 : Hid _ := hbk0
    clear c38 c39 hbk0
    cases hst : storeB nameOK l with
    | false =>
      have hc : codeB nameOK l ws = 1 := by rw [hcd, hst]; rfl
      rw [hc]
      have HC : Hid (codeB nameOK l ws = 1) := hc
      rw [hst] at c38'
      clear hc hcd
      go_enter Tryz.func35, Tryz.ntmps35
      go_wp2_with (go_at_call 57; go_must (refine c38'.mono ?_; rintro e w1 ⟨rfl, hb1⟩; have q1 := Blk.below HBK0.out hb1; have r0 := q1.cell 0; have r1 := q1.cell 1; have r2 := q1.cell 2; have f0 := q1.fro 0; have f1 := q1.fro 1; have f2 := q1.fro 2; simp at r0 r1 r2; have Q1 : Hid _ := q1; clear q1))
      have s1 := Blk.set (Blk.set (Blk.set Q1.out 0 (.slice none 0 0)) 1 (.map none)) 2 (.slice none 0 0)
      have t0 := s1.cell 0
      have t1 := s1.cell 1
      have t2 := s1.cell 2
      simp at t0 t1 t2
      have hb := good_below hbA hb1
      refine bodyPost_ret (v := .tuple #[.agg #[.slice none 0 0, .map none, .slice none 0 0], .int .i64 1]) (by rw [results_cell_tmp Tryz.results35]; simp [go_sem, t0, t1, t2]) rfl ⟨⟨_, rfl, .inl ⟨by rw [HC.out]; decide, rfl⟩⟩, ((hb.setCell (Nat.le_refl _) _).setCell (Nat.le_refl _) _).setCell (Nat.le_refl _) _⟩
    | true =>
      cases hwi : wishesB nameOK ws with
      | false =>
        have hc : codeB nameOK l ws = 1 := by rw [hcd, hst, hwi]; rfl
        rw [hc]
        have HC : Hid (codeB nameOK l ws = 1) := hc
        rw [hst] at c38'
        have HWI : Hid _ := hwi
        clear hc hcd
        go_enter Tryz.func35, Tryz.ntmps35
        go_wp2_with (first
          | (go_at_call 57; go_must (refine c38'.mono ?_; rintro e w0 ⟨rfl, hb0⟩; have c39' := HC39.out w0 (good_below hbA hb0); rw [HWI.out] at c39'))
          | (go_at_call 58; go_must (refine c39'.mono ?_; rintro e w1 ⟨rfl, hb1⟩; have hb01 := good_below hb0 hb1; have q1 := Blk.below HBK0.out hb01; have r0 := q1.cell 0; have r1 := q1.cell 1; have r2 := q1.cell 2; have f0 := q1.fro 0; have f1 := q1.fro 1; have f2 := q1.fro 2; simp at r0 r1 r2; have Q1 : Hid _ := q1; clear q1)))
        have s1 := Blk.set (Blk.set (Blk.set Q1.out 0 (.slice none 0 0)) 1 (.map none)) 2 (.slice none 0 0)
        have t0 := s1.cell 0
        have t1 := s1.cell 1
        have t2 := s1.cell 2
        simp at t0 t1 t2
        have hb := good_below hbA hb01
        refine bodyPost_ret (v := .tuple #[.agg #[.slice none 0 0, .map none, .slice none 0 0], .int .i64 1]) (by rw [results_cell_tmp Tryz.results35]; simp [go_sem, t0, t1, t2]) rfl ⟨⟨_, rfl, .inl ⟨by rw [HC.out]; decide, rfl⟩⟩, ((hb.setCell (Nat.le_refl _) _).setCell (Nat.le_refl _) _).setCell (Nat.le_refl _) _⟩
      | true =>
        have hmm := @run_makeMap Tryz.prog
        have hc : codeB nameOK l ws = 0 := by rw [hcd, hst, hwi]; rfl
        rw [hc]
        have HC : Hid (codeB nameOK l ws = 0) := hc
        rw [hst] at c38'
        have HWI : Hid _ := hwi
        have HST : Hid (storeB nameOK l = true) := hst
        have hl2 := (store_rel hst).1
        have hl2' : (l.length : Int) ≤ 200 := by omega
        have HR : Hid (RelsAt S w (.slice la l.length lc) l) := h
        have HI : Hid (ImpsAt S w (.slice ua ws.length uc) ws) := h2
        have HS : Hid _ := hS
        have HOK : Hid _ := hok
        clear hc hcd h h2 hS hok hwok hT hst hwi
        go_enter Tryz.func35, Tryz.ntmps35
        go_wp2_with (first
          | (go_at_call 57; go_must (refine c38'.mono ?_; rintro e w0 ⟨rfl, hb0⟩; have c39' := HC39.out w0 (good_below hbA hb0); rw [HWI.out] at c39'))
          | (go_at_call 58; go_must (refine c39'.mono ?_; rintro e w3 ⟨rfl, hb1⟩; have hb01 := good_below hb0 hb1; have q1 := Blk.below HBK0.out hb01; have Q1 : Hid _ := q1; clear q1)))
        have hbw3 := good_below hbA hb01
        have hlt3 : w.heap.size < w3.heap.size := by have := hb01.size; simp only [World.size_alloc] at this; omega
        clear c38' c39'
        obtain ⟨W0, hW0⟩ : ∃ W0, (w3.alloc (.map #[] 0)).alloc (.cells #[.slice none 0 0, .map (some w3.heap.size), .slice ua ws.length uc] 68) = W0 := ⟨_, rfl⟩
        have hbW0 : Below w3.heap.size w3 W0 := by rw [← hW0]; exact ((Below.refl _ w3).alloc (Nat.le_refl _) _).alloc (by simp) _
        have k1 : Blk W0 (w3.heap.size + 1) 68 #[.slice none 0 0, .map (some w3.heap.size), .slice ua ws.length uc] := by
          rw [← hW0]
          have := heap_alloc_last (w3.alloc (.map #[] 0)) (.cells #[.slice none 0 0, .map (some w3.heap.size), .slice ua ws.length uc] 68)
          rwa [World.size_alloc] at this
        have k2 : NeedsAt W0 w3.heap.size 0 (fun _ => .slice none 0 0) := by
          rw [← hW0]
          exact (NeedsAt.made w3).below ((Below.refl _ _).alloc (Nat.le_refl _) _)
        have HK1 : Hid (Blk W0 (w3.heap.size + 1) 68 #[.slice none 0 0, .map (some w3.heap.size), .slice ua ws.length uc]) := k1
        have HK2 : Hid (NeedsAt W0 w3.heap.size 0 (fun _ => .slice none 0 0)) := k2
        have HBW0 : Hid (Below w3.heap.size w3 W0) := hbW0
        have HW0 : Hid _ := hW0
        clear k1 k2 hbW0 hW0
        go_loopw [33] (fun i33 wr => ∃ (k : Nat) (rv : Value) (f : Lit → Value), i33 = .int .i64 (k : Int) ∧ k ≤ l.length ∧ Blk wr (w3.heap.size + 1) 68 #[rv, .map (some w3.heap.size), .slice ua ws.length uc] ∧ OwnP w3.heap.size wr rv ((l.take k).map relPk) ∧ NeedsAt wr w3.heap.size k f ∧ (∀ j (hj : j < l.length), j < k → ∃ kl, keyOf Tryz.prog 74 (pkVal (relPk l[j])) = some kl ∧ ImpsAt S w (f kl) l[j].needs) ∧ Below w3.heap.size w3 wr) (fun i33 _ => l.length - (intOf i33).toNat)
        case atStart =>
          rw [HW0.out]
          exact ⟨0, _, _, rfl, by omega, HK1.out, ⟨rfl, .inl ⟨rfl, rfl⟩⟩, HK2.out, fun j hj h => by omega, HBW0.out⟩
        case round =>
          obtain ⟨k, rv, f, rfl, hk, hbx, hop, hne, hkeys, hb⟩ := hrel
          have hbW := good_below hbw3 hb
          have hs3 := hb.size
          by_cases hkn : k < l.length
          · have hkn' : (k : Int) < (l.length : Int) := by omega
            obtain ⟨_, la', lc', hlv, hlc⟩ := (show RelsAt S w (.slice la l.length lc) l from HR.out)
            simp only [Value.slice.injEq] at hlv
            obtain ⟨rfl, -, rfl⟩ := hlv
            obtain ⟨b, off, rfl, hbS, hcell⟩ := hlc (by omega)
            obtain ⟨x1, x2, nv, x3, hnI⟩ := hcell k hkn
            have hbw := HS.out b hbS
            have d1 := (hbW.cell (p := ⟨b, off + k * 3, none⟩) hbw).trans x1
            have d2 := (hbW.cell (p := ⟨b, off + k * 3 + 1, none⟩) hbw).trans x2
            have d3 := (hbW.cell (p := ⟨b, off + k * 3 + 2, none⟩) hbw).trans x3
            have htk : (l.take (k + 1)).map relPk = (l.take k).map relPk ++ [relPk l[k]] := by rw [List.take_succ_eq_append_getElem hkn, List.map_append]; rfl
            have hrel := (store_rel HST.out).2 k hkn
            simp only [relB, Bool.and_eq_true, decide_eq_true_eq] at hrel
            have hv1 := hrel.1.1.1.1.2
            have hv2 := hrel.1.1.1.2
            have hz := (HOK.out _ (List.getElem_mem hkn)).1
            have hap : ∀ j (hj : j < l.length), j < k → relPk l[j] ≠ relPk l[k] := fun j hj hjk => store_apart HST.out hjk hkn
            obtain ⟨x, hx⟩ : ∃ x, l[k] = x := ⟨_, rfl⟩
            have HX : Hid (l[k] = x) := hx
            rw [hx] at d1 d2 hnI htk hv1 hv2 hz hap
            clear hx hcell x1 x2 x3 hlc hrel
            obtain ⟨xn, xv, xs⟩ := x
            dsimp only at d1 d2 hnI hv1 hv2 hz
            obtain ⟨na, nc, hnv⟩ := hnI.shape
            subst hnv
            obtain ⟨kl, hkl⟩ := key44 (s := xn) (v := xv) (by simp [maxLen]; omega) (WalkArith.wf_i64 (by omega))
            unfold pickVal at hkl
            obtain ⟨ra, rc, hrv, _⟩ := hop.value
            subst hrv
            obtain ⟨M, hM⟩ : ∃ M, (l.take k).map relPk = M := ⟨_, rfl⟩
            rw [hM] at hop hbx
            have hMl : M.length ≤ 200 := by rw [← hM]; simp; omega
            have HM : Hid _ := hM
            have HTK : Hid _ := htk
            have HKL : Hid (keyOf Tryz.prog 74 (.agg #[.string xn, .int .i64 xv]) = some kl) := hkl
            have HKE : Hid _ := hkeys
            have HAP : Hid _ := hap
            have HNI : Hid _ := hnI
            clear hM htk hkl hkeys hap hnI
            have bA : Below wr.heap.size wr ((wr.alloc (.cells #[.string xn, .int .i64 xv, .slice na xs.length nc] 59)).alloc (.cells #[.string xn, .int .i64 xv] 74)) := ((Below.refl _ wr).alloc (Nat.le_refl _) _).alloc (by simp) _
            have hltM : ∀ j, (Value.slice ra M.length rc).ownBlock = some j → j < wr.heap.size := fun j hj => (World.ownsRow.lt hop j hj).2
            have b55 : Blk ((wr.alloc (.cells #[.string xn, .int .i64 xv, .slice na xs.length nc] 59)).alloc (.cells #[.string xn, .int .i64 xv] 74)) wr.heap.size 59 #[.string xn, .int .i64 xv, .slice na xs.length nc] := Blk.below (show Blk (wr.alloc (.cells #[.string xn, .int .i64 xv, .slice na xs.length nc] 59)) wr.heap.size 59 _ from heap_alloc_last wr _) ((Below.refl _ _).alloc (Nat.le_refl _) _)
            have b67 : Blk ((wr.alloc (.cells #[.string xn, .int .i64 xv, .slice na xs.length nc] 59)).alloc (.cells #[.string xn, .int .i64 xv] 74)) (wr.heap.size + 1) 74 #[.string xn, .int .i64 xv] := by
              have := heap_alloc_last (wr.alloc (.cells #[.string xn, .int .i64 xv, .slice na xs.length nc] 59)) (.cells #[.string xn, .int .i64 xv] 74)
              rwa [World.size_alloc] at this
            obtain ⟨WA, hWA⟩ : ∃ WA, (wr.alloc (.cells #[.string xn, .int .i64 xv, .slice na xs.length nc] 59)).alloc (.cells #[.string xn, .int .i64 xv] 74) = WA := ⟨_, rfl⟩
            have hsA : WA.heap.size = wr.heap.size + 2 := by rw [← hWA]; simp
            rw [hWA] at bA b55 b67
            have hbxA := hbx.below bA
            have e0 := hbxA.cell 0
            have e1 := b67.cell 0
            have e2 := b67.cell 1
            simp at e0 e1 e2
            rw [← hWA] at e0 e1 e2
            have HBX : Hid _ := hbxA
            have H55 : Hid (Blk WA wr.heap.size 59 #[.string xn, .int .i64 xv, .slice na xs.length nc]) := b55
            have H67 : Hid (Blk WA (wr.heap.size + 1) 74 #[.string xn, .int .i64 xv]) := b67
            have HOP : Hid (OwnP w3.heap.size WA (.slice ra M.length rc) M) := OwnP.below hop bA
            have HNE : Hid (NeedsAt WA w3.heap.size k f) := NeedsAt.below hne bA
            have HWA : Hid _ := hWA
            have HSA : Hid _ := hsA
            have HBA : Hid (Below wr.heap.size wr WA) := bA
            clear b55 b67 hbxA hbx hop hne hWA hsA bA
            have bL : Below WA.heap.size WA (WA.alloc (.cells #[.string xn, .int .i64 xv] 74)) := (Below.refl _ WA).alloc (Nat.le_refl _) _
            have HPN : Hid (∀ (j : Nat) u, (Pk.cells ⟨xn, xv⟩)[j]? = some u → (WA.alloc (.cells #[.string xn, .int .i64 xv] 74)).cell? ((⟨wr.heap.size + 2, 0, none⟩ : Addr).add j) = some u) := (show _ from by have := pk_new WA xn xv; rwa [HSA.out] at this)
            have HBL : Hid (Below WA.heap.size WA (WA.alloc (.cells #[.string xn, .int .i64 xv] 74))) := bL
            clear bL
            go_upto_region 11 with (at_builtin; rw [HWA.out]; go_must (refine wpList_appendP rfl (.tmp 43) (.tmp 45) rfl w3.heap.size (.slice ra M.length rc) M rfl (OwnP.below HOP.out HBL.out) ⟨wr.heap.size + 2, 0, none⟩ ⟨xn, xv⟩ rfl HPN.out (by omega) (by simp only [World.size_alloc]; have := HSA.out; omega) ?_; intro v8 w8 hown8 hB8 hgr8; obtain ⟨va, vc, hv8, _⟩ := hown8.value; subst hv8; have r8 := (Blk.below HBX.out HBL.out).kept hgr8 (row_blk (by decide) (OwnP.below HOP.out HBL.out) (Blk.below HBX.out HBL.out)); have l8 := r8.cell 0; have f8 := r8.fro 0; simp at l8; have R8 : Hid _ := r8; have O8 : Hid _ := hown8; have G8 : Hid _ := hgr8; clear r8 hown8 hgr8))
            have hlen : (M ++ [(⟨xn, xv⟩ : Pk)]).length = M.length + 1 := by simp
            have o8 : OwnP w3.heap.size w8 (.slice va (M.length + 1) vc) (M ++ [⟨xn, xv⟩]) := by have := O8.out; rw [hlen] at this; unfold OwnP; rw [hlen]; exact this
            have g9 := set_grown w8 (w3.heap.size + 1) 0 (.slice va (M.length + 1) vc)
            have r9 := Blk.set R8.out 0 (.slice va (M.length + 1) vc)
            have hne55 : some wr.heap.size ≠ (Value.slice ra M.length rc).ownBlock := fun e => Nat.lt_irrefl _ (hltM _ e.symm)
            have hne67 : some (wr.heap.size + 1) ≠ (Value.slice ra M.length rc).ownBlock := fun e => by have := hltM _ e.symm; omega
            have n1 : wr.heap.size ≠ w3.heap.size + 1 := fun e => by
              have h1 : Blk WA wr.heap.size 59 _ := H55.out
              have h2 : Blk WA (w3.heap.size + 1) 68 _ := HBX.out
              rw [e] at h1
              unfold Blk at h1 h2
              rw [h1] at h2
              simp at h2
            have n2 : wr.heap.size + 1 ≠ w3.heap.size + 1 := fun e => by
              have h1 : Blk WA (wr.heap.size + 1) 74 _ := H67.out
              have h2 : Blk WA (w3.heap.size + 1) 68 _ := HBX.out
              rw [e] at h1
              unfold Blk at h1 h2
              rw [h1] at h2
              simp at h2
            have p55 := ((Blk.below H55.out HBL.out).kept G8.out hne55).kept g9 (by simpa using n1)
            have p67 := ((Blk.below H67.out HBL.out).kept G8.out hne67).kept g9 (by simpa using n2)
            have y1 := r9.cell 1
            have y2 := p67.cell 0
            have y3 := p67.cell 1
            have y4 := p55.cell 2
            simp at y1 y2 y3 y4
            have ne8 := (NeedsAt.below HNE.out HBL.out).kept G8.out (need_apart (NeedsAt.below HNE.out HBL.out) (OwnP.below HOP.out HBL.out))
            have ne9 := ne8.kept g9 (by simp)
            have o9 := OwnP.kept o8 g9 (.inr (fun e => row_blk (by decide) o8 R8.out e.symm))
            have hs8 : w3.heap.size ≤ w8.heap.size := Nat.le_trans (by have h1 := HBA.out.size; have h2 := HBL.out.size; omega) hB8.size
            have b8 : Below w3.heap.size w3 w8 := ((hb.trans (HBA.out.mono hs3)).trans (HBL.out.mono (Nat.le_trans hs3 HBA.out.size))).trans hB8
            have b9 := b8.setCell (p := ⟨w3.heap.size + 1, 0, none⟩) (Nat.le_succ _) (.slice va (M.length + 1) vc)
            obtain ⟨w9, hw9⟩ : ∃ w9, w8.setCell ⟨w3.heap.size + 1, 0, none⟩ (.slice va (M.length + 1) vc) = w9 := ⟨_, rfl⟩
            rw [hw9] at g9 r9 p55 p67 y1 y2 y3 y4 ne9 o9 b9 ⊢
            have NE9 : Hid (NeedsAt w9 w3.heap.size k f) := ne9
            have R9 : Hid _ := r9
            have O9 : Hid (OwnP w3.heap.size w9 (.slice va (M.length + 1) vc) (M ++ [⟨xn, xv⟩])) := o9
            have B9 : Hid (Below w3.heap.size w3 w9) := b9
            clear ne8 ne9 o8 o9 r9 p55 p67 g9 hw9 b8 b9 hB8 l8 f8 e0 e1 e2 d1 d2 d3 hlen n1 n2 hne55 hne67
            go_wp2_with (first
              | (at_mapUpdate; go_must (refine wpList_storeN _ rfl _ _ _ rfl w3.heap.size k f rfl NE9.out (by simp [maxLen]; omega) _ _ kl rfl rfl HKL.out ?_; intro w10 hn10 hg10; have HN10 : Hid _ := hn10; have HG10 : Hid _ := hg10; clear hn10 hg10)))
            have b10 := B9.out.grown HG10.out B9.out.size (fun j hj => by cases hj; exact Nat.le_refl _)
            have bx10 := Blk.kept R9.out HG10.out (by simp)
            have op10 := OwnP.kept O9.out HG10.out (.inr (fun e => need_apart NE9.out O9.out e.symm))
            refine ⟨⟨k + 1, .slice va (M.length + 1) vc, _, rfl, by omega, bx10, ?_, HN10.out, fun j hj hjk => ?_, b10⟩, by simp [intOf]; omega⟩
            · rw [HTK.out, HM.out]; exact op10
            · by_cases e : j = k
              · subst e
                refine ⟨kl, ?_, ?_⟩
                · rw [HX.out]; exact HKL.out
                · rw [updV_same (law44.key HKL.out), HX.out]; exact HNI.out
              · obtain ⟨kj, q1, q2⟩ := HKE.out j hj (by omega)
                refine ⟨kj, q1, ?_⟩
                rw [updV_other (fun e2 => ?_)]
                · exact q2
                · subst e2
                  have := law44.inj q1 HKL.out
                  simp only [pkVal, Value.agg.injEq] at this
                  refine HAP.out j hj (by omega) ?_
                  simp at this
                  simp [relPk] at this ⊢
                  exact this
          · obtain rfl : k = l.length := by omega
            have hkn' : ¬ ((l.length : Int) < (l.length : Int)) := by omega
            rw [List.take_length] at hop
            have cs := implSortTwo hop hs3 (by simp; omega)
            obtain ⟨ra, rc, hrv, _⟩ := hop.value
            rw [List.length_map] at hrv
            subst hrv
            have e0 := hbx.cell 0
            simp at e0
            have HBX : Hid _ := hbx
            have HOP : Hid _ := hop
            have HNE : Hid _ := hne
            have HKE : Hid _ := hkeys
            clear hbx hop hne hkeys
            go_wp2_with (go_at_call 59; go_must (refine cs.mono ?_; rintro e w5 ⟨rfl, ⟨R, hso, hoR⟩, ⟨w6, hb6, hgr⟩, hb5⟩; have bx5 := (Blk.below HBX.out hb6).kept hgr (row_blk (by decide) (OwnP.below HOP.out hb6) (Blk.below HBX.out hb6)); have m0 := bx5.cell 0; have m1 := bx5.cell 1; have m2 := bx5.cell 2; simp at m0 m1 m2; have hb35 := hb.trans hb5; have q5 : Blk w5 w.heap.size 68 #[.slice none 0 0, .map none, .slice none 0 0] := (hb35.block w.heap.size hlt3).trans Q1.out; have r0 := q5.cell 0; have r1 := q5.cell 1; have r2 := q5.cell 2; have f0 := q5.fro 0; have f1 := q5.fro 1; have f2 := q5.fro 2; simp at r0 r1 r2; have Q5 : Hid _ := q5; have HSO : Hid _ := hso; have HOR : Hid _ := hoR; have HGR : Hid _ := hgr; clear q5 bx5 hso hoR hgr))
            have s0 := Blk.set Q5.out 0 (.slice ra l.length rc)
            have s1 := Blk.set s0 1 (.map (some w3.heap.size))
            have s2 := Blk.set s1 2 (.slice ua ws.length uc)
            have t0 := s2.cell 0
            have t1 := s2.cell 1
            have t2 := s2.cell 2
            simp at t0 t1 t2
            have g0 := set_grown w5 w.heap.size 0 (.slice ra l.length rc)
            have g1 := set_grown (w5.setCell ⟨w.heap.size, 0, none⟩ (.slice ra l.length rc)) w.heap.size 1 (.map (some w3.heap.size))
            have g2 := set_grown ((w5.setCell ⟨w.heap.size, 0, none⟩ (.slice ra l.length rc)).setCell ⟨w.heap.size, 1, none⟩ (.map (some w3.heap.size))) w.heap.size 2 (.slice ua ws.length uc)
            have hb5w := good_below hbw3 hb35
            have hbF := ((hb5w.setCell (p := ⟨w.heap.size, 0, none⟩) (Nat.le_refl _) (.slice ra l.length rc)).setCell (p := ⟨w.heap.size, 1, none⟩) (Nat.le_refl _) (.map (some w3.heap.size))).setCell (p := ⟨w.heap.size, 2, none⟩) (Nat.le_refl _) (.slice ua ws.length uc)
            have n5 := ((NeedsAt.below HNE.out hb6).kept HGR.out (need_apart (NeedsAt.below HNE.out hb6) (OwnP.below HOP.out hb6)))
            have hnw : some w3.heap.size ≠ some w.heap.size := by simp; omega
            have nF := ((n5.kept g0 hnw).kept g1 hnw).kept g2 hnw
            have o0 := OwnP.kept HOR.out g0 (.inr (fun e => row_blk (by decide) HOR.out Q5.out e.symm))
            have o1 := OwnP.kept o0 g1 (.inr (fun e => row_blk (by decide) o0 s0 e.symm))
            have o2 := OwnP.kept o1 g2 (.inr (fun e => row_blk (by decide) o1 s1 e.symm))
            refine bodyPost_ret (v := .tuple #[.agg #[.slice ra l.length rc, .map (some w3.heap.size), .slice ua ws.length uc], .int .i64 0]) (by rw [results_cell_tmp Tryz.results35]; simp [go_sem, t0, t1, t2]) rfl ⟨⟨_, rfl, .inr ⟨HC.out, R, ⟨_, _, _, f, _, rfl, OwnP.mono o2 (Nat.le_of_lt hlt3), nF, HI.out.keep (cells_below HS.out hbF), fun p hp => ?_⟩, ⟨HSO.out.perm, HSO.out.rises, needsOf_eq HST.out⟩⟩⟩, hbF⟩
            obtain ⟨r, hr, rfl⟩ := List.mem_map.1 (HSO.out.perm.mem_iff.1 hp)
            obtain ⟨j, hj, rfl⟩ := List.getElem_of_mem hr
            obtain ⟨kl, q1, q2⟩ := HKE.out j hj hj
            refine ⟨kl, q1, ?_⟩
            rw [needsOf_eq HST.out _ hr]
            exact q2.keep (cells_below HS.out hbF)
end Go.Proofs.YthgjdcomanabiaaGreatDoor

namespace Go.Proofs.YthgjdcomanabiaaGreatDoor
open Go.ChangeShapes Go.WideShapes Go.ChangeAt Go.RowKit
set_option linter.unusedVariables false

def lastUp (R : List Pk) (nm : ByteArray) (lim : Int) (k : Nat) : Int := lastV (R.take k) nm lim
theorem lastUp_succ {R : List Pk} {nm : ByteArray} {lim : Int} {k : Nat} (hk : k < R.length) : lastUp R nm lim (k + 1) = if R[k].name = nm ∧ R[k].ver ≤ lim then R[k].ver else lastUp R nm lim k := by
  unfold lastUp lastV
  rw [List.take_succ_eq_append_getElem hk, List.foldl_append]
  rfl
set_option maxRecDepth 100000 in
set_option maxHeartbeats 4000000 in
theorem implLast {S : Nat → Prop} {B : Nat} {w : World} {sv : Value} {R : List Pk} {nf : Pk → List Imp} {ws : List Imp} (h : ShelfAt S B w sv R nf ws) (hRl : R.length ≤ 1000000) (nm : ByteArray) (lim : Int) :
    Calls Tryz.prog 51 #[sv, .string nm, .int .i64 lim] w fun e w' => e = .returned (.int .i64 (lastV R nm lim)) ∧ Below w.heap.size w w' := by
  obtain ⟨rv, mb, wv, f, n, rfl, h2, h3, h4, h5⟩ := h
  obtain ⟨ra, rc, hrv, hrc⟩ := h2.value
  obtain ⟨wa, wc, hwv⟩ := h4.shape
  subst hrv hwv
  have HRC : Hid _ := hrc
  have hRl' : (R.length : Int) ≤ 1000000 := by omega
  have hbA : Below w.heap.size w (w.alloc (.cells #[.slice ra R.length rc, .map (some mb), .slice wa ws.length wc] 68)) := (Below.refl _ w).alloc (Nat.le_refl _) _
  clear hrc h2 h3 h4 h5
  obtain ⟨L, hL⟩ : ∃ L, lastV R nm lim = L := ⟨_, rfl⟩
  have HL : Hid (lastV R nm lim = L) := hL
  rw [hL]
  clear hL
  go_enter Tryz.func51, Tryz.ntmps51
  go_wp2_with fail
  go_loopw [7, 13] (fun i7 i13 wr => ∃ (k : Nat), i7 = .int .i64 (lastUp R nm lim k) ∧ i13 = .int .i64 (k : Int) ∧ k ≤ R.length ∧ Below w.heap.size w wr) (fun _ i13 _ => R.length - (intOf i13).toNat)
  case atStart => exact ⟨0, by simp [lastUp, lastV], rfl, by omega, hbA⟩
  case round =>
    obtain ⟨k, rfl, rfl, hk, hb⟩ := hrel
    by_cases hkn : k < R.length
    · have hkn' : (k : Int) < (R.length : Int) := by omega
      obtain ⟨g, rfl, hcell⟩ := HRC.out (by omega)
      obtain ⟨x1, x2⟩ := hcell k hkn
      have hgw := cell_lt' x1
      have d1 := (hb.cell (p := ⟨g, k * 2, none⟩) hgw).trans x1
      have d2 := (hb.cell (p := ⟨g, k * 2 + 1, none⟩) hgw).trans x2
      have hus := lastUp_succ (nm := nm) (lim := lim) hkn
      obtain ⟨V, hV⟩ : ∃ V, lastUp R nm lim k = V := ⟨_, rfl⟩
      rw [hV] at hus ⊢
      obtain ⟨x, hx⟩ : ∃ x, R[k] = x := ⟨_, rfl⟩
      rw [hx] at d1 d2 hus
      clear hx hcell x1 x2 hV
      obtain ⟨xn, xv⟩ := x
      dsimp only at d1 d2 hus
      have HUS : Hid _ := hus
      clear hus
      have bA := hb.alloc hb.size (.cells #[.string xn, .int .i64 xv] 74)
      cases hne : xn.toList == nm.toList
      · go_wp2_with fail
        refine ⟨⟨k + 1, ?_, rfl, by omega, bA⟩, by simp [intOf]; omega⟩
        rw [HUS.out, if_neg (fun h => by rw [beq_bytes] at hne; simp at hne; exact hne h.1)]
      · by_cases hle : xv ≤ lim
        · go_wp2_with fail
          refine ⟨⟨k + 1, ?_, rfl, by omega, bA⟩, by simp [intOf]; omega⟩
          rw [HUS.out, if_pos ⟨by rw [beq_bytes] at hne; simpa using hne, hle⟩]
        · go_wp2_with fail
          refine ⟨⟨k + 1, ?_, rfl, by omega, bA⟩, by simp [intOf]; omega⟩
          rw [HUS.out, if_neg (fun h => hle h.2)]
    · obtain rfl : k = R.length := by omega
      have hkn' : ¬ ((R.length : Int) < (R.length : Int)) := by omega
      have hlast : lastUp R nm lim R.length = L := by rw [← HL.out]; unfold lastUp; rw [List.take_length]
      rw [hlast]
      go_wp2_with fail
      go_ret
      exact ⟨rfl, hb⟩

theorem pkCells_set {l : List Pk} {k : Nat} (hk : k < l.length) (v : Int) : pkCells (l.set k ⟨l[k].name, v⟩) = (pkCells l).set (k * 2 + 1) (.int .i64 v) := by
  induction l generalizing k with
  | nil => simp at hk
  | cons a r ih =>
    cases k with
    | zero => simp [pkCells, Pk.cells]
    | succ k =>
      have hk' : k < r.length := by simpa using hk
      have := ih hk'
      simp only [List.set_cons_succ, List.getElem_cons_succ]
      unfold pkCells at this ⊢
      rw [List.flatMap_cons, List.flatMap_cons, this]
      simp only [Pk.cells, List.cons_append, List.nil_append]
      rw [show (k + 1) * 2 + 1 = (k * 2 + 1) + 1 + 1 by omega, List.set_cons_succ, List.set_cons_succ]
theorem OwnP.set {B g n cap : Nat} {w : World} {l : List Pk} (h : OwnP B w (.slice (some ⟨g, 0, none⟩) n cap) l) {k : Nat} (hk : k < l.length) (v : Int) : OwnP B (w.setCell ⟨g, k * 2 + 1, none⟩ (.int .i64 v)) (.slice (some ⟨g, 0, none⟩) n cap) (l.set k ⟨l[k].name, v⟩) := by
  obtain ⟨hl, h⟩ := h
  rcases h with ⟨hv, _⟩ | ⟨g', cap', cur, hv, hB, hg, h1, h2, h3, h4⟩
  · simp at hv
  · simp only [Value.slice.injEq, Option.some.injEq, Addr.mk.injEq, and_true] at hv
    obtain ⟨rfl, rfl, rfl⟩ := hv
    have hb : Blk w g 74 cur := hg
    refine ⟨?_, .inr ⟨g, cap, _, by simp, hB, hb.set (k * 2 + 1) (.int .i64 v), by simpa using h1, h2, by simpa using h3, ?_⟩⟩
    · rw [pkCells_set hk, List.length_set, List.length_set, hl]
    · rw [pkCells_set hk, ← h4, List.length_set]
      rw [Array.toList_setIfInBounds, List.take_set]

/-- The limits so far: of picked names from the greatest version on, of others from 0. -/
def Lims (f : Lit → Int) (P : List Pk) (CL : List Cl) : Prop := ∀ t, f (textKey t) = limF CL (if hasB (P.map Pk.name) t then 999999 else 0) t
theorem Lims.start {f : Lit → Int} (h : ∀ kl, f kl = 0) : Lims f [] [] := fun t => by rw [h]; simp [limF, hasB]
theorem Lims.pick {f : Lit → Int} {P : List Pk} (h : Lims f P []) (p : Pk) : Lims (upd f (textKey p.name) 999999) (P ++ [p]) [] := by
  intro t
  by_cases e : p.name = t
  · subst e; rw [upd_same (by exact trivial), List.map_append, List.map_cons, List.map_nil, hasB_snoc]; simp [limF]
  · rw [upd_other (fun h => e (textKey_inj h).symm), h t, List.map_append, List.map_cons, List.map_nil, hasB_snoc]
    simp [limF, e]
theorem Lims.claim {f : Lit → Int} {P : List Pk} {CL : List Cl} (h : Lims f P CL) (c : Cl) : Lims (upd f (textKey c.need.name) (min (f (textKey c.need.name)) c.need.mx)) P (CL ++ [c]) := by
  intro t
  unfold limF
  rw [List.foldl_append]
  simp only [List.foldl_cons, List.foldl_nil]
  by_cases e : c.need.name = t
  · subst e; rw [upd_same (by exact trivial), if_pos rfl, h]; rfl
  · rw [upd_other (fun h => e (textKey_inj h).symm), if_neg e, h t]; rfl
theorem Lims.bound {f : Lit → Int} {P : List Pk} {CL : List Cl} (h : Lims f P CL) (hm : ∀ c ∈ CL, 0 ≤ c.need.mx) (t : ByteArray) : 0 ≤ f (textKey t) ∧ f (textKey t) ≤ 999999 := by
  rw [h t]
  unfold limF
  have h1 := (limF_le t CL (if hasB (P.map Pk.name) t then 999999 else 0) 0).2 ⟨by split <;> omega, fun c hc _ => hm c hc⟩
  have h2 := ((limF_le t CL (if hasB (P.map Pk.name) t then 999999 else 0) _).1 (Int.le_refl _)).1
  refine ⟨h1, Int.le_trans h2 ?_⟩
  split <;> omega
end Go.Proofs.YthgjdcomanabiaaGreatDoor

namespace Go.Proofs.YthgjdcomanabiaaGreatDoor
open Go.ChangeShapes Go.WideShapes Go.ChangeAt Go.RowKit
set_option linter.unusedVariables false

theorem same_good {l : List Rel} {R : List Pk} {ws : List Imp} (h : storeB nameOK l = true) (hs : Same l R (needsOf l)) (hw : ws.length ≤ 21) : Good R (needsOf l) ws where
  len := by rw [hs.perm.length_eq, List.length_map]; exact (store_rel h).1
  sort := hs.rises
  needs := fun p hp => by
    obtain ⟨r, hr, rfl⟩ := (hs.mem p).1 hp
    rw [hs.needs r hr]
    exact (store_needs h).2 r hr
  wish := hw
theorem code_zero {l : List Rel} {ws : List Imp} (h : codeB nameOK l ws = 0) : storeB nameOK l = true ∧ wishesB nameOK ws = true := by
  unfold codeB at h
  split at h
  · omega
  · cases hs : storeB nameOK l <;> cases hw : wishesB nameOK ws <;> rw [hs, hw] at h <;> simp at h ⊢
theorem claims_pos {l : List Rel} {R : List Pk} {nf : Pk → List Imp} {ws : List Imp} (hf : Fine l ws) (hs : Same l R nf) : ∀ c ∈ claimsOf nf ws (picksOf l (pickedOf l ws)), 0 ≤ c.need.mx := by
  intro c hc
  unfold claimsOf at hc
  rcases List.mem_append.1 hc with h | h
  · obtain ⟨m, hm, rfl⟩ := List.mem_map.1 h
    exact (hf.wish m hm).1
  · obtain ⟨p, hp, h⟩ := List.mem_flatMap.1 h
    obtain ⟨m, hm, rfl⟩ := List.mem_map.1 h
    obtain ⟨r, hr, he⟩ := (hs.mem p).1 (picks_in hs p hp)
    rw [← he, hs.needs r hr] at hm
    exact (hf.need r hr m hm).1
/-- Where the code is 0 the choice is what is picked. -/
theorem choice_ok {l : List Rel} {ws : List Imp} (h : (choiceOf l ws).2.1 = 0) : (choiceOf l ws).1 = pickedOf l ws := by
  unfold choiceOf finish at h ⊢
  by_cases hL : lostOf l ws ≠ []
  · rw [if_pos hL] at h; simp at h
  · rw [if_neg hL] at h ⊢
    cases ho : overB (picksOf l (pickedOf l ws)) ws with
    | some t => rw [ho] at h; simp at h
    | none =>
      rw [ho] at h
      dsimp only at h ⊢
      cases hf : firstOver l (picksOf l (pickedOf l ws)) (pickedOf l ws) with
      | some at' => rw [hf] at h; obtain ⟨a, t⟩ := at'; simp at h
      | none => rfl

/-- A map's block has no cells. -/
theorem counts_cell {w : World} {K : TypeId} {B n g i : Nat} {f : Lit → Int} {v : Value} (h : Counts w K B n f) (hc : w.cell? ⟨g, i, none⟩ = some v) : g ≠ B := by
  intro e
  subst e
  obtain ⟨D, ⟨es, clock, hbk, _⟩, _⟩ := h
  simp [World.cell?, hbk] at hc
theorem Counts.kept {w w' : World} {K : TypeId} {B n : Nat} {f : Lit → Int} {row : Option Nat} (h : Counts w K B n f) (hg : w.grownBy w' row) (hne : some B ≠ row) : Counts w' K B n f := by
  obtain ⟨D, h, hf⟩ := h; exact ⟨D, h.kept hg hne, hf⟩
theorem newest_map (l : List Rel) (NS : List Nat) (ws : List Imp) : newestOf l NS ws = (picksOf l NS).map fun p => ⟨p.name, newestV l (allNeeds l NS ws) p.name⟩ := by
  unfold newestOf picksOf
  rw [List.map_map]
  rfl

set_option maxRecDepth 100000 in
set_option maxHeartbeats 4000000 in
theorem implNewest : NewestC 25 (Lib.Utf8Tabs 0 1) newestF := by
  intro S l ws v u w hS h h2 hl hok hwl hwok hT
  have c27 := implShelf hS h h2 hl hok hwl hwok hT
  obtain ⟨la, lc, hv⟩ := h.shape
  obtain ⟨ua, uc, hu⟩ := h2.shape
  subst hv hu
  have HS : Hid _ := hS
  have HOK : Hid _ := hok
  have HWOK : Hid _ := hwok
  obtain ⟨C, hC⟩ : ∃ C, newestF l ws = C := ⟨_, rfl⟩
  rw [hC]
  have HC : Hid (newestF l ws = C) := hC
  obtain ⟨c, hc⟩ : ∃ c, codeB nameOK l ws = c := ⟨_, rfl⟩
  rw [hc] at c27
  have HCD : Hid (codeB nameOK l ws = c) := hc
  clear hC hc h h2 hS hok hwok hT
  by_cases h0 : c = 0
  · subst h0
    obtain ⟨hst, hwi⟩ := code_zero HCD.out
    have hCC : C = if (choiceOf l ws).2.1 = 0 then (newestOf l (choiceOf l ws).1 ws, 0) else ([], (choiceOf l ws).2.1) := by rw [← HC.out]; unfold newestF; rw [if_pos HCD.out]
    have HCC : Hid _ := hCC
    have HST : Hid _ := hst
    have HWI : Hid _ := hwi
    have hmm := @run_makeMap Tryz.prog
    clear hst hwi hCC
    go_enter Tryz.func25, Tryz.ntmps25
    go_upto_region 5 with (first
      | (go_at_call 35; go_must (refine c27.mono ?_; rintro e w1 ⟨⟨sv, rfl, hout⟩, hb1⟩; obtain ⟨R, hsh, hsame⟩ := hout.elim (fun hx => absurd HCD.out hx.1) (fun hh => hh.2); have hfine := store_fine (ws := ws) HST.out HOK.out (fun m hm => ⟨(wishes_fine HWI.out).2 m hm, by have := HWOK.out m hm; unfold ImpOK at this; omega⟩) (by have := (wishes_fine HWI.out).1; omega); have hgood := same_good HST.out hsame (ws := ws) (by have := (wishes_fine HWI.out).1; omega); obtain ⟨rv, mb, wv, f, n, hsv, q2, q3, q4, q5⟩ := hsh; have HSH : Hid (ShelfAt S w.heap.size w1 sv R (needsOf l) ws) := (show ShelfAt S w.heap.size w1 sv R (needsOf l) ws from ⟨rv, mb, wv, f, n, hsv, q2, q3, q4, q5⟩); obtain ⟨ra, rc, hrv, _⟩ := q2.value; obtain ⟨wa, wc, hwv⟩ := q4.shape; subst hrv hwv; subst hsv; have cch := implChoice (w := w1.alloc (.cells #[.slice ra R.length rc, .map (some mb), .slice wa ws.length wc] 68)) (fun b hb => Nat.lt_of_lt_of_le (HS.out b hb) (Nat.le_trans hb1.size (by simp))) (ShelfAt.below HSH.out (fun b hb => Nat.lt_of_lt_of_le (HS.out b hb) hb1.size) ((Below.refl _ w1).alloc (Nat.le_refl _) _)) hgood hsame hfine; have HFI : Hid _ := hfine; have HGO : Hid _ := hgood; have HSA : Hid _ := hsame; clear hfine hgood hsame q2 q3 q4 q5))
      | (go_at_call 36; go_must (refine cch.mono ?_; rintro e w2 ⟨⟨p, q, rfl, hop, hos⟩, hb2⟩; clear hos)))
    have bA : Below w1.heap.size w1 (w1.alloc (.cells #[.slice ra R.length rc, .map (some mb), .slice wa ws.length wc] 68)) := (Below.refl _ w1).alloc (Nat.le_refl _) _
    have hb12 := good_below bA hb2
    have hbw2 := good_below hb1 hb12
    have hbxA : Blk (w1.alloc (.cells #[.slice ra R.length rc, .map (some mb), .slice wa ws.length wc] 68)) w1.heap.size 68 #[.slice ra R.length rc, .map (some mb), .slice wa ws.length wc] := heap_alloc_last w1 _
    have hbx := hbxA.below hb2
    obtain ⟨cc, hcc⟩ : ∃ cc, (choiceOf l ws).2.1 = cc := ⟨_, rfl⟩
    have hCC := HCC.out
    rw [hcc] at hCC ⊢
    by_cases hcc0 : cc = 0
    · rw [if_pos hcc0] at hCC
      have hch := choice_ok (hcc.trans hcc0)
      rw [hch] at hop hCC
      subst hcc0
      subst hCC
      obtain ⟨P, hP⟩ : ∃ P, picksOf l (pickedOf l ws) = P := ⟨_, rfl⟩
      rw [hP] at hop
      have hPf := picks_fine HFI.out
      have hPl := Nat.le_trans (picks_len l ws) HFI.out.len
      have hPin := picks_in (ws := ws) HSA.out
      have hcz := claims_sz HFI.out HSA.out
      have hcp := claims_pos HFI.out HSA.out
      rw [hP] at hPf hPl hPin hcz hcp
      have cC := fun (W : World) (hW : Below w1.heap.size w1 W) (pv : Value) (Bp : Nat) (hop : OwnP Bp W pv P) => implClaims (w := W) (fun b hb => Nat.lt_of_lt_of_le (HS.out b hb) (Nat.le_trans hb1.size hW.size)) (ShelfAt.below HSH.out (fun b hb => Nat.lt_of_lt_of_le (HS.out b hb) hb1.size) hW) HGO.out hop hPin hPl
      have cL := fun (W : World) (hW : Below w1.heap.size w1 W) (nm : ByteArray) (lim : Int) => implLast (w := W) (ShelfAt.below HSH.out (fun b hb => Nat.lt_of_lt_of_le (HS.out b hb) hb1.size) hW) (by have := HGO.out.len; omega) nm lim
      have hclen := claims_len (nf := needsOf l) HGO.out.wish HGO.out.needs hPin P.length (Nat.le_refl _)
      rw [List.take_length] at hclen
      obtain ⟨pa, pc, hpv, hpc⟩ := hop.value
      subst hpv
      have HOP : Hid (OwnP (w1.alloc (.cells #[.slice ra R.length rc, .map (some mb), .slice wa ws.length wc] 68)).heap.size w2 (.slice pa P.length pc) P) := hop
      have HPC : Hid _ := hpc
      have HPF : Hid _ := hPf
      have HCZ : Hid _ := hcz
      have HCP : Hid _ := hcp
      have HCCL : Hid _ := cC
      have HCL : Hid _ := cL
      have HPP : Hid _ := hP
      have HCLE : Hid _ := hclen
      have HBX : Hid (Blk w2 w1.heap.size 68 #[.slice ra R.length rc, .map (some mb), .slice wa ws.length wc]) := hbx
      have hPl' : (P.length : Int) ≤ 200 := by omega
      have hb2M : Below w2.heap.size w2 (w2.alloc (.map #[] 0)) := (Below.refl _ w2).alloc (Nat.le_refl _) _
      clear hop hpc hPf hcz hcp cC cL hP hbx hbxA hclen hcc hch cch c27 hPin
      go_wp2_with fail
      go_loopw [38] (fun i38 wr => ∃ (k : Nat) (f : Lit → Int), i38 = .int .i64 (k : Int) ∧ k ≤ P.length ∧ Counts wr 9 w2.heap.size k f ∧ Lims f (P.take k) [] ∧ Below w2.heap.size w2 wr) (fun i38 _ => P.length - (intOf i38).toNat)
      case atStart => exact ⟨0, _, rfl, by omega, Counts.made _ _, by simpa using Lims.start (fun _ => rfl), hb2M⟩
      case round =>
        obtain ⟨k, f, rfl, hk, hcn, hli, hb⟩ := hrel
        have hb1r := good_below hb12 hb
        by_cases hkn : k < P.length
        · have hkn' : (k : Int) < (P.length : Int) := by omega
          obtain ⟨g, rfl, hcell⟩ := HPC.out (by omega)
          obtain ⟨x1, x2⟩ := hcell k hkn
          have hgw := cell_lt' x1
          have d1 := (hb.cell (p := ⟨g, k * 2, none⟩) hgw).trans x1
          have d2 := (hb.cell (p := ⟨g, k * 2 + 1, none⟩) hgw).trans x2
          have hz := (HPF.out P[k] (List.getElem_mem hkn)).2.1
          have htk : P.take (k + 1) = P.take k ++ [P[k]] := List.take_succ_eq_append_getElem hkn
          obtain ⟨x, hx⟩ : ∃ x, P[k] = x := ⟨_, rfl⟩
          rw [hx] at d1 d2 hz htk
          clear hx hcell x1 x2
          obtain ⟨xn, xv⟩ := x
          dsimp only at d1 d2 hz
          have hkey : keyOf Tryz.prog 9 (.string xn) = some (textKey xn) := key9 (by simp [maxLen]; omega)
          have bB : Below wr.heap.size wr (wr.alloc (.cells #[.string xn, .int .i64 xv] 74)) := (Below.refl _ wr).alloc (Nat.le_refl _) _
          have HCN : Hid (Counts (wr.alloc (.cells #[.string xn, .int .i64 xv] 74)) 9 w2.heap.size k f) := hcn.below bB
          have HLI : Hid _ := hli
          have HTK : Hid _ := htk
          have HKY : Hid _ := hkey
          have hbB := good_below hb bB
          clear hcn hli htk hkey
          go_wp2_with (first
            | (at_mapUpdate; go_must (refine wpList_storeC _ rfl _ _ _ 90 rfl 9 law9 Tryz.underlying90 w2.heap.size k f rfl HCN.out (by simp [maxLen]; omega) _ 999999 _ rfl rfl HKY.out (by decide) ?_; intro w3 hc3 hg3; have HC3 : Hid _ := hc3; clear hc3)))
          have hbb := hbB.grown hg3 hbB.size (fun j hj => by cases hj; exact Nat.le_refl _)
          refine ⟨⟨k + 1, _, rfl, by omega, HC3.out, ?_, hbb⟩, by simp [intOf]; omega⟩
          rw [HTK.out]; exact Lims.pick HLI.out ⟨xn, xv⟩
        · obtain rfl : k = P.length := by omega
          have hkn' : ¬ ((P.length : Int) < (P.length : Int)) := by omega
          rw [List.take_length] at hli
          have bx3 := Blk.below HBX.out hb
          have e0 := bx3.cell 0
          have e1 := bx3.cell 1
          have e2 := bx3.cell 2
          simp at e0 e1 e2
          have cc := HCCL.out wr hb1r _ _ (OwnP.below HOP.out hb)
          have HCN : Hid (Counts wr 9 w2.heap.size P.length f) := hcn
          have HLI : Hid _ := hli
          clear hcn hli bx3
          go_wp2_with (go_at_call 50; go_must (refine cc.mono ?_; rintro e w5 ⟨⟨q5, CL, rfl, hso, hoC⟩, hb5⟩; obtain ⟨ca, cc5, hv5, hcc⟩ := hoC.value; subst hv5))
          have hb25 := good_below hb hb5
          have HC5 : Hid (Counts w5 9 w2.heap.size P.length f) := Counts.below HCN.out hb5
          have hCLl : CL.length ≤ 5000 := by rw [hso.perm.length_eq]; have := HCLE.out; omega
          have hCLl' : (CL.length : Int) ≤ 5000 := by omega
          have hcz : ∀ c ∈ CL, c.need.name.size ≤ 1048576 ∧ 0 ≤ c.need.mx := fun c hc => ⟨(HCZ.out c (hso.perm.mem_iff.1 hc)).2, HCP.out c (hso.perm.mem_iff.1 hc)⟩
          have HCZ2 : Hid _ := hcz
          have HSO : Hid _ := hso
          have HCC2 : Hid _ := hcc
          clear hso hoC hcc hcz
          have HLI2 : Hid (Lims f P []) := (show Lims f P [] from HLI.out)
          have hmb : w2.heap.size < w5.heap.size := Counts.lt HC5.out
          go_loopw [50] (fun i50 wr => ∃ (k : Nat) (f : Lit → Int), i50 = .int .i64 (k : Int) ∧ k ≤ CL.length ∧ Counts wr 9 w2.heap.size (P.length + k) f ∧ Lims f P (CL.take k) ∧ Below w2.heap.size w2 wr ∧ (∀ g, g < w5.heap.size → g ≠ w2.heap.size → wr.heap[g]? = w5.heap[g]?)) (fun i50 _ => CL.length - (intOf i50).toNat)
          case atStart => exact ⟨0, f, rfl, by omega, HC5.out, HLI2.out, hb25, fun _ _ _ => rfl⟩
          case round =>
            obtain ⟨k, f2, rfl, hk2, hcn, hli, hbr, hke⟩ := hrel
            by_cases hkn : k < CL.length
            · have hkn2 : (k : Int) < (CL.length : Int) := by omega
              obtain ⟨g, rfl, _, hgw, hcell⟩ := HCC2.out (by omega)
              obtain ⟨x1, x2, x3, x4⟩ := hcell k hkn
              have hgn := counts_cell HC5.out x1
              have hgh := hke g hgw hgn
              have d1 : wr.cell? ⟨g, k * 4, none⟩ = _ := (by simp only [World.cell?, hgh] : _ = w5.cell? ⟨g, k * 4, none⟩).trans x1
              have d2 : wr.cell? ⟨g, k * 4 + 1, none⟩ = _ := (by simp only [World.cell?, hgh] : _ = w5.cell? ⟨g, k * 4 + 1, none⟩).trans x2
              have d3 : wr.cell? ⟨g, k * 4 + 2, none⟩ = _ := (by simp only [World.cell?, hgh] : _ = w5.cell? ⟨g, k * 4 + 2, none⟩).trans x3
              have d4 : wr.cell? ⟨g, k * 4 + 3, none⟩ = _ := (by simp only [World.cell?, hgh] : _ = w5.cell? ⟨g, k * 4 + 3, none⟩).trans x4
              have hz := HCZ2.out CL[k] (List.getElem_mem hkn)
              have htk : CL.take (k + 1) = CL.take k ++ [CL[k]] := List.take_succ_eq_append_getElem hkn
              obtain ⟨x, hx⟩ : ∃ x, CL[k] = x := ⟨_, rfl⟩
              rw [hx] at d1 d2 d3 d4 hz htk
              clear hx hcell x1 x2 x3 x4 hgh
              obtain ⟨ow, nm, mn, mx⟩ := x
              dsimp only at d1 d2 d3 d4 hz
              obtain ⟨hz1, hz2⟩ := hz
              have hkey : keyOf Tryz.prog 9 (.string nm) = some (textKey nm) := key9 (by simp [maxLen]; omega)
              have bB : Below wr.heap.size wr (wr.alloc (.cells #[.string ow, .string nm, .int .i64 mn, .int .i64 mx] 94)) := (Below.refl _ wr).alloc (Nat.le_refl _) _
              have HCN2 : Hid (Counts (wr.alloc (.cells #[.string ow, .string nm, .int .i64 mn, .int .i64 mx] 94)) 9 w2.heap.size (P.length + k) f2) := hcn.below bB
              have hlk := (Counts.look HCN2.out law9 Tryz.underlying90 hkey).1
              have hfb := Lims.bound hli (fun c hc => (HCZ2.out c (List.mem_of_mem_take hc)).2) nm
              have hlc := Lims.claim hli ⟨ow, ⟨nm, mn, mx⟩⟩
              dsimp only at hlc
              obtain ⟨V, hV⟩ : ∃ V, f2 (textKey nm) = V := ⟨_, rfl⟩
              rw [hV] at hlk hfb hlc
              have HLC : Hid _ := hlc
              have HTK : Hid _ := htk
              have HKY : Hid _ := hkey
              have HKE : Hid _ := hke
              have hbB := good_below hbr bB
              clear hcn hli htk hkey hlc hV hke
              go_wp2_with (first
                | (at_mapUpdate; go_must (refine wpList_storeC _ rfl _ _ _ 90 rfl 9 law9 Tryz.underlying90 w2.heap.size (P.length + k) f2 rfl HCN2.out (by simp [maxLen]; omega) _ (min V mx) _ rfl rfl HKY.out (WalkArith.wf_i64 (by omega)) ?_; intro w6 hc6 hg6; have HC6 : Hid _ := hc6; clear hc6)))
              have hbb := hbB.grown hg6 hbB.size (fun j hj => by cases hj; exact Nat.le_refl _)
              refine ⟨⟨k + 1, _, rfl, by omega, HC6.out, ?_, hbb, fun g' h1 h2 => ?_⟩, by simp [intOf]; omega⟩
              · rw [HTK.out]; exact HLC.out
              · have hg'r : g' < wr.heap.size := by
                  have e := HKE.out g' h1 h2
                  rw [Array.getElem?_eq_getElem h1] at e
                  exact (Array.getElem?_eq_some_iff.1 e).1
                rw [hg6.block g' (Nat.lt_of_lt_of_le hg'r bB.size) (by simpa using h2), bB.block g' hg'r]
                exact HKE.out g' h1 h2
            · obtain rfl : k = CL.length := by omega
              have hkn2 : ¬ ((CL.length : Int) < (CL.length : Int)) := by omega
              rw [List.take_length] at hli
              have hbx6 : Blk wr w1.heap.size 68 #[.slice ra R.length rc, .map (some mb), .slice wa ws.length wc] := Blk.below HBX.out hbr
              have hop6 : OwnP (w1.heap.size + 1) wr (.slice pa P.length pc) P := by
                have := OwnP.below HOP.out hbr
                rwa [World.size_alloc] at this
              have hX : ∀ nm, nm ∈ P.map Pk.name → lastV R nm (f2 (textKey nm)) = newestV l (allNeeds l (pickedOf l ws) ws) nm := fun nm hnm => by
                have e1 : f2 (textKey nm) = limF CL 999999 nm := by rw [hli nm, (hasB_mem _ _).2 hnm]; rfl
                rw [e1]
                have hso := HSO.out
                rw [← HPP.out] at hso
                exact newest_same HSA.out (fun r hr => (HFI.out.rel r hr).2.2) (fun n hn => best_lt (marks_len l ws) n hn) hso nm
              have hb16 := good_below hb12 hbr
              have HX : Hid _ := hX
              have HBX6 : Hid _ := hbx6
              have HOP6 : Hid _ := hop6
              have HCN6 : Hid (Counts wr 9 w2.heap.size (P.length + CL.length) f2) := hcn
              clear hX hli hke hbx6 hop6 hcn
              go_wp2_with fail
              go_loopw [70] (fun i70 wr => ∃ (k : Nat) (l' : List Pk), i70 = .int .i64 (k : Int) ∧ k ≤ P.length ∧ OwnP (w1.heap.size + 1) wr (.slice pa P.length pc) l' ∧ l'.length = P.length ∧ (∀ j, j < k → l'[j]? = (P[j]?).map fun p => ⟨p.name, newestV l (allNeeds l (pickedOf l ws) ws) p.name⟩) ∧ (∀ j, k ≤ j → l'[j]? = P[j]?) ∧ Counts wr 9 w2.heap.size (P.length + CL.length) f2 ∧ Blk wr w1.heap.size 68 #[.slice ra R.length rc, .map (some mb), .slice wa ws.length wc] ∧ Below w1.heap.size w1 wr) (fun i70 _ => P.length - (intOf i70).toNat)
              case atStart => exact ⟨0, P, rfl, by omega, HOP6.out, rfl, fun j h => by omega, fun j _ => rfl, HCN6.out, HBX6.out, hb16⟩
              case round =>
                obtain ⟨k, l', rfl, hk7, hop7, hl7, hlo7, hhi7, hcn7, hbx7, hb7⟩ := hrel
                by_cases hkn7 : k < P.length
                · have hkn7' : (k : Int) < (P.length : Int) := by omega
                  have hkl : k < l'.length := by omega
                  have hat : l'[k] = P[k] := by
                    have e := hhi7 k (Nat.le_refl _)
                    rw [List.getElem?_eq_getElem hkl, List.getElem?_eq_getElem hkn7] at e
                    exact Option.some.inj e
                  have hnmP : P[k].name ∈ P.map Pk.name := List.mem_map.2 ⟨_, List.getElem_mem hkn7, rfl⟩
                  obtain ⟨a7, c7, hv7, hc7⟩ := hop7.value
                  obtain ⟨g, hg7, hcell⟩ := hc7 (by omega)
                  obtain ⟨x1, x2⟩ := hcell k hkl
                  simp only [Value.slice.injEq] at hv7
                  obtain ⟨rfl, -, rfl⟩ := hv7
                  subst hg7
                  have hgB : w1.heap.size + 1 ≤ g := hop7.block g rfl
                  have hgc := counts_cell hcn7 x1
                  have hz := (HPF.out P[k] (List.getElem_mem hkn7)).2.1
                  have hx8 := HX.out _ hnmP
                  have hset := fun (W : World) (h : OwnP (w1.heap.size + 1) W (.slice (some ⟨g, 0, none⟩) P.length pc) l') (v : Int) => OwnP.set h hkl v
                  have hPk : P[k]? = some P[k] := List.getElem?_eq_getElem hkn7
                  rw [hat] at x1 x2 hset
                  obtain ⟨x, hx⟩ : ∃ x, P[k] = x := ⟨_, rfl⟩
                  rw [hx] at x1 x2 hz hx8 hset hPk
                  clear hx hcell hat hnmP hc7
                  obtain ⟨xn, xv⟩ := x
                  dsimp only at x1 x2 hz hx8 hset
                  have bB : Below wr.heap.size wr (wr.alloc (.cells #[.string xn, .int .i64 xv] 74)) := (Below.refl _ wr).alloc (Nat.le_refl _) _
                  have hkey : keyOf Tryz.prog 9 (.string xn) = some (textKey xn) := key9 (by simp [maxLen]; omega)
                  have hlk := (Counts.look (hcn7.below bB) law9 Tryz.underlying90 hkey).1
                  have cL := HCL.out _ (good_below hb7 bB) xn (f2 (textKey xn))
                  rw [hx8] at cL
                  obtain ⟨V, hV⟩ : ∃ V, f2 (textKey xn) = V := ⟨_, rfl⟩
                  rw [hV] at hlk cL
                  obtain ⟨X, hXX⟩ : ∃ X, newestV l (allNeeds l (pickedOf l ws) ws) xn = X := ⟨_, rfl⟩
                  rw [hXX] at cL
                  have bx := hbx7.below bB
                  have e0 := bx.cell 0
                  have e1 := bx.cell 1
                  have e2 := bx.cell 2
                  simp at e0 e1 e2
                  have HXX : Hid _ := hXX
                  have HSET : Hid _ := hset
                  have HOP7 : Hid (OwnP (w1.heap.size + 1) wr (.slice (some ⟨g, 0, none⟩) P.length pc) l') := hop7
                  have HCN7 : Hid (Counts wr 9 w2.heap.size (P.length + CL.length) f2) := hcn7
                  have HBX7 : Hid (Blk wr w1.heap.size 68 #[.slice ra R.length rc, .map (some mb), .slice wa ws.length wc]) := hbx7
                  have HLO : Hid _ := hlo7
                  have HHI : Hid _ := hhi7
                  have HL7 : Hid _ := hl7
                  have HPK : Hid _ := hPk
                  have hgw := cell_lt' x1
                  have hblk : ∃ cur, Blk wr g 74 cur := by
                    rcases hop7.2 with ⟨hv, _⟩ | ⟨g', cap', cur, hv, _, hg, _⟩
                    · simp at hv
                    · simp only [Value.slice.injEq, Option.some.injEq, Addr.mk.injEq, and_true] at hv
                      obtain ⟨rfl, _⟩ := hv
                      exact ⟨cur, hg⟩
                  obtain ⟨cur, hblk⟩ := hblk
                  have HBLK : Hid (Blk wr g 74 cur) := hblk
                  clear hV hXX hx8 hset hop7 hcn7 hbx7 hlo7 hhi7 hl7 hkey bx hPk hblk
                  go_wp2_with (go_at_call 51; go_must (refine cL.mono ?_; rintro e w8 ⟨rfl, hb8⟩; have bB8 := good_below bB hb8; have q8 := Blk.below HBLK.out bB8; have fr8 := q8.fro (k * 2 + 1); have c8 := (bB8.cell (p := ⟨g, k * 2 + 1, none⟩) hgw).trans x2; clear q8))
                  have o8 := OwnP.below HOP7.out bB8
                  have o9 := HSET.out w8 o8 X
                  have g9 := set_grown w8 g (k * 2 + 1) (.int .i64 X)
                  have b18 := good_below hb7 bB8
                  have hl9 := HL7.out
                  refine ⟨⟨k + 1, _, rfl, by omega, o9, by rw [List.length_set]; exact hl9, fun j hj => ?_, fun j hj => ?_, (Counts.below HCN7.out bB8).kept g9 (by simpa using fun e => hgc e.symm), (Blk.below HBX7.out bB8).kept g9 (by simp; omega), b18.setCell (p := ⟨g, k * 2 + 1, none⟩) (Nat.le_trans (Nat.le_succ _) hgB) _⟩, by simp [intOf]; omega⟩
                  · rw [List.getElem?_set]
                    by_cases e : k = j
                    · subst e
                      rw [if_pos rfl, if_pos (by omega), HPK.out]
                      simp only [Option.map_some, HXX.out]
                    · rw [if_neg e]
                      exact HLO.out j (by omega)
                  · rw [List.getElem?_set, if_neg (by omega)]
                    exact HHI.out j (by omega)
                · obtain rfl : k = P.length := by omega
                  have hkn7' : ¬ ((P.length : Int) < (P.length : Int)) := by omega
                  have hl'e : l' = newestOf l (pickedOf l ws) ws := by
                    rw [newest_map, HPP.out]
                    apply List.ext_getElem?
                    intro j
                    rw [List.getElem?_map]
                    by_cases hj : j < P.length
                    · exact hlo7 j hj
                    · rw [List.getElem?_eq_none (by omega), List.getElem?_eq_none (by omega)]; rfl
                  have HL7 : Hid _ := hl'e
                  have HO7 : Hid (OwnP (w1.heap.size + 1) wr (.slice pa P.length pc) l') := hop7
                  clear hlo7 hhi7 hop7 hcn7 hbx7 hl'e hl7
                  go_wp2_with fail
                  go_ret2
                  refine ⟨⟨_, rfl, ?_⟩, good_below hb1 hb7⟩
                  rw [← HL7.out]
                  exact OwnP.mono HO7.out (Nat.le_trans hb1.size (Nat.le_succ _))
    · rw [if_neg hcc0] at hCC
      subst hCC
      have hcc' : (cc == 0) = false := by simp [hcc0]
      go_wp2_with fail
      go_ret2
      exact ⟨⟨_, rfl, ⟨rfl, .inl ⟨rfl, rfl⟩⟩⟩, hbw2⟩
  · have hC : C = ([], c) := by rw [← HC.out]; unfold newestF; rw [HCD.out, if_neg h0]
    subst hC
    have h0' : (c == 0) = false := by simp [h0]
    go_enter Tryz.func25, Tryz.ntmps25
    go_wp2_with (go_at_call 35; go_must (refine c27.mono ?_; rintro e w1 ⟨⟨sv, rfl, hout⟩, hb1⟩; have hzs := hout.elim (fun hx => hx.2) (fun hh => absurd (HCD.out.symm.trans hh.1) h0); unfold zeroShelf at hzs; subst hzs))
    go_ret2
    exact ⟨⟨_, rfl, ⟨rfl, .inl ⟨rfl, rfl⟩⟩⟩, hb1.alloc hb1.size _⟩
end Go.Proofs.YthgjdcomanabiaaGreatDoor

namespace Go.Proofs.YthgjdcomanabiaaGreatDoor
open Go.ChangeShapes Go.WideShapes Go.ChangeAt Go.RowKit
set_option linter.unusedVariables false

def isRel (nm : ByteArray) (ve : Int) (r : Rel) : Bool := r.name.toList == nm.toList && r.ver == ve
def hasRel (l : List Rel) (nm : ByteArray) (ve : Int) : Bool := l.any (isRel nm ve)
noncomputable def upgradeF (l : List Rel) (ws : List Imp) (nm : ByteArray) (ve : Int) : List Pk × Int × List ByteArray :=
  if 65536 < nm.size then ([], 2, []) else
  if codeB nameOK l ws = 0 then
    (if hasRel l nm ve then (picksOf l (choiceOf l (ws ++ [⟨nm, ve, 999999⟩])).1, (choiceOf l (ws ++ [⟨nm, ve, 999999⟩])).2.1, (choiceOf l (ws ++ [⟨nm, ve, 999999⟩])).2.2) else ([], 7, [nm]))
  else ([], codeB nameOK l ws, [])
theorem OwnI.imps {B : Nat} {w : World} {v : Value} {l : List Imp} (h : OwnI B w v l) (S : Nat → Prop) (hl : l.length ≤ 1000) : ImpsAt (fun b => S b ∨ (b < w.heap.size ∧ B ≤ b)) w v l := by
  obtain ⟨a, cap, hv, hc⟩ := h.value
  refine ⟨by simp [maxLen]; omega, a, cap, hv, fun h0 => ?_⟩
  obtain ⟨g, rfl, hB, hg, hcell⟩ := hc h0
  exact ⟨g, 0, rfl, .inr ⟨hg, hB⟩, fun i hi => by simpa using hcell i hi⟩
theorem imp_new (w : World) (nm : ByteArray) (mn mx : Int) (hn : nm.size ≤ maxLen) (S : Nat → Prop) : ImpsAt (fun b => b = w.heap.size) (w.alloc (.cells #[.string nm, .int .i64 mn, .int .i64 mx] 61)) (.slice (some ⟨w.heap.size, 0, none⟩) 1 1) [⟨nm, mn, mx⟩] := by
  refine ⟨by simp [maxLen], _, 1, rfl, fun _ => ⟨w.heap.size, 0, rfl, rfl, fun i hi => ?_⟩⟩
  have hi0 : i = 0 := by simpa using hi
  subst hi0
  have hb : Blk (w.alloc (.cells #[.string nm, .int .i64 mn, .int .i64 mx] 61)) w.heap.size 61 #[.string nm, .int .i64 mn, .int .i64 mx] := heap_alloc_last w _
  exact ⟨hb.cell 0, hb.cell 1, hb.cell 2⟩
theorem RelsAt.mono {S S' : Nat → Prop} {w : World} {v : Value} {l : List Rel} (h : RelsAt S w v l) (hS : ∀ b, S b → S' b) : RelsAt S' w v l := by
  obtain ⟨hl, a, cap, hv, h⟩ := h
  refine ⟨hl, a, cap, hv, fun h0 => ?_⟩
  obtain ⟨b, off, ha, hb, hc⟩ := h h0
  refine ⟨b, off, ha, hS b hb, fun i hi => ?_⟩
  obtain ⟨c1, c2, nv, c3, c4⟩ := hc i hi
  exact ⟨c1, c2, nv, c3, c4.mono hS⟩
theorem upgrade_fine {l : List Rel} {ws : List Imp} {nm : ByteArray} {ve : Int} (h : storeB nameOK l = true) : (∀ n ∈ (choiceOf l ws).1, n < l.length) ∧ (choiceOf l ws).1.length ≤ 200 := choice_in l ws h

set_option maxRecDepth 100000 in
set_option maxHeartbeats 4000000 in
theorem specUpgrade (T : World → Prop) : UpgradeC 19 T upgradeF := by
  intro S l ws nm ve v u w hS h h2 hl hok hwl hwok hnz hve hT
  have c28 := specCode specName hS h h2
  have HR : Hid (RelsAt S w v l) := h
  have HI : Hid (ImpsAt S w u ws) := h2
  have HS : Hid _ := hS
  obtain ⟨la, lc, hv⟩ := h.shape
  obtain ⟨ua, uc, hu⟩ := h2.shape
  subst hv hu
  obtain ⟨C, hC⟩ : ∃ C, upgradeF l ws nm ve = C := ⟨_, rfl⟩
  rw [hC]
  have HC : Hid (upgradeF l ws nm ve = C) := hC
  obtain ⟨c, hc⟩ : ∃ c, codeB nameOK l ws = c := ⟨_, rfl⟩
  rw [hc] at c28
  have HCD : Hid (codeB nameOK l ws = c) := hc
  clear hC hc h h2 hS hT
  by_cases hbig : 65536 < nm.size
  · have hCC : C = ([], 2, []) := by rw [← HC.out]; unfold upgradeF; rw [if_pos hbig]
    subst hCC
    have hbig' : (65536 : Int) < (nm.size : Int) := by omega
    have hnz' : (nm.size : Int) ≤ 1048576 := by omega
    go_enter Tryz.func19, Tryz.ntmps19
    go_wp2_with fail
    go_ret3
    have o1 := (empty_pk w.heap.size w (Nat.le_refl _)).below ((Below.refl _ _).alloc (Nat.le_refl _) (.cells #[] 9))
    have o2 := empty_own w.heap.size (w.alloc (.cells #[] 74)) (by simp)
    rw [World.size_alloc] at o2
    exact ⟨⟨_, _, rfl, o1, o2⟩, ((Below.refl _ w).alloc (Nat.le_refl _) _).alloc (by simp) _⟩
  · have hbig' : ¬ ((65536 : Int) < (nm.size : Int)) := by omega
    have hnz' : (nm.size : Int) ≤ 1048576 := by omega
    by_cases h0 : c = 0
    · subst h0
      obtain ⟨hst, hwi⟩ := code_zero HCD.out
      have hw20 := (wishes_fine hwi).1
      have hl2 := (store_needs hst).1
      have hl2' : (l.length : Int) ≤ 200 := by omega
      have hCC : C = if hasRel l nm ve then (picksOf l (choiceOf l (ws ++ [⟨nm, ve, 999999⟩])).1, (choiceOf l (ws ++ [⟨nm, ve, 999999⟩])).2.1, (choiceOf l (ws ++ [⟨nm, ve, 999999⟩])).2.2) else ([], 7, [nm]) := by rw [← HC.out]; unfold upgradeF; rw [if_neg hbig, if_pos HCD.out]
      have HCC : Hid _ := hCC
      have HST : Hid _ := hst
      clear hCC hst hwi
      go_enter Tryz.func19, Tryz.ntmps19
      go_wp2_with (go_at_call 28; go_must (refine c28.mono ?_; rintro e w1 ⟨rfl, hb1⟩))
      go_loopw [12] (fun i12 wr => ∃ (k : Nat), i12 = .int .i64 (k : Int) ∧ k ≤ l.length ∧ (∀ j (hj : j < l.length), j < k → isRel nm ve l[j] = false) ∧ wr = w1) (fun i12 _ => l.length - (intOf i12).toNat)
      case atStart => exact ⟨0, rfl, by omega, fun j _ h => by omega, rfl⟩
      case round =>
        obtain ⟨k, rfl, hk, hno, rfl⟩ := hrel
        have HNO : Hid _ := hno
        clear hno
        by_cases hkn : k < l.length
        · have hkn' : (k : Int) < (l.length : Int) := by omega
          obtain ⟨_, la', lc', hlv, hlc⟩ := (show RelsAt S w (.slice la l.length lc) l from HR.out)
          simp only [Value.slice.injEq] at hlv
          obtain ⟨rfl, -, rfl⟩ := hlv
          obtain ⟨b, off, rfl, hbS, hlcell⟩ := hlc (by omega)
          obtain ⟨x1, x2, _⟩ := hlcell k hkn
          have hbw := HS.out b hbS
          have d1 := (hb1.cell (p := ⟨b, off + k * 3, none⟩) hbw).trans x1
          have d2 := (hb1.cell (p := ⟨b, off + k * 3 + 1, none⟩) hbw).trans x2
          have hhas : isRel nm ve l[k] = true → hasRel l nm ve = true := fun h => List.any_eq_true.2 ⟨_, List.getElem_mem hkn, h⟩
          have hno2 : isRel nm ve l[k] = false → ∀ j (hj : j < l.length), j < k + 1 → isRel nm ve l[j] = false := fun h j hj hjk => by
            by_cases e : j = k
            · subst e; exact h
            · exact HNO.out j hj (by omega)
          have hdef : isRel nm ve l[k] = (l[k].name.toList == nm.toList && l[k].ver == ve) := rfl
          obtain ⟨r, hr⟩ : ∃ r, l[k] = r := ⟨_, rfl⟩
          rw [hr] at d1 d2 hhas hno2 hdef
          clear hr x1 x2 hlc hlcell
          obtain ⟨rn, rv, rs⟩ := r
          dsimp only at d1 d2 hdef
          have HHAS : Hid _ := hhas
          have HNO2 : Hid _ := hno2
          have HDEF : Hid _ := hdef
          clear hhas hno2 hdef
          cases hne : rn.toList == nm.toList
          · go_wp2_with fail
            exact ⟨⟨k + 1, rfl, by omega, HNO2.out (by rw [HDEF.out, hne]; rfl), trivial⟩, by simp [intOf]; omega⟩
          · cases hve2 : rv == ve
            · go_wp2_with fail
              exact ⟨⟨k + 1, rfl, by omega, HNO2.out (by rw [HDEF.out, hne, hve2]; rfl), trivial⟩, by simp [intOf]; omega⟩
            · have hCC := HCC.out
              rw [if_pos (HHAS.out (by rw [HDEF.out, hne, hve2]; rfl))] at hCC
              obtain ⟨hin, hinl⟩ := choice_in l (ws ++ [⟨nm, ve, 999999⟩]) HST.out
              have c29 := fun (S' : Nat → Prop) (W : World) (u : Value) (h1 : ∀ b, S' b → b < W.heap.size) (h2 : RelsAt S' W (.slice (some ⟨b, off, none⟩) l.length lc) l) (h3 : ImpsAt S' W u (ws ++ [⟨nm, ve, 999999⟩])) => specChoice nameOK S' l (ws ++ [⟨nm, ve, 999999⟩]) _ u W h1 h2 h3 HST.out (by simp; omega)
              obtain ⟨NS, hNS⟩ : ∃ NS, (choiceOf l (ws ++ [⟨nm, ve, 999999⟩])).1 = NS := ⟨_, rfl⟩
              obtain ⟨cc, hcc⟩ : ∃ cc, (choiceOf l (ws ++ [⟨nm, ve, 999999⟩])).2.1 = cc := ⟨_, rfl⟩
              obtain ⟨qs, hqs⟩ : ∃ qs, (choiceOf l (ws ++ [⟨nm, ve, 999999⟩])).2.2 = qs := ⟨_, rfl⟩
              rw [hNS] at hin hinl
              rw [hNS, hcc, hqs] at c29 hCC
              subst hCC
              obtain ⟨M, hM⟩ : ∃ M, ws ++ [(⟨nm, ve, 999999⟩ : Imp)] = M := ⟨_, rfl⟩
              rw [hM] at c29
              have hMl : M.length ≤ 21 := by rw [← hM]; simp; omega
              have HM : Hid _ := hM
              clear hM
              have HC29 : Hid _ := c29
              have HIN : Hid _ := hin
              have hempI := empty_imp wr.heap.size wr (Nat.le_refl _)
              have HEI : Hid _ := hempI
              have HI2 : Hid (ImpsAt S (wr.alloc (.cells #[] 61)) (.slice ua ws.length uc) ws) := (show ImpsAt S (wr.alloc (.cells #[] 61)) (.slice ua ws.length uc) ws from HI.out.keep (cells_below HS.out (hb1.alloc hb1.size _)))
              clear c29 hin hNS hcc hqs hempI
              go_wp2_with (first
                | (at_builtin; have hchk := HO3; refine wpList_appendI rfl (.tmp 54) (.tmp 58) rfl wr.heap.size v3 ws rfl (OwnI.below HO3.out ((Below.refl _ _).alloc (Nat.le_refl _) _)) (.slice (some ⟨w3.heap.size, 0, none⟩) 1 1) [⟨nm, ve, 999999⟩] rfl (imp_new w3 nm ve 999999 (by simp [maxLen]; omega) S) (by simp; omega) (by simp only [World.size_alloc]; omega) ?_; intro v4 w4 hown4 hB4 hgr4; rw [HM.out] at hown4; have b14 : Below wr.heap.size wr w4 := (b13.alloc b13.size _).trans hB4; have c29' := HC29.out (fun b => S b ∨ (b < w4.heap.size ∧ wr.heap.size ≤ b)) w4 v4 (fun b hb => hb.elim (fun h => Nat.lt_of_lt_of_le (HS.out b h) (Nat.le_trans hb1.size b14.size)) (fun h => h.1)) (RelsAt.mono (HR.out.keep (cells_below HS.out (good_below hb1 b14))) (fun b h => .inl h)) (OwnI.imps hown4 S (by omega)); obtain ⟨a4, c4, hv4, _⟩ := hown4.value; subst hv4; clear hown4)
                | (at_builtin; go_must (refine wpList_appendI rfl (.tmp 52) (.tmp 53) rfl wr.heap.size (.slice (some ⟨wr.heap.size, 0, none⟩) 0 0) [] rfl HEI.out (.slice ua ws.length uc) ws rfl HI2.out (by simp; omega) (by simp only [World.size_alloc]; omega) ?_; intro v3 w3 hown3 hB3 hgr3; have HO3 : Hid (OwnI wr.heap.size w3 v3 ws) := (show OwnI wr.heap.size w3 v3 ws from by simpa using hown3); have b13 : Below wr.heap.size wr w3 := ((Below.refl _ wr).alloc (Nat.le_refl _) _).trans hB3; have hs3 := b13.size; clear hown3))
                | (go_at_call 29; go_must (refine c29'.mono ?_; rintro e w5 ⟨⟨p5, q5, rfl, hop5, hos5⟩, hb5⟩; have b15 := good_below b14 hb5; have c32 := specPicks (w := w5) (fun b hb => Nat.lt_of_lt_of_le (HS.out b hb) (Nat.le_trans hb1.size b15.size)) (HR.out.keep (cells_below HS.out (good_below hb1 b15))) hop5 HIN.out (by omega); obtain ⟨pa5, pc5, hp5, _⟩ := hop5.value; subst hp5; have HOS5 : Hid _ := hos5; obtain ⟨qa5, qc5, hq5, _⟩ := hos5.value; subst hq5; clear hop5 hos5))
                | (go_at_call 32; go_must (refine c32.mono ?_; rintro e w6 ⟨⟨p6, rfl, hop6⟩, hb6⟩)))
              go_ret3
              have b16 := good_below b15 hb6
              have bw6 := good_below hb1 b16
              exact ⟨⟨_, _, rfl, OwnP.mono hop6 (Nat.le_trans hb1.size b15.size), OwnS.mono (OwnS.below HOS5.out hb6) (Nat.le_trans hb1.size b14.size)⟩, bw6⟩
        · obtain rfl : k = l.length := by omega
          have hkn' : ¬ ((l.length : Int) < (l.length : Int)) := by omega
          have hCC := HCC.out
          have hhas : hasRel l nm ve = false := by
            unfold hasRel
            rw [List.any_eq_false]
            intro r hr
            obtain ⟨j, hj, rfl⟩ := List.getElem_of_mem hr
            rw [HNO.out j hj hj]; simp
          rw [hhas, if_neg (by simp)] at hCC
          subst hCC
          go_wp2_with fail
          go_ret3
          have o1 := (empty_pk w.heap.size wr hb1.size).below ((Below.refl _ _).alloc (Nat.le_refl _) (.cells #[.string nm] 9))
          have o2 : OwnS w.heap.size ((wr.alloc (.cells #[] 74)).alloc (.cells #[.string nm] 9)) (.slice (some ⟨wr.heap.size + 1, 0, none⟩) 1 1) [nm] := by
            have hb : Blk ((wr.alloc (.cells #[] 74)).alloc (.cells #[.string nm] 9)) (wr.heap.size + 1) 9 #[.string nm] := by
              have := heap_alloc_last (wr.alloc (.cells #[] 74)) (.cells #[.string nm] 9)
              rwa [World.size_alloc] at this
            exact ⟨rfl, .inr ⟨wr.heap.size + 1, 1, #[.string nm], rfl, by have := hb1.size; omega, hb, Nat.le_refl _, by decide, rfl, rfl⟩⟩
          exact ⟨⟨_, _, rfl, o1, o2⟩, (hb1.alloc hb1.size _).alloc (by simp; have := hb1.size; omega) _⟩
    · have hCC : C = ([], c, []) := by rw [← HC.out]; unfold upgradeF; rw [if_neg hbig, HCD.out, if_neg h0]
      subst hCC
      have h0' : (c == 0) = false := by simp [h0]
      go_enter Tryz.func19, Tryz.ntmps19
      go_wp2_with (go_at_call 28; go_must (refine c28.mono ?_; rintro e w1 ⟨rfl, hb1⟩))
      go_ret3
      have o1 := (empty_pk w.heap.size w1 hb1.size).below ((Below.refl _ _).alloc (Nat.le_refl _) (.cells #[] 9))
      have o2 := empty_own w.heap.size (w1.alloc (.cells #[] 74)) (by simp; have := hb1.size; omega)
      rw [World.size_alloc] at o2
      exact ⟨⟨_, _, rfl, o1, o2⟩, (hb1.alloc hb1.size _).alloc (by simp; have := hb1.size; omega) _⟩
end Go.Proofs.YthgjdcomanabiaaGreatDoor

namespace Go.Proofs.YthgjdcomanabiaaGreatDoor
set_option linter.unusedVariables false

/-- What needs lead to, by the store. -/
def stepOf (l : List Rel) (ns : List Imp) : List Pk := ns.filterMap fun m => (reachB l m).bind fun i => (l[i]?).map relPk
theorem step_same {l : List Rel} {R : List Pk} {nf : Pk → List Imp} (h : Same l R nf) (ns : List Imp) (y : Pk) : y ∈ sortP (foundOf R ns) ↔ y ∈ stepOf l ns := by
  rw [sortP_mem]
  unfold foundOf stepOf
  rw [show reachP R = (fun m => (reachB l m).bind fun i => (l[i]?).map relPk) from funext (reach_same h)]
theorem From.same {nx nx' : Pk → List Pk} (h : ∀ x y, y ∈ nx x ↔ y ∈ nx' x) {C q : List Pk} {z : Pk} (hf : From nx C q z) : ∀ {C' : List Pk}, (∀ y, y ∈ C ↔ y ∈ C') → From nx' C' q z := by
  induction hf with
  | one hx => exact fun hC => .one ((hC _).1 hx)
  | cons hx _ ih => exact fun hC => .cons ((hC _).1 hx) (ih (h _))
theorem Least.same {nx nx' : Pk → List Pk} (h : ∀ x y, y ∈ nx x ↔ y ∈ nx' x) {C C' p : List Pk} {x : Pk} (hC : ∀ y, y ∈ C ↔ y ∈ C') (hl : Least nx C p x) : Least nx' C' p x :=
  ⟨hl.1.same h hC, fun q hq => hl.2 q (hq.same (fun x y => (h x y).symm) (fun y => (hC y).symm))⟩
/-- The least row to a release. -/
def WhyRow (l : List Rel) (ws : List Imp) (p : Pk) (r : List Pk) : Prop := Least (fun x => stepOf l (needsOf l x)) (stepOf l ws) r p
noncomputable def whyRow (l : List Rel) (ws : List Imp) (p : Pk) : List Pk := open Classical in if h : ∃ r, WhyRow l ws p r then h.choose else []
theorem whyRow_is {l : List Rel} {ws : List Imp} {p : Pk} {r : List Pk} (h : WhyRow l ws p r) : whyRow l ws p = r := by
  have hex : ∃ r, WhyRow l ws p r := ⟨r, h⟩
  unfold whyRow
  rw [dif_pos hex]
  exact Least.uniq hex.choose_spec h
theorem sorted_is (l : List Pk) : ∃ f, Sorted l f := by
  refine ⟨l.mergeSort fun x y => !pkLess y x, List.mergeSort_perm _ _, ?_⟩
  have h := List.pairwise_mergeSort (le := fun x y : Pk => !pkLess y x) (fun a b c h1 h2 => by
    simp only [Bool.not_eq_true', Bool.eq_false_iff] at h1 h2 ⊢
    intro h3
    by_cases hab : a = b
    · subst hab; exact h2 h3
    · rcases pkLess_total hab with q | q
      · exact h2 (pkLess_trans h3 q)
      · exact h1 q) (fun a b => by
    by_cases h : pkLess b a = true
    · have : pkLess a b = false := by
        rw [Bool.eq_false_iff]; intro q
        have := pkLess_trans h q
        rw [pkLess_irrefl] at this; cases this
      simp [this]
    · simp [h]) l
  exact h.imp (fun q => by simpa using q)
theorem sortP_rises (l : List Pk) : (sortP l).Pairwise fun x y => pkLess y x = false := by
  obtain ⟨f, hf⟩ := sorted_is l
  rw [sortP_eq hf]
  exact hf.rises
theorem rows_inv {R : List Pk} {nf : Pk → List Imp} {ws : List Imp} {T : List Sd} (h : Rows' R nf ws T) : Inv (fun p => sortP (foundOf R (nf p))) (sortP (foundOf R ws)) T T.length :=
  SI_inv (sortP_rises _) (fun x => sortP_rises _) h.run
theorem rows_why {l : List Rel} {R : List Pk} {ws : List Imp} {T : List Sd} (hs : Same l R (needsOf l)) (h : Rows' R (needsOf l) ws T) {i : Nat} {s : Sd} (hi : T[i]? = some s) {r : List Pk} (hp : PathAt T i r) : whyRow l ws s.item = r :=
  whyRow_is (Least.same (fun x y => step_same hs _ y) (fun y => step_same hs _ y) (bfs_is (rows_inv h) hi hp))
/-- The first pick of a name. -/
def pickFor (nm : ByteArray) (P : List Pk) : Option Pk := P.find? (ofB nm)
theorem first_find {α : Type} {l : List α} {f : α → Bool} {r : Int} (h : FirstAt l f r) : (r = -1 ∧ l.find? f = none) ∨ ∃ (k : Nat) (hk : k < l.length), r = (k : Int) ∧ l.find? f = some l[k] := by
  rcases h with ⟨h1, h2⟩ | ⟨k, hk, h1, h2, h3⟩
  · exact .inl ⟨h1, by rw [List.find?_eq_none]; intro x hx hf; rw [List.any_eq_false] at h2; exact h2 x hx hf⟩
  · refine .inr ⟨k, hk, h1, ?_⟩
    rw [List.find?_eq_some_iff_getElem]
    refine ⟨h2, k, hk, rfl, fun j hj => ?_⟩
    rw [List.any_eq_false] at h3
    have := h3 l[j] (by rw [List.mem_take_iff_getElem]; exact ⟨j, by omega, rfl⟩)
    simpa using this
noncomputable def whyF (l : List Rel) (ws : List Imp) (nm : ByteArray) : List Pk × Int :=
  if 65536 < nm.size then ([], 2) else
  if codeB nameOK l ws = 0 then
    (if (choiceOf l ws).2.1 = 0 then
      (match pickFor nm (picksOf l (choiceOf l ws).1) with
       | none => ([], 7)
       | some p => (whyRow l ws p, 0))
    else ([], (choiceOf l ws).2.1))
  else ([], codeB nameOK l ws)
end Go.Proofs.YthgjdcomanabiaaGreatDoor

namespace Go.Proofs.YthgjdcomanabiaaGreatDoor
set_option linter.unusedVariables false

/-- From a release that a row passes on, the rest of it. -/
theorem From.rest {nx : Pk → List Pk} {C q : List Pk} {z : Pk} (h : From nx C q z) : ∀ {x : Pk} {a b : List Pk}, q = a ++ x :: b → ∀ C', x ∈ C' → From nx C' (x :: b) z := by
  induction h with
  | one hx =>
    intro x a b e C' hC'
    cases a with
    | nil => simp at e; obtain ⟨rfl, rfl⟩ := e; exact .one hC'
    | cons y a => simp at e
  | cons hx h ih =>
    intro x a b e C' hC'
    cases a with
    | nil => simp at e; obtain ⟨rfl, rfl⟩ := e; exact .cons hC' h
    | cons y a => simp at e; exact ih e.2 C' hC'
/-- A row with a release twice can be cut. -/
theorem From.cut {nx : Pk → List Pk} {C q : List Pk} {z : Pk} (h : From nx C q z) : ¬ q.Nodup → ∃ r, From nx C r z ∧ r.length < q.length := by
  induction h with
  | one hx => intro hn; exact absurd (by simp) hn
  | @cons C x z r hx h ih =>
    intro hn
    by_cases hm : x ∈ r
    · obtain ⟨a, b, rfl⟩ := List.append_of_mem hm
      exact ⟨x :: b, h.rest rfl C hx, by simp; omega⟩
    · obtain ⟨r', h1, h2⟩ := ih (fun hr => hn (List.nodup_cons.2 ⟨hm, hr⟩))
      exact ⟨x :: r', .cons hx h1, by simpa using h2⟩
theorem sl_len {p q : List Pk} (h : sl p q) : p.length ≤ q.length := by
  rcases h with h | ⟨h, _⟩ <;> omega
theorem Least.nodup {nx : Pk → List Pk} {C p : List Pk} {x : Pk} (h : Least nx C p x) : p.Nodup := by
  refine Classical.byContradiction fun hn => ?_
  obtain ⟨r, h1, h2⟩ := h.1.cut hn
  rcases h.2 r h1 with e | e
  · subst e; omega
  · have := sl_len e; omega
theorem From.sub {nx : Pk → List Pk} {R C q : List Pk} {z : Pk} (hn : ∀ x, ∀ y ∈ nx x, y ∈ R) (h : From nx C q z) : (∀ y ∈ C, y ∈ R) → ∀ y ∈ q, y ∈ R := by
  induction h with
  | one hx => intro hC y hy; simp at hy; subst hy; exact hC _ hx
  | cons hx h ih =>
    intro hC y hy
    rcases List.mem_cons.1 hy with rfl | q
    · exact hC _ hx
    · exact ih (hn _) y q
theorem step_in (l : List Rel) (ns : List Imp) : ∀ y ∈ stepOf l ns, y ∈ l.map relPk := by
  intro y hy
  unfold stepOf at hy
  obtain ⟨m, _, h⟩ := List.mem_filterMap.1 hy
  cases hb : reachB l m with
  | none => rw [hb] at h; cases h
  | some i =>
    rw [hb] at h
    simp only [Option.bind_some, Option.map_eq_some_iff] at h
    obtain ⟨r, h1, rfl⟩ := h
    exact List.mem_map_of_mem (List.mem_of_getElem? h1)
theorem whyRow_len (l : List Rel) (ws : List Imp) (p : Pk) : (whyRow l ws p).length ≤ l.length := by
  by_cases hex : ∃ r, WhyRow l ws p r
  · obtain ⟨r, hr⟩ := hex
    rw [whyRow_is hr]
    have := nodup_le r (l.map relPk) (Least.nodup hr) (From.sub (fun x y hy => step_in l _ y hy) hr.1 (step_in l ws))
    simpa using this
  · unfold whyRow
    rw [dif_neg hex]
    simp
theorem why_lens (l : List Rel) (ws : List Imp) (nm : ByteArray) : (whyF l ws nm).1.length ≤ 1000000 := by
  unfold whyF
  split
  · simp
  · split
    · rename_i hcd
      have hl := (store_rel (code_zero hcd).1).1
      split
      · split
        · simp
        · rename_i p _
          have := whyRow_len l ws p
          exact Nat.le_trans this (by omega)
      · simp
    · simp
end Go.Proofs.YthgjdcomanabiaaGreatDoor
