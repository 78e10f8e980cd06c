/-
  What spec's Watch answers: its walk. No statement of the seat is proved here.
-/
import Derived.Test.YtoopdcbgnccmiaaGreatDoorY1
namespace Go.Proofs.YtoopdcbgnccmiaaGreatDoor
open Go.ChangeShapes Go.WideShapes Go.ChangeAt Go.RowKit
set_option linter.unusedVariables false

theorem laySteps_short (nm : ByteArray) : ∀ (es : List Entry) (out : List Setting), (∀ e ∈ es, e.path.size ≤ 205) → (∀ o ∈ out, o.path.size ≤ 205) → ∀ o ∈ es.foldl (layStep nm) out, o.path.size ≤ 205
  | [], out, _, h => h
  | e :: es, out, he, h => by
    rw [List.foldl_cons]
    exact laySteps_short nm es _ (fun y hy => he y (List.mem_cons_of_mem _ hy)) (layStep_mem (P := fun o => o.path.size ≤ 205) h (he e (List.mem_cons_self ..)))
theorem laidFold_short : ∀ (l : List Layer) (out : List Setting), (∀ x ∈ l, ∀ e ∈ x.entries, e.path.size ≤ 205) → (∀ o ∈ out, o.path.size ≤ 205) → ∀ o ∈ l.foldl layLayer out, o.path.size ≤ 205
  | [], out, _, h => h
  | x :: l, out, hx, h => by
    rw [List.foldl_cons]
    exact laidFold_short l _ (fun y hy => hx y (List.mem_cons_of_mem _ hy)) (laySteps_short x.name x.entries out (hx x (List.mem_cons_self ..)) h)
theorem laid_short {l : List Layer} (h : layersB nameOK l = true) : ∀ o ∈ laidF (overP l), o.path.size ≤ 205 :=
  laidFold_short (overP l) [] (fun x hx => ((layers_fine h).2.2 x (overP_mem hx)).2) (fun o ho => by cases ho)
theorem both_short {a b : List Setting} (ha : ∀ o ∈ a, o.path.size ≤ 205) (hb : ∀ o ∈ b, o.path.size ≤ 205) : ∀ p ∈ bothPaths a b, p.size ≤ 205 := fun p hp => by
  rcases (both_mem a b p).1 hp with ⟨s, hs, rfl⟩ | ⟨s, hs, rfl⟩
  · exact ha s hs
  · exact hb s hs
theorem path_short {p : ByteArray} (h : pathB nameOK p = true) : p.size ≤ 205 := by
  unfold pathB at h
  simp only [Bool.and_eq_true, decide_eq_true_eq] at h
  exact h.1.1
theorem ChangesAt.newAt (w : World) (x y z : ByteArray) (g : Nat) (hg : w.heap.size = g) : ChangesAt (fun b => b = g) (w.alloc (.cells #[.string x, .string y, .string z] 113)) (.slice (some ⟨g, 0, none⟩) 1 1) [⟨x, y, z⟩] := by
  subst hg; exact ChangesAt.new w x y z
theorem specWithinQ' (p q : ByteArray) (hp : p.size ≤ 205) (hq : q.size ≤ 205) (w : World) :
    Calls Tryz.prog 61 #[.string p, .string q] w fun e w' => e = .returned (.bool (withinB p q)) ∧ w' = w := specWithinQ p q (by omega) (by omega) w
set_option maxRecDepth 100000 in
set_option maxHeartbeats 16000000 in
theorem specWatch (T : World → Prop) : WatchC 23 T watchL watchC := by
  intro S l0 l1 l2 v0 v1 v2 w hS h0 hl0 hok0 h1 hl1 hok1 h2 hl2 hok2 hT
  clear hT
  obtain ⟨a0, cap0, hv0⟩ := h0.shape
  obtain ⟨a1, cap1, hv1⟩ := h1.shape
  obtain ⟨a2, cap2, hv2⟩ := h2.shape
  have m0 : (l0.length : Int) ≤ 1048576 := by omega
  have m1 : (l1.length : Int) ≤ 1048576 := by omega
  have m2 : (l2.length : Int) ≤ 1048576 := by omega
  unfold watchL watchC
  have hE : ∀ W : World, OwnChanges W.heap.size (W.alloc (.cells #[] 113)) (.slice (some ⟨W.heap.size, 0, none⟩) 0 0) [] := fun W => OwnChanges.empty W.heap.size W (Nat.le_refl _)
  have HE : Hid (∀ W : World, OwnChanges W.heap.size (W.alloc (.cells #[] 113)) (.slice (some ⟨W.heap.size, 0, none⟩) 0 0) []) := hE
  clear hE
  by_cases b0 : 4096 < l0.length
  · have b0' : (4096 : Int) < (l0.length : Int) := by omega
    have elw : longW l0 l1 l2 = true := by simp [longW, b0]
    simp only [elw, ↓reduceIte]
    clear elw
    subst hv0 hv1 hv2
    clear h0 h1 h2 hok0 hok1 hok2 hS
    go_enter Tryz.func23, Tryz.ntmps23
    go_wp2_with fail
    go_ret2
    exact ⟨⟨_, rfl, HE.out w⟩, (Below.refl _ w).alloc (Nat.le_refl _) _⟩
  by_cases b1 : 4096 < l1.length
  · have b0' : ¬ ((4096 : Int) < (l0.length : Int)) := by omega
    have b1' : (4096 : Int) < (l1.length : Int) := by omega
    have elw : longW l0 l1 l2 = true := by simp [longW, b1]
    simp only [elw, ↓reduceIte]
    clear elw
    subst hv0 hv1 hv2
    clear h0 h1 h2 hok0 hok1 hok2 hS
    go_enter Tryz.func23, Tryz.ntmps23
    go_wp2_with fail
    go_ret2
    exact ⟨⟨_, rfl, HE.out w⟩, (Below.refl _ w).alloc (Nat.le_refl _) _⟩
  by_cases b2 : 4096 < l2.length
  · have b0' : ¬ ((4096 : Int) < (l0.length : Int)) := by omega
    have b1' : ¬ ((4096 : Int) < (l1.length : Int)) := by omega
    have b2' : (4096 : Int) < (l2.length : Int) := by omega
    have elw : longW l0 l1 l2 = true := by simp [longW, b2]
    simp only [elw, ↓reduceIte]
    clear elw
    subst hv0 hv1 hv2
    clear h0 h1 h2 hok0 hok1 hok2 hS
    go_enter Tryz.func23, Tryz.ntmps23
    go_wp2_with fail
    go_ret2
    exact ⟨⟨_, rfl, HE.out w⟩, (Below.refl _ w).alloc (Nat.le_refl _) _⟩
  have b0' : ¬ ((4096 : Int) < (l0.length : Int)) := by omega
  have b1' : ¬ ((4096 : Int) < (l1.length : Int)) := by omega
  have b2' : ¬ ((4096 : Int) < (l2.length : Int)) := by omega
  have elw : longW l0 l1 l2 = false := by unfold longW; rw [decide_eq_false b0, decide_eq_false b1, decide_eq_false b2]; rfl
  simp only [elw, Bool.false_eq_true, ↓reduceIte]
  clear elw
  have c0 := specLayers nameSpec hS h0 hok0
  have c1 := fun W (hW : Below w.heap.size w W) => specLayers (w := W) nameSpec (fun b hb => Nat.lt_of_lt_of_le (hS b hb) hW.size) (h1.keep (cells_below hS hW)) hok1
  cases hA : layersB nameOK l0
  · rw [hA] at c0
    have erw : rightW l0 l1 l2 = false := by simp [rightW, hA]
    simp only [erw, Bool.false_eq_true, ↓reduceIte]
    clear erw
    subst hv0 hv1 hv2
    clear h0 h1 h2 hok0 hok1 hok2 hS c1 hA
    go_enter Tryz.func23, Tryz.ntmps23
    go_wp2_with (go_at_call 45; go_must (refine c0.mono ?_; rintro e w2 ⟨rfl, hb2⟩))
    go_ret2
    exact ⟨⟨_, rfl, OwnChanges.mono (HE.out w2) hb2.size⟩, hb2.alloc hb2.size _⟩
  rw [hA] at c0
  cases hB : layersB nameOK l1
  · rw [hB] at c1
    have erw : rightW l0 l1 l2 = false := by simp [rightW, hB]
    simp only [erw, Bool.false_eq_true, ↓reduceIte]
    clear erw
    subst hv0 hv1 hv2
    clear h0 h1 h2 hok0 hok1 hok2 hS hA hB
    go_enter Tryz.func23, Tryz.ntmps23
    go_wp2_with (first
      | (go_at_call 45; have hchk := hb2; refine (c1 _ hb2).mono ?_; rintro e w3 ⟨rfl, hb3⟩; have hb23 := good_below hb2 hb3)
      | (go_at_call 45; go_must (refine c0.mono ?_; rintro e w2 ⟨rfl, hb2⟩)))
    go_ret2
    exact ⟨⟨_, rfl, OwnChanges.mono (HE.out w3) hb23.size⟩, hb23.alloc hb23.size _⟩
  rw [hB] at c1
  have cm0 := fun W (hW : Below w.heap.size w W) => specMergeR (w := W) (fun b hb => Nat.lt_of_lt_of_le (hS b hb) hW.size) (h0.keep (cells_below hS hW)) hA
  have cm1 := fun W (hW : Below w.heap.size w W) => specMergeR (w := W) (fun b hb => Nat.lt_of_lt_of_le (hS b hb) hW.size) (h1.keep (cells_below hS hW)) hB
  have hsa := laid_short hA
  have hsb := laid_short hB
  have hla := laid_len hA
  have hlb := laid_len hB
  have hrw : rightW l0 l1 l2 = l2.all (pathB nameOK) := by unfold rightW; rw [hA, hB]; rfl
  rw [hrw]
  obtain ⟨oa, hoa⟩ : ∃ oa, laidF (overP l0) = oa := ⟨_, rfl⟩
  obtain ⟨ob, hob⟩ : ∃ ob, laidF (overP l1) = ob := ⟨_, rfl⟩
  rw [hoa] at cm0 hsa hla ⊢
  rw [hob] at cm1 hsb hlb ⊢
  have HSA : Hid (∀ o ∈ oa, o.path.size ≤ 205) := hsa
  have HSB : Hid (∀ o ∈ ob, o.path.size ≤ 205) := hsb
  have hla' : (oa.length : Int) ≤ 2000 := by omega
  have hlb' : (ob.length : Int) ≤ 2000 := by omega
  obtain ⟨PL, hPL⟩ : ∃ PL, (if l2.all (pathB nameOK) = true then changesF oa ob l2 else []) = PL := ⟨_, rfl⟩
  obtain ⟨PC, hPC⟩ : ∃ PC : Int, (if l2.all (pathB nameOK) = true then 0 else 1) = PC := ⟨_, rfl⟩
  rw [hPL, hPC]
  have HPL : Hid ((if l2.all (pathB nameOK) = true then changesF oa ob l2 else []) = PL) := hPL
  have HPC : Hid ((if l2.all (pathB nameOK) = true then (0 : Int) else 1) = PC) := hPC
  have HT2 : Hid (TxtsAt S w v2 l2) := h2
  have HOK2 : Hid (∀ x ∈ l2, TxtsOK 1048576 x) := hok2
  have HS : Hid (∀ b, S b → b < w.heap.size) := hS
  subst hv0 hv1 hv2
  clear h0 h1 h2 hok0 hok1 hok2 hS hA hB hsa hsb hrw hoa hob hPL hPC
  go_enter Tryz.func23, Tryz.ntmps23
  go_wp2_with (first
    | (go_at_call 45; have hchk := hb2; refine (c1 _ hb2).mono ?_; rintro e w3 ⟨rfl, hb3⟩; have hb23 := good_below hb2 hb3)
    | (go_at_call 45; go_must (refine c0.mono ?_; rintro e w2 ⟨rfl, hb2⟩)))
  clear c0 c1 hb2 hb3 hchk
  go_loopw [8] (fun i8 wr => ∃ (k : Nat), i8 = .int .i64 (k : Int) ∧ k ≤ l2.length ∧ (∀ i (h : i < l2.length), i < k → pathB nameOK l2[i] = true) ∧ Below w.heap.size w wr) (fun i8 _ => l2.length - (intOf i8).toNat)
  case atStart => exact ⟨0, rfl, by omega, fun i _ h => by omega, hb23⟩
  case round =>
    obtain ⟨k, rfl, hk, hall, hb⟩ := hrel
    have HAL : Hid (∀ i (h : i < l2.length), i < k → pathB nameOK l2[i] = true) := hall
    clear hall
    by_cases hkn : k < l2.length
    · have hkn' : (k : Int) < (l2.length : Int) := by omega
      obtain ⟨_, ta, tc, htv, hcell⟩ := HT2.out
      simp only [Value.slice.injEq] at htv
      obtain ⟨rfl, -, rfl⟩ := htv
      obtain ⟨b, off, rfl, hbS, hcell⟩ := hcell (by omega)
      have hbw := HS.out b hbS
      have d0 := (hb.cell (p := ⟨b, off + k, none⟩) hbw).trans (hcell k hkn)
      have hz := HOK2.out l2[k] (List.getElem_mem hkn)
      have hnn : pathB nameOK l2[k] = true → ∀ i (h : i < l2.length), i < k + 1 → pathB nameOK l2[i] = true := fun h0 i hi hik => by
        by_cases e : i = k
        · subst e; exact h0
        · exact HAL.out i hi (by omega)
      have hbd : pathB nameOK l2[k] = false → l2.all (pathB nameOK) = false := fun h0 => by
        rw [List.all_eq_false]; exact ⟨l2[k], List.getElem_mem hkn, by rw [h0]; simp⟩
      obtain ⟨x, hx⟩ : ∃ x, l2[k] = x := ⟨_, rfl⟩
      rw [hx] at d0 hz hnn hbd
      unfold TxtsOK at hz
      have cp := specPath nameSpec x (by simp [maxLen]; omega) wr
      have HNN : Hid (pathB nameOK x = true → ∀ i (h : i < l2.length), i < k + 1 → pathB nameOK l2[i] = true) := hnn
      have HBD : Hid (pathB nameOK x = false → l2.all (pathB nameOK) = false) := hbd
      obtain ⟨F, hF⟩ : ∃ F, pathB nameOK x = F := ⟨_, rfl⟩
      rw [hF] at cp
      have HF : Hid (pathB nameOK x = F) := hF
      clear hx hz hnn hbd hF hcell
      cases F
      · go_wp2_with (go_at_call 60; go_must (refine cp.mono ?_; rintro e w4 ⟨rfl, hb4⟩))
        go_ret2
        have hb4' := good_below hb hb4
        have e1 := HBD.out HF.out
        have hp1 := HPL.out
        have hp2 := HPC.out
        rw [e1, if_neg (by simp)] at hp1 hp2
        subst hp1 hp2
        exact ⟨⟨_, rfl, OwnChanges.mono (HE.out w4) hb4'.size⟩, hb4'.alloc hb4'.size _⟩
      · go_wp2_with (go_at_call 60; go_must (refine cp.mono ?_; rintro e w4 ⟨rfl, hb4⟩))
        exact ⟨⟨k + 1, rfl, by omega, HNN.out HF.out, good_below hb hb4⟩, by simp [intOf]; omega⟩
    · obtain rfl : k = l2.length := by omega
      have hkn' : ¬ ((l2.length : Int) < (l2.length : Int)) := by omega
      have hall : l2.all (pathB nameOK) = true := by
        rw [List.all_eq_true]
        intro x hx
        obtain ⟨i, hi, rfl⟩ := List.getElem_of_mem hx
        exact HAL.out i hi hi
      have hps : ∀ q ∈ l2, q.size ≤ 205 := fun q hq => path_short (List.all_eq_true.1 hall q hq)
      have HPS : Hid (∀ q ∈ l2, q.size ≤ 205) := hps
      have hp1 := HPL.out
      have hp2 := HPC.out
      rw [hall, if_pos rfl] at hp1 hp2
      have HP1 : Hid (changesF oa ob l2 = PL) := hp1
      subst hp2
      clear hall hps hp1 HPL HPC HAL hkn'
      obtain ⟨wq, hwq⟩ : ∃ wq, wq = wr := ⟨_, rfl⟩
      subst hwq
      have hkn' : ¬ ((l2.length : Int) < (l2.length : Int)) := by omega
      go_wp2_with (first
        | (go_at_call 46; have hchk := hb5; refine (cm1 _ hb5').mono ?_; rintro e w6 ⟨⟨pb, rfl, how6⟩, hb6⟩; have hb6' := good_below hb5' hb6; have how56 := OwnSettings.below how5 hb6; obtain ⟨ba, bc, hbv, -⟩ := how6.value; subst hbv)
        | (go_at_call 46; go_must (refine (cm0 _ hb).mono ?_; rintro e w5 ⟨⟨pa, rfl, how5⟩, hb5⟩; have hb5' := good_below hb hb5; obtain ⟨aa, ac, hav, -⟩ := how5.value; subst hav)))
      clear cm0 cm1 hb5 hb5' hb6 how5 hb23 hb hchk
      obtain ⟨_, _, hva, -, hca⟩ := how56.value
      simp only [Value.slice.injEq] at hva
      obtain ⟨rfl, -, rfl⟩ := hva
      obtain ⟨_, _, hvb, -, hcb⟩ := how6.value
      simp only [Value.slice.injEq] at hvb
      obtain ⟨rfl, -, rfl⟩ := hvb
      have HCA : Hid (0 < oa.length → ∃ g, aa = some ⟨g, 0, none⟩ ∧ wq.heap.size ≤ g ∧ g < w6.heap.size ∧ ∀ j (hj : j < oa.length), w6.cell? ⟨g, j * 3, none⟩ = some (.string oa[j].path) ∧ w6.cell? ⟨g, j * 3 + 1, none⟩ = some (.string oa[j].text) ∧ w6.cell? ⟨g, j * 3 + 2, none⟩ = some (.string oa[j].from')) := hca
      have HCB : Hid (0 < ob.length → ∃ g, ba = some ⟨g, 0, none⟩ ∧ w5.heap.size ≤ g ∧ g < w6.heap.size ∧ ∀ j (hj : j < ob.length), w6.cell? ⟨g, j * 3, none⟩ = some (.string ob[j].path) ∧ w6.cell? ⟨g, j * 3 + 1, none⟩ = some (.string ob[j].text) ∧ w6.cell? ⟨g, j * 3 + 2, none⟩ = some (.string ob[j].from')) := hcb
      have HAA : Hid (SettingsAt (fun b => b < w6.heap.size) w6 (.slice aa oa.length ac) oa) := how56.at.mono (fun b hb => hb.2)
      have HBB : Hid (SettingsAt (fun b => b < w6.heap.size) w6 (.slice ba ob.length bc) ob) := how6.at.mono (fun b hb => hb.2)
      have HB6 : Hid (Below w.heap.size w w6) := hb6'
      have HTE : Hid (OwnTxts w6.heap.size (w6.alloc (.cells #[] 9)) (.slice (some ⟨w6.heap.size, 0, none⟩) 0 0) []) := OwnTxts.empty w6.heap.size w6 (Nat.le_refl _)
      clear hca hcb how56 how6 hb6'
      go_loopw [11, 12] (fun i11 i12 wr => ∃ (k : Nat) (ta : Option Addr) (tc : Nat), i12 = .int .i64 (k : Int) ∧ i11 = .slice ta k tc ∧ k ≤ oa.length ∧ OwnTxts w6.heap.size wr (.slice ta k tc) ((oa.map Setting.path).take k) ∧ Below w6.heap.size w6 wr) (fun _ i12 _ => oa.length - (intOf i12).toNat)
      case atStart => exact ⟨0, _, 0, rfl, rfl, by omega, HTE.out, (Below.refl _ w6).alloc (Nat.le_refl _) _⟩
      case round =>
        obtain ⟨k, ta, tc, rfl, rfl, hk, hown, hb⟩ := hrel
        have HOW : Hid (OwnTxts w6.heap.size wr (.slice ta k tc) ((oa.map Setting.path).take k)) := hown
        have HBR : Hid (Below w6.heap.size w6 wr) := hb
        have hbs := hb.size
        clear hown
        by_cases hkn : k < oa.length
        · have hkn' : (k : Int) < (oa.length : Int) := by omega
          obtain ⟨g, rfl, -, hg, hcell⟩ := HCA.out (by omega)
          have d0 := (hb.cell (p := ⟨g, k * 3, none⟩) hg).trans (hcell k hkn).1
          have htk : (oa.map Setting.path).take (k + 1) = (oa.map Setting.path).take k ++ [oa[k].path] := by
            rw [List.take_succ_eq_append_getElem (by simpa using hkn)]
            simp
          obtain ⟨x, hx⟩ : ∃ x, oa[k].path = x := ⟨_, rfl⟩
          rw [hx] at d0 htk
          have HTK : Hid ((oa.map Setting.path).take (k + 1) = (oa.map Setting.path).take k ++ [x]) := htk
          clear hx htk hcell
          go_wp2_with (at_builtin; go_must (refine wpList_appendTxts rfl (.tmp 67) (.tmp 73) rfl w6.heap.size (.slice ta k tc) ((oa.map Setting.path).take k) rfl (OwnTxts.below HOW.out ((Below.refl _ wr).alloc (Nat.le_refl _) _)) _ [x] rfl (TxtsAt.newAt _ x _ (by simp)) (by simp <;> omega) (by simp only [World.size_alloc]; omega) ?_; intro v9 w9 hown9 hB9 hgr9 hnil9; obtain ⟨a9, c9, e9, -⟩ := hown9.value; have hl9 : ((oa.map Setting.path).take k ++ [x]).length = k + 1 := (by simp <;> omega); rw [hl9] at e9; subst e9))
          exact ⟨⟨k + 1, a9, c9, by go_num, rfl, by omega, by rw [HTK.out]; exact hown9, (HBR.out.alloc hbs _).trans hB9⟩, by simp [intOf]; omega⟩
        · obtain rfl : k = oa.length := by omega
          have hkn' : ¬ ((oa.length : Int) < (oa.length : Int)) := by omega
          have hown0 := HOW.out
          rw [List.take_of_length_le (by simp)] at hown0
          have HOW0 : Hid (OwnTxts w6.heap.size wr (.slice ta oa.length tc) (oa.map Setting.path)) := hown0
          clear hown0 HOW hb
          obtain ⟨w7, hw7⟩ : ∃ w7, w7 = wr := ⟨_, rfl⟩
          subst hw7
          go_wp2_with fail
          go_loopw [11, 13] (fun i11 i13 wx => ∃ (j : Nat) (ua : Option Addr) (uc : Nat), i13 = .int .i64 (j : Int) ∧ i11 = .slice ua (oa.length + j) uc ∧ j ≤ ob.length ∧ OwnTxts w6.heap.size wx (.slice ua (oa.length + j) uc) (oa.map Setting.path ++ (ob.map Setting.path).take j) ∧ Below w6.heap.size w6 wx) (fun _ i13 _ => ob.length - (intOf i13).toNat)
          case atStart => exact ⟨0, ta, tc, rfl, rfl, by omega, by simpa using HOW0.out, HBR.out⟩
          case round =>
            obtain ⟨j, ua, uc, rfl, rfl, hj, hown, hb⟩ := hrel
            have HOW : Hid (OwnTxts w6.heap.size wr (.slice ua (oa.length + j) uc) (oa.map Setting.path ++ (ob.map Setting.path).take j)) := hown
            have HBR2 : Hid (Below w6.heap.size w6 wr) := hb
            have hbs2 := hb.size
            clear hown
            by_cases hjn : j < ob.length
            · have hjn' : (j : Int) < (ob.length : Int) := by omega
              obtain ⟨g, rfl, -, hg, hcell⟩ := HCB.out (by omega)
              have d0 := (hb.cell (p := ⟨g, j * 3, none⟩) hg).trans (hcell j hjn).1
              have htk : oa.map Setting.path ++ (ob.map Setting.path).take (j + 1) = (oa.map Setting.path ++ (ob.map Setting.path).take j) ++ [ob[j].path] := by
                rw [List.take_succ_eq_append_getElem (by simpa using hjn), List.append_assoc]
                simp
              obtain ⟨x, hx⟩ : ∃ x, ob[j].path = x := ⟨_, rfl⟩
              rw [hx] at d0 htk
              have HTK : Hid (oa.map Setting.path ++ (ob.map Setting.path).take (j + 1) = (oa.map Setting.path ++ (ob.map Setting.path).take j) ++ [x]) := htk
              clear hx htk hcell
              go_wp2_with (at_builtin; go_must (refine wpList_appendTxts rfl (.tmp 81) (.tmp 87) rfl w6.heap.size (.slice ua (oa.length + j) uc) (oa.map Setting.path ++ (ob.map Setting.path).take j) rfl (OwnTxts.below HOW.out ((Below.refl _ wr).alloc (Nat.le_refl _) _)) _ [x] rfl (TxtsAt.newAt _ x _ (by simp)) (by simp <;> omega) (by simp only [World.size_alloc]; omega) ?_; intro v9 w9 hown9 hB9 hgr9 hnil9; obtain ⟨a9, c9, e9, -⟩ := hown9.value; have hl9 : ((oa.map Setting.path ++ (ob.map Setting.path).take j) ++ [x]).length = oa.length + (j + 1) := (by simp <;> omega); rw [hl9] at e9; subst e9))
              exact ⟨⟨j + 1, a9, c9, by go_num, rfl, by omega, by rw [HTK.out]; exact hown9, (HBR2.out.alloc hbs2 _).trans hB9⟩, by simp [intOf]; omega⟩
            · obtain rfl : j = ob.length := by omega
              have hjn' : ¬ ((ob.length : Int) < (ob.length : Int)) := by omega
              have hown0 := HOW.out
              rw [List.take_of_length_le (by simp)] at hown0
              have cs := specSort hown0.toS (by simp; omega)
              have hbl := both_len oa ob
              have hbs0 := both_short HSA.out HSB.out
              have hchF : changesF oa ob l2 = (bothPaths oa ob).filterMap (chg oa ob l2) := rfl
              unfold bothPaths at hbl hbs0 hchF
              obtain ⟨AL, hAL⟩ : ∃ AL, sortB (oa.map Setting.path ++ ob.map Setting.path) = AL := ⟨_, rfl⟩
              rw [hAL] at cs hbl hbs0 hchF
              have HP2 : Hid (AL.filterMap (chg oa ob l2) = PL) := hchF.symm.trans HP1.out
              have HSH : Hid (∀ p ∈ AL, p.size ≤ 205) := hbs0
              have hal' : (AL.length : Int) ≤ 4000 := by omega
              clear hown0 hAL hbs0 hchF HOW HP1 HOW0
              obtain ⟨w8, hw8⟩ : ∃ w8, w8 = wr := ⟨_, rfl⟩
              subst hw8
              go_wp2_with (go_at_call 50; go_must (refine cs.mono ?_; rintro e w9 ⟨⟨ps, rfl, hos⟩, hb9⟩; have hot := hos.toT; obtain ⟨sa, sc, hsv, -, hsc⟩ := hot.value; subst hsv; clear hos hot))
              have HSC : Hid (0 < AL.length → ∃ g, sa = some ⟨g, 0, none⟩ ∧ w8.heap.size ≤ g ∧ g < w9.heap.size ∧ ∀ j (hj : j < AL.length), w9.cell? ⟨g, j, none⟩ = some (.string AL[j])) := hsc
              have hb69 := good_below HBR2.out hb9
              have HB9 : Hid (Below w6.heap.size w6 w9) := hb69
              clear cs hsc hb9 hb
              go_loopw [14, 15] (fun i14 i15 wr => ∃ (k : Nat) (oa2 : Option Addr) (oc2 : Nat) (out : List Change), i15 = .int .i64 (k : Int) ∧ i14 = .slice oa2 out.length oc2 ∧ k ≤ AL.length ∧ out = (AL.take k).filterMap (chg oa ob l2) ∧ OwnChanges w9.heap.size wr (.slice oa2 out.length oc2) out ∧ Below w9.heap.size w9 wr) (fun _ i15 _ => AL.length - (intOf i15).toNat)
              case atStart => exact ⟨0, _, 0, [], rfl, rfl, by omega, rfl, HE.out w9, (Below.refl _ w9).alloc (Nat.le_refl _) _⟩
              case round =>
                obtain ⟨k, oa2, oc2, out, rfl, rfl, hk, hout, hown, hb⟩ := hrel
                have HOW : Hid (OwnChanges w9.heap.size wr (.slice oa2 out.length oc2) out) := hown
                have HOUT : Hid (out = (AL.take k).filterMap (chg oa ob l2)) := hout
                have HBR3 : Hid (Below w9.heap.size w9 wr) := hb
                have hol : out.length ≤ 4000 := by
                  have := filterMap_len (chg oa ob l2) (AL.take k)
                  rw [← hout, List.length_take] at this
                  omega
                clear hown hout
                by_cases hkn : k < AL.length
                · have hkn' : (k : Int) < (AL.length : Int) := by omega
                  obtain ⟨g, rfl, -, hg, hcell⟩ := HSC.out (by omega)
                  have hpc := hcell k hkn
                  have hps := HSH.out AL[k] (List.getElem_mem hkn)
                  have htk : (AL.take (k + 1)).filterMap (chg oa ob l2) = (AL.take k).filterMap (chg oa ob l2) ++ (match chg oa ob l2 AL[k] with | some c => [c] | none => []) := by
                    rw [List.take_succ_eq_append_getElem hkn, List.filterMap_append]
                    congr 1
                    simp only [List.filterMap_cons, List.filterMap_nil]
                    cases chg oa ob l2 AL[k] <;> rfl
                  obtain ⟨p, hp⟩ : ∃ p, AL[k] = p := ⟨_, rfl⟩
                  rw [hp] at hpc hps htk
                  have HPC : Hid (w9.cell? ⟨g, k, none⟩ = some (.string p)) := hpc
                  have HPZ : Hid (p.size ≤ 205) := hps
                  have HTK : Hid ((AL.take (k + 1)).filterMap (chg oa ob l2) = (AL.take k).filterMap (chg oa ob l2) ++ (match chg oa ob l2 p with | some c => [c] | none => [])) := htk
                  clear hcell hpc hps htk hp hb hb69
                  obtain ⟨wA, hwA⟩ : ∃ wA, wA = wr := ⟨_, rfl⟩
                  subst hwA
                  go_wp2_with fail
                  go_loopw [16, 17] (fun i16 i17 wz => ∃ (j : Nat), i17 = .int .i64 (j : Int) ∧ i16 = .bool ((l2.take j).any (fun q => withinB p q)) ∧ j ≤ l2.length ∧ Below w9.heap.size w9 wz ∧ OwnChanges w9.heap.size wz (.slice oa2 out.length oc2) out) (fun _ i17 _ => l2.length - (intOf i17).toNat)
                  case atStart => exact ⟨0, rfl, rfl, by omega, HBR3.out, HOW.out⟩
                  case round =>
                    obtain ⟨j, rfl, rfl, hj, hb, how⟩ := hrel
                    have HBR4 : Hid (Below w9.heap.size w9 wr) := hb
                    have HOW4 : Hid (OwnChanges w9.heap.size wr (.slice oa2 out.length oc2) out) := how
                    clear how
                    by_cases hjn : j < l2.length
                    · have hjn' : (j : Int) < (l2.length : Int) := by omega
                      obtain ⟨_, ta, tc, htv, hcell⟩ := HT2.out
                      simp only [Value.slice.injEq] at htv
                      obtain ⟨rfl, -, rfl⟩ := htv
                      obtain ⟨b, off, rfl, hbS, hcell⟩ := hcell (by omega)
                      have hbw := HS.out b hbS
                      have hb0 := good_below (good_below HB6.out HB9.out) hb
                      have d0 := (hb0.cell (p := ⟨b, off + j, none⟩) hbw).trans (hcell j hjn)
                      have d1 := (hb.cell (p := ⟨g, k, none⟩) hg).trans HPC.out
                      have hqz := HPS.out l2[j] (List.getElem_mem hjn)
                      have htk : (l2.take (j + 1)).any (fun q => withinB p q) = ((l2.take j).any (fun q => withinB p q) || withinB p l2[j]) := by
                        rw [List.take_succ_eq_append_getElem hjn, List.any_append]; simp
                      obtain ⟨q, hq⟩ : ∃ q, l2[j] = q := ⟨_, rfl⟩
                      rw [hq] at d0 hqz htk
                      obtain ⟨s, hs⟩ : ∃ s, (l2.take j).any (fun q => withinB p q) = s := ⟨_, rfl⟩
                      rw [hs] at htk ⊢
                      have HTJ : Hid ((l2.take (j + 1)).any (fun q => withinB p q) = (s || withinB p q)) := htk
                      have HQZ : Hid (q.size ≤ 205) := hqz
                      clear hcell hqz htk hq hs hb0 hb
                      go_upto_region 30 with fail
                      cases s
                      · have cw := fun w => specWithinQ' p q HPZ.out HQZ.out w
                        obtain ⟨F, hF⟩ : ∃ F, withinB p q = F := ⟨_, rfl⟩
                        rw [hF] at cw HTJ
                        clear hF
                        go_quiet ((go_at_call 61; exact Calls.quiet_of_same (cw _)))
                        go_wp2_with fail
                        exact ⟨⟨j + 1, by go_num, by rw [HTJ.out]; rfl, by omega, bel_drewN HBR4.out nq, OwnChanges.below HOW4.out (bel_drewN (Below.refl _ wr) nq)⟩, by simp [intOf]; omega⟩
                      · go_quiet (fail)
                        go_wp2_with fail
                        exact ⟨⟨j + 1, by go_num, by rw [HTJ.out]; rfl, by omega, bel_drewN HBR4.out nq, OwnChanges.below HOW4.out (bel_drewN (Below.refl _ wr) nq)⟩, by simp [intOf]; omega⟩
                    · obtain rfl : j = l2.length := by omega
                      have hjn' : ¬ ((l2.length : Int) < (l2.length : Int)) := by omega
                      have hse : (l2.take l2.length).any (fun q => withinB p q) = seenB l2 p := by rw [List.take_length]; rfl
                      rw [hse]
                      have hbz := good_below HB9.out hb
                      have hbzs := hbz.size
                      have hbs9 := hb.size
                      have d1 := (hb.cell (p := ⟨g, k, none⟩) hg).trans HPC.out
                      have ct0 := fun W (hW : Below w6.heap.size w6 W) => specText (w := W) (fun b hb => Nat.lt_of_lt_of_le hb hW.size) (HAA.out.keep (cells_below (fun b hb => hb) hW)) p
                      have ct1 := fun W (hW : Below w6.heap.size w6 W) => specText (w := W) (fun b hb => Nat.lt_of_lt_of_le hb hW.size) (HBB.out.keep (cells_below (fun b hb => hb) hW)) p
                      obtain ⟨x, hx⟩ : ∃ x, textOf oa p = x := ⟨_, rfl⟩
                      obtain ⟨y, hy⟩ : ∃ y, textOf ob p = y := ⟨_, rfl⟩
                      obtain ⟨sn, hsn⟩ : ∃ sn, seenB l2 p = sn := ⟨_, rfl⟩
                      have hch : chg oa ob l2 p = if sn && !(x.toList == y.toList) then some ⟨p, x, y⟩ else none := by unfold chg; rw [hx, hy, hsn]
                      rw [hx] at ct0
                      rw [hy] at ct1
                      rw [hsn]
                      have HCH : Hid (chg oa ob l2 p = if sn && !(x.toList == y.toList) then some ⟨p, x, y⟩ else none) := hch
                      clear hch hx hy hsn hse
                      obtain ⟨wz, hwz⟩ : ∃ wz, wz = wr := ⟨_, rfl⟩
                      subst hwz
                      have HBZ : Hid (Below w6.heap.size w6 wz) := hbz
                      have hgz : g < wz.heap.size := by omega
                      have HOW5 : Hid (OwnChanges w9.heap.size wz (.slice oa2 out.length oc2) out) := HOW4.out
                      clear hbz hb HOW HBR3 HOW4 hbzs
                      by_cases hgo : (sn && !(x.toList == y.toList)) = true
                      · have hch := HCH.out
                        rw [if_pos hgo] at hch
                        have htk := HTK.out
                        rw [hch, ← HOUT.out] at htk
                        have HTK2 : Hid ((AL.take (k + 1)).filterMap (chg oa ob l2) = out ++ [⟨p, x, y⟩]) := htk
                        simp only [Bool.and_eq_true, Bool.not_eq_true'] at hgo
                        obtain ⟨rfl, hne⟩ := hgo
                        clear hch htk HTK HCH
                        go_wp2_with (first
                          | (go_at_call 62; have hchk := ht1; refine (ct1 _ (good_below HBZ.out ht1)).mono ?_; rintro e wt2 ⟨rfl, ht2⟩; have ht12 := good_below ht1 ht2; have d1 := (ht12.cell (p := ⟨g, k, none⟩) hgz).trans d1; have hs12 := ht12.size)
                          | (go_at_call 62; go_must (refine (ct0 _ HBZ.out).mono ?_; rintro e wt1 ⟨rfl, ht1⟩; have hs1' := ht1.size; have d1' := (ht1.cell (p := ⟨g, k, none⟩) hgz).trans d1))
                          | (at_builtin; go_must (refine wpList_appendChanges rfl (.tmp 134) (.tmp 142) rfl w9.heap.size (.slice oa2 out.length oc2) out rfl (OwnChanges.below HOW5.out (ht12.alloc (by omega) _)) _ [⟨p, x, y⟩] rfl (ChangesAt.newAt _ p x y _ (by simp)) (by simp <;> omega) (by simp only [World.size_alloc]; omega) ?_; intro vA wB hownB hBB hgrB hnilB; obtain ⟨aB, cB, eB, -⟩ := hownB.value; have hlB : (out ++ [(⟨p, x, y⟩ : Change)]).length = out.length + 1 := (by simp); rw [hlB] at eB; subst eB)))
                        exact ⟨⟨k + 1, aB, cB, out ++ [⟨p, x, y⟩], by go_num, by simp, by omega, HTK2.out.symm, by simpa using hownB, ((HBR4.out.trans (ht12.mono (by omega))).alloc (by omega) _).trans hBB⟩, by simp [intOf]; omega⟩
                      · have hch := HCH.out
                        rw [if_neg hgo] at hch
                        have htk := HTK.out
                        rw [hch, List.append_nil, ← HOUT.out] at htk
                        have HTK2 : Hid ((AL.take (k + 1)).filterMap (chg oa ob l2) = out) := htk
                        clear hch htk HTK HCH
                        cases sn
                        · clear hgo
                          go_wp2_with (first
                            | (go_at_call 62; have hchk := ht1; refine (ct1 _ (good_below HBZ.out ht1)).mono ?_; rintro e wt2 ⟨rfl, ht2⟩; have ht12 := good_below ht1 ht2)
                            | (go_at_call 62; go_must (refine (ct0 _ HBZ.out).mono ?_; rintro e wt1 ⟨rfl, ht1⟩; have hs1' := ht1.size; have d1' := (ht1.cell (p := ⟨g, k, none⟩) hgz).trans d1)))
                          exact ⟨⟨k + 1, oa2, oc2, out, by go_num, rfl, by omega, HTK2.out.symm, OwnChanges.below HOW5.out ht12, HBR4.out.trans (ht12.mono hbs9)⟩, by simp [intOf]; omega⟩
                        · have heq : (x.toList == y.toList) = true := by simpa using hgo
                          clear hgo
                          go_wp2_with (first
                            | (go_at_call 62; have hchk := ht1; refine (ct1 _ (good_below HBZ.out ht1)).mono ?_; rintro e wt2 ⟨rfl, ht2⟩; have ht12 := good_below ht1 ht2)
                            | (go_at_call 62; go_must (refine (ct0 _ HBZ.out).mono ?_; rintro e wt1 ⟨rfl, ht1⟩; have hs1' := ht1.size; have d1' := (ht1.cell (p := ⟨g, k, none⟩) hgz).trans d1)))
                          exact ⟨⟨k + 1, oa2, oc2, out, by go_num, rfl, by omega, HTK2.out.symm, OwnChanges.below HOW5.out ht12, HBR4.out.trans (ht12.mono hbs9)⟩, by simp [intOf]; omega⟩
                · obtain rfl : k = AL.length := by omega
                  have hkn' : ¬ ((AL.length : Int) < (AL.length : Int)) := by omega
                  have hout := HOUT.out
                  rw [List.take_length, HP2.out] at hout
                  subst hout
                  go_wp2_with fail
                  go_ret2
                  exact ⟨⟨_, rfl, OwnChanges.mono HOW.out (good_below HB6.out HB9.out).size⟩, good_below (good_below HB6.out HB9.out) HBR3.out⟩
end Go.Proofs.YtoopdcbgnccmiaaGreatDoor
