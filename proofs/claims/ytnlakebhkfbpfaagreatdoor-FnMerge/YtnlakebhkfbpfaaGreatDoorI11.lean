/-
  What impl's Merge answers. No statement of the seat is proved here.
-/
import Derived.Test.YtnlakebhkfbpfaaGreatDoorQ2
import Derived.Test.YtnlakebhkfbpfaaGreatDoorI10
import Derived.Test.YtnlakebhkfbpfaaGreatDoorG6
namespace Go.Proofs.YtnlakebhkfbpfaaGreatDoor
open Go.ChangeShapes Go.WideShapes Go.ChangeAt Go.RowKit
set_option linter.unusedVariables false

set_option maxRecDepth 100000 in
theorem implMax1 (n : Int) (g : Nat) (w : World) (h0 : w.cell? ⟨g, 0, none⟩ = some (.int .i64 n)) : Calls Tryz.prog 27 #[.slice (some ⟨g, 0, none⟩) 1 1] w fun e w' => e = .returned (.int .i64 n) ∧ w' = w := by
  go_enter Tryz.func27, Tryz.ntmps27
  go_wp2
  refine wp_loop_rounds 1 ?_
  rw [rounds_succ]
  go_wp2
  go_ret
  exact ⟨rfl, rfl⟩
set_option maxRecDepth 100000 in
theorem implLong1 (n : Int) (g : Nat) (w : World) (h0 : w.cell? ⟨g, 0, none⟩ = some (.int .i64 n)) : Calls Tryz.prog 13 #[.slice (some ⟨g, 0, none⟩) 1 1] w fun e w' => e = .returned (.bool (decide (4096 < n))) ∧ w' = w := by
  have c := implMax1 n g w h0
  go_enter Tryz.func13, Tryz.ntmps13
  go_wp2_with (go_at_call 27; go_must (refine c.mono ?_; rintro e w1 ⟨rfl, rfl⟩))
  go_ret
  exact ⟨rfl, rfl⟩
set_option maxRecDepth 100000 in
theorem implCloneT (s : ByteArray) (hz : s.size ≤ 1048576) (w : World) : Calls Tryz.prog 17 #[.string s] w fun e w' => e = .returned (.string s) ∧ Below w.heap.size w w' := by
  have c := Tryz.stringslite_Clone s w (by omega)
  go_enter Tryz.func17, Tryz.ntmps17
  go_wp2_with (go_at_call 39; go_must (refine c.mono ?_; rintro e w1 ⟨rfl, hb1⟩))
  go_ret
  exact ⟨rfl, hb1⟩
theorem one_new (w : World) (n : Int) (g : Nat) (hg : g = w.heap.size) : (w.alloc (.cells #[.int .i64 n] 3)).cell? ⟨g, 0, none⟩ = some (.int .i64 n) := by
  subst hg
  have h : Blk (w.alloc (.cells #[.int .i64 n] 3)) w.heap.size 3 #[.int .i64 n] := heap_alloc_last w _
  exact h.cell 0
/-- Settings whose texts are of some length. -/
def Fair (out : List Setting) : Prop := ∀ o ∈ out, o.path.size ≤ 1048576 ∧ o.text.size ≤ 1048576 ∧ o.from'.size ≤ 1048576
theorem laySteps_fair (nm : ByteArray) (hn : nm.size ≤ 1048576) : ∀ (es : List Entry) (out : List Setting), (∀ e ∈ es, EntrysOK 1048576 e) → Fair out → Fair (es.foldl (layStep nm) out)
  | [], out, _, h => h
  | e :: es, out, he, h => by
    rw [List.foldl_cons]
    refine laySteps_fair nm hn es _ (fun y hy => he y (List.mem_cons_of_mem _ hy)) ?_
    have h1 := he e (List.mem_cons_self ..)
    unfold EntrysOK at h1
    exact layStep_mem (P := fun o => o.path.size ≤ 1048576 ∧ o.text.size ≤ 1048576 ∧ o.from'.size ≤ 1048576) h ⟨by have := h1.1; simp [newS]; omega, by have := h1.2; simp [newS]; omega, hn⟩
theorem laidFold_fair : ∀ (l : List Layer) (out : List Setting), (∀ x ∈ l, LayersOK 1048576 x) → Fair out → Fair (l.foldl layLayer out)
  | [], out, _, h => h
  | x :: l, out, hx, h => by
    rw [List.foldl_cons]
    refine laidFold_fair l _ (fun y hy => hx y (List.mem_cons_of_mem _ hy)) ?_
    have h1 := hx x (List.mem_cons_self ..)
    unfold LayersOK at h1
    exact laySteps_fair x.name (by have := h1.1; omega) x.entries out h1.2.2 h
set_option maxRecDepth 100000 in
set_option maxHeartbeats 8000000 in
theorem implMerge : MergeC 6 (Lib.Utf8Tabs 1 2) mergeF := by
  intro S l v w hS h hll hok hT
  have hTw := hT w (Below.refl _ _)
  have hw1 : ∀ o, Below w.heap.size w (w.alloc o) := fun o => (Below.refl _ w).alloc (Nat.le_refl _) _
  obtain ⟨a, cap, hv⟩ := h.shape
  have hll' : (l.length : Int) ≤ 1048576 := by omega
  have cl1 := implLong1 (l.length : Int) w.heap.size (w.alloc (.cells #[.int .i64 (l.length : Int)] 3)) (one_new w _ _ rfl)
  unfold mergeF
  by_cases h4 : 4096 < l.length
  · have h4' : (4096 : Int) < (l.length : Int) := by omega
    rw [if_pos h4]
    rw [decide_eq_true h4'] at cl1
    subst hv
    clear hT hTw hok h hS
    go_enter Tryz.func6, Tryz.ntmps6
    go_wp2_with (go_at_call 13; go_must (refine cl1.mono ?_; rintro e w1 ⟨rfl, rfl⟩))
    go_ret2
    exact ⟨⟨_, rfl, OwnSettings.nil _ _⟩, hw1 _⟩
  · have h4' : ¬ ((4096 : Int) < (l.length : Int)) := by omega
    rw [if_neg h4]
    rw [decide_eq_false h4'] at cl1
    have cl := fun o => implLayers (w := w.alloc o) (fun b hb => Nat.lt_of_lt_of_le (hS b hb) (hw1 o).size) (h.keep (cells_below hS (hw1 o))) hok (hT _ (hw1 o))
    cases hB : layersB nameOK l
    · rw [hB] at cl
      rw [if_neg (by simp)]
      subst hv
      clear hT hTw hok h hS hB
      go_enter Tryz.func6, Tryz.ntmps6
      go_wp2_with (first
        | (go_at_call 13; go_must (refine cl1.mono ?_; rintro e w1 ⟨rfl, rfl⟩))
        | (go_at_call 14; go_must (refine (cl _).mono ?_; rintro e w2 ⟨rfl, hb2⟩)))
      go_ret2
      exact ⟨⟨_, rfl, OwnSettings.nil _ _⟩, good_below (hw1 _) hb2⟩
    · rw [hB] at cl
      rw [if_pos rfl]
      obtain ⟨f1, f2, f3⟩ := layers_fine hB
      have hol := laid_len hB
      obtain ⟨lv, hlv, hat, hen⟩ := layers_lv h
      have hone : LayVsOne lv := fun y hy => by
        obtain ⟨ya, yc, hq⟩ := (hen y hy).shape
        rw [hq]; rfl
      have hsl : Slices lv := fun y hy => by
        obtain ⟨ya, yc, hq⟩ := (hen y hy).shape
        exact ⟨ya, _, yc, hq⟩
      have hsm : ∀ y ∈ lv, LaySm S w y := fun y hy => by
        have := f3 y.x (by rw [← hlv]; exact List.mem_map.2 ⟨y, hy, rfl⟩)
        exact ⟨hen y hy, this.1, this.2⟩
      have hnm : Named lv := by
        rw [← hlv, List.map_map, List.pairwise_map] at f2
        exact f2
      have hl20 : lv.length ≤ 20 := by rw [← hlv, List.length_map] at f1; exact f1
      have cm := fun W (hW : Below w.heap.size w W) => implMerged (w := W) (fun b hb => Nat.lt_of_lt_of_le (hS b hb) hW.size) (hat.keep (cells_below hS hW)) hone hsl (fun y hy => ⟨(hsm y hy).1.keep (cells_below hS hW), (hsm y hy).2⟩) hnm hl20
      have hpl := over_plain lv
      rw [hlv] at hpl
      have hfair : Fair (laidF (overP l)) := laidFold_fair (overP l) [] (fun x hx => hok x (overP_mem hx)) (fun o ho => by cases ho)
      have hri := laid_rises (overP l)
      rw [hpl] at cm
      obtain ⟨O, hO⟩ : ∃ O, laidF (overP l) = O := ⟨_, rfl⟩
      rw [hO] at cm hfair hri hol ⊢
      have HFA : Hid (Fair O) := hfair
      have HRI : Hid (SRises O) := hri
      have hol' : (O.length : Int) ≤ 2000 := by omega
      subst hv
      clear hT hTw hok h hS hB f1 f2 f3 hat hen hone hsl hsm hnm hl20 hpl hO hlv hfair hri
      go_enter Tryz.func6, Tryz.ntmps6
      go_wp2_with (first
        | (go_at_call 13; go_must (refine cl1.mono ?_; rintro e w1 ⟨rfl, rfl⟩))
        | (go_at_call 14; go_must (refine (cl _).mono ?_; rintro e w2 ⟨rfl, hb2⟩; have hb2' := good_below (hw1 _) hb2))
        | (go_at_call 16; go_must (refine (cm _ hb2').mono ?_; rintro e w3 ⟨⟨b, n, rfl, hmp, hbb, hnn⟩, hb3⟩; have ci := implInOrder hmp HRI.out (by omega); clear cm cl cl1))
        | (go_at_call 15; go_must (refine ci.mono ?_; rintro e w4 ⟨⟨p, rfl, hop⟩, hb4⟩; obtain ⟨pa, pc, hpv, -, hpc⟩ := hop.value; subst hpv; clear ci)))
      have hb4' : Below w.heap.size w w4 := good_below (good_below hb2' hb3) hb4
      have HPC : Hid (0 < O.length → ∃ g, pa = some ⟨g, 0, none⟩ ∧ w3.heap.size ≤ g ∧ g < w4.heap.size ∧ ∀ j (hj : j < O.length), w4.cell? ⟨g, j * 3, none⟩ = some (.string O[j].path) ∧ w4.cell? ⟨g, j * 3 + 1, none⟩ = some (.string O[j].text) ∧ w4.cell? ⟨g, j * 3 + 2, none⟩ = some (.string O[j].from')) := hpc
      have HB4 : Hid (Below w.heap.size w w4) := hb4'
      clear hop hpc hmp hbb hnn hb2 hb2' hb3 hb4 hb4' hw1
      go_loopw [4, 18] (fun i4 i18 wr => ∃ (k : Nat) (oa : Option Addr) (oc : Nat), i18 = .int .i64 (k : Int) ∧ i4 = .slice oa k oc ∧ k ≤ O.length ∧ OwnSettings w4.heap.size wr (.slice oa k oc) (O.take k) ∧ Below w4.heap.size w4 wr) (fun _ i18 _ => O.length - (intOf i18).toNat)
      case atStart => exact ⟨0, none, 0, rfl, rfl, by omega, OwnSettings.nil _ _, Below.refl _ _⟩
      case round =>
        obtain ⟨k, oa, oc, rfl, rfl, hk, hown, hb⟩ := hrel
        have HOW : Hid (OwnSettings w4.heap.size wr (.slice oa k oc) (O.take k)) := hown
        have HBR : Hid (Below w4.heap.size w4 wr) := hb
        have hbs := hb.size
        clear hown
        by_cases hkn : k < O.length
        · have hkn' : (k : Int) < (O.length : Int) := by omega
          obtain ⟨g, rfl, -, hg, hcell⟩ := HPC.out (by omega)
          obtain ⟨c0, c1, c2⟩ := hcell k hkn
          have hz := HFA.out O[k] (List.getElem_mem hkn)
          have htk : O.take (k + 1) = O.take k ++ [O[k]] := List.take_succ_eq_append_getElem hkn
          obtain ⟨x, hx⟩ : ∃ x, O[k] = x := ⟨_, rfl⟩
          rw [hx] at c0 c1 c2 hz htk
          obtain ⟨xp, xt, xf⟩ := x
          dsimp only at c0 c1 c2 hz
          have d0 := (hb.cell (p := ⟨g, k * 3, none⟩) hg).trans c0
          have d1 := (hb.cell (p := ⟨g, k * 3 + 1, none⟩) hg).trans c1
          have d2 := (hb.cell (p := ⟨g, k * 3 + 2, none⟩) hg).trans c2
          have HTK : Hid (O.take (k + 1) = O.take k ++ [(⟨xp, xt, xf⟩ : Setting)]) := htk
          have cp := fun w => implCloneT xp hz.1 w
          have ct := fun w => implCloneT xt hz.2.1 w
          have cf := fun w => implCloneT xf hz.2.2 w
          have hbk : Blk (wr.alloc (.cells #[.string xp, .string xt, .string xf] 50)) wr.heap.size 50 #[.string xp, .string xt, .string xf] := heap_alloc_last wr _
          have hbA : Below wr.heap.size wr (wr.alloc (.cells #[.string xp, .string xt, .string xf] 50)) := (Below.refl _ wr).alloc (Nat.le_refl _) _
          obtain ⟨gx, hgx⟩ : ∃ gx, wr.heap.size = gx := ⟨_, rfl⟩
          rw [hgx] at hbk
          clear hx hz htk c0 c1 c2 hcell
          go_upto_region 9 with fail
          obtain ⟨wA, hwA⟩ : ∃ wA, wr.alloc (.cells #[.string xp, .string xt, .string xf] 50) = wA := ⟨_, rfl⟩
          rw [hwA] at hbk hbA ⊢
          have kp : ∀ w', Below wA.heap.size wA.drew w' → w'.cell? ⟨gx, 0, none⟩ = some (.string xp) ∧ w'.cell? ⟨gx, 1, none⟩ = some (.string xt) ∧ w'.cell? ⟨gx, 2, none⟩ = some (.string xf) := fun w' hB => by
            have hB' : Below wA.heap.size wA w' := ((Below.refl _ wA).drew).trans hB
            have b1 := Blk.below hbk hB'
            exact ⟨b1.cell 0, b1.cell 1, b1.cell 2⟩
          have KP : Hid (∀ w', Below wA.heap.size wA.drew w' → w'.cell? ⟨gx, 0, none⟩ = some (.string xp) ∧ w'.cell? ⟨gx, 1, none⟩ = some (.string xt) ∧ w'.cell? ⟨gx, 2, none⟩ = some (.string xf)) := kp
          have e0 := hbk.cell 0
          have e1 := hbk.cell 1
          have e2 := hbk.cell 2
          simp at e0 e1 e2
          have HBA : Hid (Below wr.heap.size wr wA) := hbA
          have HAD : Hid (Below wA.heap.size wA wA.drew) := (Below.refl _ wA).drew
          have hne : some gx ≠ (Value.slice oa k oc).ownBlock := fun e => by
            have h1 := (World.ownsRow.lt HOW.out _ e.symm).2
            omega
          have hsA : wr.heap.size ≤ wA.heap.size := hbA.size
          clear kp hbk hbA hwA hgx d0 d1 d2 hb
          go_region_held3 (fun w' => w'.cell? ⟨gx, 0, none⟩ = some (.string xp) ∧ w'.cell? ⟨gx, 1, none⟩ = some (.string xt) ∧ w'.cell? ⟨gx, 2, none⟩ = some (.string xf)) (first | go_keep | exact ⟨hgr8.cell kq.1 hne, hgr8.cell kq.2.1 hne, hgr8.cell kq.2.2 hne⟩ | exact kq | exact KP.out _ hb57 | exact KP.out _ hb56 | exact KP.out _ hb5 | exact KP.out _ (Below.refl _ _)) (first
            | (go_at_call 17; have hchk := hb6; refine (cf _).mono ?_; rintro e w7 ⟨rfl, hb7⟩; have hb57 := good_below hb56 hb7; have kq := KP.out _ (hb57.alloc hb57.size (.cells #[.string xp, .string xt, .string xf] 32)); have hbr7 := good_below HBA.out (good_below HAD.out hb57); have how7 := OwnSettings.below HOW.out hbr7; have hs7 := hbr7.size)
            | (go_at_call 17; have hchk := hb5; refine (ct _).mono ?_; rintro e w6 ⟨rfl, hb6⟩; have hb56 := good_below hb5 hb6)
            | (go_at_call 17; refine (cp _).mono ?_; rintro e w5 ⟨rfl, hb5⟩)
            | (refine step_appendSettings rfl (.tmp 22) (.tmp 34) rfl w4.heap.size (.slice oa k oc) (O.take k) (by simp [Act.eval]) (OwnSettings.below how7 ((Below.refl _ w7).alloc (Nat.le_refl _) _)) (.slice (some ⟨w7.heap.size, 0, none⟩) 1 1) [⟨xp, xt, xf⟩] (by simp [Act.eval]) (SettingsAt.new w7 xp xt xf) (by simp <;> omega) (by simp only [World.size_alloc]; omega) ?_; intro va vn vc w8 hown8 hB8 hgr8 hnil8; obtain ⟨a8, c8, e8, -⟩ := hown8.value; have hl8 : (O.take k ++ [(⟨xp, xt, xf⟩ : Setting)]).length = k + 1 := (by simp <;> omega); rw [hl8] at e8; simp only [Value.slice.injEq] at e8; obtain ⟨rfl, rfl, rfl⟩ := e8))
          all_goals
            go_wp2_with fail
            have hbw7 := good_below HBR.out hbr7
            exact ⟨⟨k + 1, va, vc, by go_num, rfl, by omega, by rw [HTK.out]; exact hown8, (hbw7.alloc hbw7.size _).trans hB8⟩, by simp [intOf]; omega⟩
        · obtain rfl : k = O.length := by omega
          have hkn' : ¬ ((O.length : Int) < (O.length : Int)) := by omega
          have hown := HOW.out
          rw [List.take_length] at hown
          go_wp2_with fail
          go_ret2
          exact ⟨⟨_, rfl, OwnSettings.mono hown HB4.out.size⟩, good_below HB4.out HBR.out⟩
end Go.Proofs.YtnlakebhkfbpfaaGreatDoor
