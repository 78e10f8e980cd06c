/-
  What impl's areEntries, areLayers answer: their walks. No statement of the seat is proved here.
-/
import Derived.Test.YtnlakebhkfbpfaaGreatDoorI2
namespace Go.Proofs.YtnlakebhkfbpfaaGreatDoor
open Go.ChangeShapes Go.WideShapes Go.ChangeAt Go.RowKit
set_option linter.unusedVariables false

theorem OwnTxts.row {B : Nat} {w : World} {v : Value} {l : List ByteArray} (h : OwnTxts B w v l) : ∃ a cap, v = .slice a l.length cap ∧ (0 < l.length → ∃ g, a = some ⟨g, 0, none⟩ ∧ g < w.heap.size ∧ ∀ j (hj : j < l.length), w.cell? ⟨g, j, none⟩ = some (.string l[j])) := by
  obtain ⟨a, cap, hv, _, hc⟩ := h.value
  refine ⟨a, cap, hv, fun h0 => ?_⟩
  obtain ⟨g, h1, _, h3, h4⟩ := hc h0
  exact ⟨g, h1, h3, h4⟩
theorem TxtsAt.newAt (w : World) (x : ByteArray) (g : Nat) (hg : w.heap.size = g) : TxtsAt (fun b => b = g) (w.alloc (.cells #[.string x] 9)) (.slice (some ⟨g, 0, none⟩) 1 1) [x] := by
  subst hg; exact TxtsAt.new w x
set_option maxRecDepth 100000 in
set_option maxHeartbeats 4000000 in
theorem implEntries {S : Nat → Prop} {es : List Entry} {v : Value} {w : World} (hS : ∀ b, S b → b < w.heap.size) (h : EntrysAt S w v es) (hok : ∀ y ∈ es, EntrysOK 1048576 y) (hT : Lib.Utf8Tabs 1 2 w) :
    Calls Tryz.prog 28 #[v] w fun e w' => e = .returned (.bool (decide (es.length ≤ 100) && entriesB nameOK es)) ∧ Below w.heap.size w w' := by
  obtain ⟨hlm, a, cap, rfl, hc⟩ := h
  have HC : Hid _ := hc
  have HS : Hid (∀ b, S b → b < w.heap.size) := hS
  have HOK : Hid (∀ y ∈ es, EntrysOK 1048576 y) := hok
  have HT : Hid (Lib.Utf8Tabs 1 2 w) := hT
  have hlm' : (es.length : Int) ≤ 9223372036854775807 := by simp [maxLen] at hlm; omega
  clear hc hS hok hlm hT
  by_cases h100 : es.length ≤ 100
  · have h100' : ¬ ((100 : Int) < (es.length : Int)) := by omega
    rw [decide_eq_true h100, Bool.true_and, entries_split]
    obtain ⟨F, hF⟩ : ∃ F, (es.all (fun e => decide (e.text.size ≤ 200)) && ((es.map Entry.path).all (pathB nameOK) && !dupFrom (es.map Entry.path) [])) = F := ⟨_, rfl⟩
    have HF : Hid ((es.all (fun e => decide (e.text.size ≤ 200)) && ((es.map Entry.path).all (pathB nameOK) && !dupFrom (es.map Entry.path) [])) = F) := hF
    rw [hF]
    clear hF
    go_enter Tryz.func28, Tryz.ntmps28
    go_wp2_with fail
    go_loopw [3, 11] (fun i3 i11 wr => ∃ (k : Nat) (oa : Option Addr) (oc : Nat), i11 = .int .i64 (k : Int) ∧ i3 = .slice oa k oc ∧ k ≤ es.length ∧ OwnTxts w.heap.size wr (.slice oa k oc) ((es.take k).map Entry.path) ∧ (es.take k).all (fun e => decide (e.text.size ≤ 200)) = true ∧ Below w.heap.size w wr) (fun _ i11 _ => es.length - (intOf i11).toNat)
    case atStart => exact ⟨0, none, 0, rfl, rfl, by omega, OwnTxts.nil _ _, by simp, Below.refl _ _⟩
    case round =>
      obtain ⟨k, oa, oc, rfl, rfl, hk, hown, hall, hb⟩ := hrel
      have HAL : Hid ((es.take k).all (fun e => decide (e.text.size ≤ 200)) = true) := hall
      have HOW : Hid (OwnTxts w.heap.size wr (.slice oa k oc) ((es.take k).map Entry.path)) := hown
      clear hall hown
      by_cases hkn : k < es.length
      · have hkn' : (k : Int) < (es.length : Int) := by omega
        obtain ⟨b, off, rfl, hbS, hcell⟩ := HC.out (by omega)
        obtain ⟨x0, x1⟩ := hcell k hkn
        have hbw := HS.out b hbS
        have htk : es.take (k + 1) = es.take k ++ [es[k]] := List.take_succ_eq_append_getElem hkn
        have hoy := HOK.out es[k] (List.getElem_mem hkn)
        have hbad : decide (es[k].text.size ≤ 200) = false → (es.all (fun e => decide (e.text.size ≤ 200))) = false := fun h => by
          rw [List.all_eq_false]; exact ⟨es[k], List.getElem_mem hkn, by rw [h]; simp⟩
        obtain ⟨y, hy⟩ : ∃ y, es[k] = y := ⟨_, rfl⟩
        rw [hy] at x0 x1 htk hoy hbad
        obtain ⟨yp, yt⟩ := y
        unfold EntrysOK at hoy
        dsimp only at x0 x1 hoy hbad
        have d0 := (hb.cell (p := ⟨b, off + k * 2, none⟩) hbw).trans x0
        have d1 := (hb.cell (p := ⟨b, off + k * 2 + 1, none⟩) hbw).trans x1
        have cl := fun w => implLong yt (by omega) w
        have HTK : Hid (es.take (k + 1) = es.take k ++ [(⟨yp, yt⟩ : Entry)]) := htk
        have HBAD : Hid (decide (yt.size ≤ 200) = false → (es.all (fun e => decide (e.text.size ≤ 200))) = false) := hbad
        have hbs := hb.size
        have hbb := hb.alloc hbs (.cells #[.string yp, .string yt] 35)
        clear hy hoy htk hbad x0 x1 hcell
        by_cases h200 : yt.size ≤ 200
        · rw [decide_eq_true h200] at cl
          go_wp2_with (first
            | (go_at_call 47; go_must (refine (cl _).mono ?_; rintro e w1 ⟨rfl, rfl⟩))
            | (at_builtin; go_must (refine wpList_appendTxts rfl (.tmp 18) (.tmp 21) rfl w.heap.size (.slice oa k oc) ((es.take k).map Entry.path) rfl (OwnTxts.below HOW.out (((Below.refl _ wr).alloc (Nat.le_refl _) _).alloc (by simp) _)) _ [yp] rfl (TxtsAt.newAt _ yp _ (by simp)) (by simp <;> omega) (by simp only [World.size_alloc]; omega) ?_; intro v9 w9 hown9 hB9 hgr9 hnil9; obtain ⟨a9, c9, e9, -⟩ := hown9.value; have hl9 : ((es.take k).map Entry.path ++ [yp]).length = k + 1 := (by simp <;> omega); rw [hl9] at e9; subst e9)))
          refine ⟨⟨k + 1, a9, c9, rfl, rfl, by omega, ?_, ?_, ((hbb.alloc hbb.size _).trans hB9)⟩, by simp [intOf]; omega⟩
          · rw [HTK.out, List.map_append]; exact hown9
          · rw [HTK.out, List.all_append, HAL.out]; simp [h200]
        · rw [decide_eq_false h200] at cl
          go_wp2_with (go_at_call 47; go_must (refine (cl _).mono ?_; rintro e w1 ⟨rfl, rfl⟩))
          go_ret
          refine ⟨?_, hbb⟩
          have hF := HF.out
          rw [HBAD.out (decide_eq_false h200)] at hF
          rw [← hF]; rfl
      · obtain rfl : k = es.length := by omega
        have hkn' : ¬ ((es.length : Int) < (es.length : Int)) := by omega
        have hall := HAL.out
        have hown := HOW.out
        rw [List.take_length] at hall hown
        have hF := HF.out
        rw [hall, Bool.true_and] at hF
        obtain ⟨a9, c9, e9, hrow⟩ := hown.row
        rw [List.length_map] at e9
        simp only [Value.slice.injEq] at e9
        obtain ⟨rfl, -, rfl⟩ := e9
        have hzz : ∀ s ∈ es.map Entry.path, s.size ≤ 1048576 := fun s hs => by
          obtain ⟨y, hy, rfl⟩ := List.mem_map.1 hs
          have := (HOK.out y hy).1
          omega
        have cp := implPaths (es.map Entry.path) oa oc wr (by rw [List.length_map]; omega) hzz hrow (Utf8Tabs_below HT.out hb)
        have cs := fun w1 (hb1 : Below wr.heap.size wr w1) => implSingle (es.map Entry.path) oa oc w1 (by rw [List.length_map]; omega) hzz (fun h0 => by
          obtain ⟨g, h1, h2, h3⟩ := hrow h0
          exact ⟨g, h1, Nat.lt_of_lt_of_le h2 hb1.size, fun j hj => (hb1.cell (p := ⟨g, j, none⟩) h2).trans (h3 j hj)⟩)
        simp only [List.length_map] at cp cs
        obtain ⟨A, hA⟩ : ∃ A, (es.map Entry.path).all (pathB nameOK) = A := ⟨_, rfl⟩
        obtain ⟨D, hD⟩ : ∃ D, dupFrom (es.map Entry.path) [] = D := ⟨_, rfl⟩
        rw [hA] at cp hF
        rw [hD] at cs hF
        subst hF
        clear hA hD hall hown hrow hzz
        cases A
        · go_wp2_with (go_at_call 48; go_must (refine cp.mono ?_; rintro e w1 ⟨rfl, hb1⟩))
          go_ret
          exact ⟨by simp, good_below hb hb1⟩
        · go_wp2_with (first
            | (go_at_call 48; go_must (refine cp.mono ?_; rintro e w1 ⟨rfl, hb1⟩))
            | (go_at_call 30; go_must (refine (cs _ hb1).mono ?_; rintro e w2 ⟨rfl, hb2⟩)))
          go_ret
          exact ⟨by simp, good_below hb (good_below hb1 hb2)⟩
  · have h100' : (100 : Int) < (es.length : Int) := by omega
    rw [decide_eq_false h100]
    go_enter Tryz.func28, Tryz.ntmps28
    go_wp2_with fail
    go_ret
    exact ⟨rfl, Below.refl _ _⟩
set_option maxRecDepth 100000 in
set_option maxHeartbeats 4000000 in
theorem implLayers {S : Nat → Prop} {l : List Layer} {v : Value} {w : World} (hS : ∀ b, S b → b < w.heap.size) (h : LayersAt S w v l) (hok : ∀ x ∈ l, LayersOK 1048576 x) (hT : Lib.Utf8Tabs 1 2 w) :
    Calls Tryz.prog 14 #[v] w fun e w' => e = .returned (.bool (layersB nameOK l)) ∧ Below w.heap.size w w' := by
  obtain ⟨hlm, a, cap, rfl, hc⟩ := h
  have HC : Hid _ := hc
  have HS : Hid (∀ b, S b → b < w.heap.size) := hS
  have HOK : Hid (∀ x ∈ l, LayersOK 1048576 x) := hok
  have HT : Hid (Lib.Utf8Tabs 1 2 w) := hT
  have hlm' : (l.length : Int) ≤ 9223372036854775807 := by simp [maxLen] at hlm; omega
  clear hc hS hok hlm hT
  by_cases h20 : l.length ≤ 20
  · have h20' : ¬ ((20 : Int) < (l.length : Int)) := by omega
    rw [layers_split nameOK l h20]
    obtain ⟨F, hF⟩ : ∃ F, (l.all (fun x => decide (x.entries.length ≤ 100) && entriesB nameOK x.entries) && ((l.map Layer.name).all nameOK && !dupFrom (l.map Layer.name) [])) = F := ⟨_, rfl⟩
    have HF : Hid ((l.all (fun x => decide (x.entries.length ≤ 100) && entriesB nameOK x.entries) && ((l.map Layer.name).all nameOK && !dupFrom (l.map Layer.name) [])) = F) := hF
    rw [hF]
    clear hF
    go_enter Tryz.func14, Tryz.ntmps14
    go_wp2_with fail
    go_loopw [3, 11] (fun i3 i11 wr => ∃ (k : Nat) (oa : Option Addr) (oc : Nat), i11 = .int .i64 (k : Int) ∧ i3 = .slice oa k oc ∧ k ≤ l.length ∧ OwnTxts w.heap.size wr (.slice oa k oc) ((l.take k).map Layer.name) ∧ (l.take k).all (fun x => decide (x.entries.length ≤ 100) && entriesB nameOK x.entries) = true ∧ Below w.heap.size w wr) (fun _ i11 _ => l.length - (intOf i11).toNat)
    case atStart => exact ⟨0, none, 0, rfl, rfl, by omega, OwnTxts.nil _ _, by simp, Below.refl _ _⟩
    case round =>
      obtain ⟨k, oa, oc, rfl, rfl, hk, hown, hall, hb⟩ := hrel
      have HAL : Hid ((l.take k).all (fun x => decide (x.entries.length ≤ 100) && entriesB nameOK x.entries) = true) := hall
      have HOW : Hid (OwnTxts w.heap.size wr (.slice oa k oc) ((l.take k).map Layer.name)) := hown
      clear hall hown
      by_cases hkn : k < l.length
      · have hkn' : (k : Int) < (l.length : Int) := by omega
        obtain ⟨b, off, rfl, hbS, hcell⟩ := HC.out (by omega)
        obtain ⟨x0, x1, nv, t1, t2⟩ := hcell k hkn
        have hbw := HS.out b hbS
        have htk : l.take (k + 1) = l.take k ++ [l[k]] := List.take_succ_eq_append_getElem hkn
        have hoy := HOK.out l[k] (List.getElem_mem hkn)
        have hbad : (decide (l[k].entries.length ≤ 100) && entriesB nameOK l[k].entries) = false → (l.all (fun x => decide (x.entries.length ≤ 100) && entriesB nameOK x.entries)) = false := fun h => by
          rw [List.all_eq_false]; exact ⟨l[k], List.getElem_mem hkn, by rw [h]; simp⟩
        obtain ⟨y, hy⟩ : ∃ y, l[k] = y := ⟨_, rfl⟩
        rw [hy] at x0 x1 t2 htk hoy hbad
        obtain ⟨yn, yr, ye⟩ := y
        unfold LayersOK at hoy
        dsimp only at x0 x1 t2 hoy hbad
        have d0 := (hb.cell (p := ⟨b, off + k * 3, none⟩) hbw).trans x0
        have d1 := (hb.cell (p := ⟨b, off + k * 3 + 1, none⟩) hbw).trans x1
        have d2 := (hb.cell (p := ⟨b, off + k * 3 + 2, none⟩) hbw).trans t1
        have hbs := hb.size
        have hbb := fun o => hb.alloc hbs o
        have ce := fun o => implEntries (w := wr.alloc o) (fun b hb2 => Nat.lt_of_lt_of_le (HS.out b hb2) (hbb o).size) (t2.keep (cells_below HS.out (hbb o))) hoy.2.2 (Utf8Tabs_below HT.out (hbb o))
        have HTK : Hid (l.take (k + 1) = l.take k ++ [(⟨yn, yr, ye⟩ : Layer)]) := htk
        have HBAD : Hid ((decide (ye.length ≤ 100) && entriesB nameOK ye) = false → (l.all (fun x => decide (x.entries.length ≤ 100) && entriesB nameOK x.entries)) = false) := hbad
        obtain ⟨ea, ec, hnv⟩ := t2.shape
        subst hnv
        obtain ⟨G, hG⟩ : ∃ G, (decide (ye.length ≤ 100) && entriesB nameOK ye) = G := ⟨_, rfl⟩
        rw [hG] at ce
        have HG : Hid ((decide (ye.length ≤ 100) && entriesB nameOK ye) = G) := hG
        have hbk : Blk (wr.alloc (.cells #[.string yn, .int .i64 yr, .slice ea ye.length ec] 30)) wr.heap.size 30 #[.string yn, .int .i64 yr, .slice ea ye.length ec] := heap_alloc_last wr _
        have HBK : Hid (Blk (wr.alloc (.cells #[.string yn, .int .i64 yr, .slice ea ye.length ec] 30)) wr.heap.size 30 #[.string yn, .int .i64 yr, .slice ea ye.length ec]) := hbk
        clear hy hoy htk hbad x0 x1 hcell t1 t2 hG hbk
        cases G
        · go_wp2_with (go_at_call 28; go_must (refine (ce _).mono ?_; rintro e w1 ⟨rfl, hb1⟩))
          go_ret
          refine ⟨?_, good_below (hbb _) hb1⟩
          have hF := HF.out
          rw [HBAD.out HG.out] at hF
          rw [← hF]; rfl
        · go_wp2_with (first
            | (go_at_call 28; go_must (refine (ce _).mono ?_; rintro e w1 ⟨rfl, hb1⟩; have hk1 := Blk.below HBK.out hb1; have e0 := hk1.cell 0; simp at e0; have hbw1 := good_below (hbb _) hb1; have how1 := OwnTxts.below (OwnTxts.below HOW.out ((Below.refl _ wr).alloc (Nat.le_refl _) _)) hb1; have hws1 := hbw1.size))
            | (at_builtin; go_must (refine wpList_appendTxts rfl (.tmp 19) (.tmp 22) rfl w.heap.size (.slice oa k oc) ((l.take k).map Layer.name) rfl (OwnTxts.below how1 ((Below.refl _ w1).alloc (Nat.le_refl _) _)) _ [yn] rfl (TxtsAt.newAt _ yn _ (by simp)) (by simp <;> omega) (by simp only [World.size_alloc]; omega) ?_; intro v9 w9 hown9 hB9 hgr9 hnil9; obtain ⟨a9, c9, e9, -⟩ := hown9.value; have hl9 : ((l.take k).map Layer.name ++ [yn]).length = k + 1 := (by simp <;> omega); rw [hl9] at e9; subst e9)))
          refine ⟨⟨k + 1, a9, c9, rfl, rfl, by omega, ?_, ?_, ((hbw1.alloc hbw1.size _).trans hB9)⟩, by simp [intOf]; omega⟩
          · rw [HTK.out, List.map_append]; exact hown9
          · rw [HTK.out, List.all_append, HAL.out]
            simp only [List.all_cons, List.all_nil, Bool.and_true, Bool.true_and]
            exact HG.out
      · obtain rfl : k = l.length := by omega
        have hkn' : ¬ ((l.length : Int) < (l.length : Int)) := by omega
        have hall := HAL.out
        have hown := HOW.out
        rw [List.take_length] at hall hown
        have hF := HF.out
        rw [hall, Bool.true_and] at hF
        obtain ⟨a9, c9, e9, hrow⟩ := hown.row
        rw [List.length_map] at e9
        simp only [Value.slice.injEq] at e9
        obtain ⟨rfl, -, rfl⟩ := e9
        have hzz : ∀ s ∈ l.map Layer.name, s.size ≤ 1048576 := fun s hs => by
          obtain ⟨y, hy, rfl⟩ := List.mem_map.1 hs
          have := (HOK.out y hy).1
          omega
        have cp := implNames (l.map Layer.name) oa oc wr (by rw [List.length_map]; omega) hzz hrow (Utf8Tabs_below HT.out hb)
        have cs := fun w1 (hb1 : Below wr.heap.size wr w1) => implSingle (l.map Layer.name) oa oc w1 (by rw [List.length_map]; omega) hzz (fun h0 => by
          obtain ⟨g, h1, h2, h3⟩ := hrow h0
          exact ⟨g, h1, Nat.lt_of_lt_of_le h2 hb1.size, fun j hj => (hb1.cell (p := ⟨g, j, none⟩) h2).trans (h3 j hj)⟩)
        simp only [List.length_map] at cp cs
        obtain ⟨A, hA⟩ : ∃ A, (l.map Layer.name).all nameOK = A := ⟨_, rfl⟩
        obtain ⟨D, hD⟩ : ∃ D, dupFrom (l.map Layer.name) [] = D := ⟨_, rfl⟩
        rw [hA] at cp hF
        rw [hD] at cs hF
        subst hF
        clear hA hD hall hown hrow hzz
        cases A
        · go_wp2_with (go_at_call 29; go_must (refine cp.mono ?_; rintro e w1 ⟨rfl, hb1⟩))
          go_ret
          exact ⟨by simp, good_below hb hb1⟩
        · go_wp2_with (first
            | (go_at_call 29; go_must (refine cp.mono ?_; rintro e w1 ⟨rfl, hb1⟩))
            | (go_at_call 30; go_must (refine (cs _ hb1).mono ?_; rintro e w2 ⟨rfl, hb2⟩)))
          go_ret
          exact ⟨by simp, good_below hb (good_below hb1 hb2)⟩
  · have h20' : (20 : Int) < (l.length : Int) := by omega
    go_enter Tryz.func14, Tryz.ntmps14
    go_wp2_with fail
    go_ret
    refine ⟨?_, Below.refl _ _⟩
    unfold layersB
    rw [decide_eq_false h20]
    rfl
end Go.Proofs.YtnlakebhkfbpfaaGreatDoor
