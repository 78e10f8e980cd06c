/-
  What impl's areEntries, areLayers answer: their walks. Settings that rise by path; layers in their order: plain facts. A map of settings; what impl's lay does to it. What impl's lay does to a map of settings: its walk. Layers sorted by rank and name: impl.sortByTwo over them; slices.Clone. Layers copied and sorted: slices.SortFunc, impl.byTwo, impl.sortByTwo, slices.Clone over them. What impl's mergedOf makes of layers: its walk. Layers and the slices of their entries; what a Merge answers, plainly. No statement of the seat is proved here.
-/
import Derived.Test.YtphocibgfdihoaaGreatDoorJ4
import Derived.Maps.RangeWalk
import Derived.Lib.SliceRun
namespace Go.Proofs.YtphocibgfdihoaaGreatDoor
open Go.ChangeShapes Go.WideShapes Go.ChangeAt Go.RowKit
set_option linter.unusedVariables false

theorem OwnTxts.row {B : Nat} {w : World} {v : Value} {l : List ByteArray} (h : OwnTxts B w v l) : ∃ a cap, v = .slice a l.length cap ∧ (0 < l.length → ∃ g, a = some ⟨g, 0, none⟩ ∧ g < w.heap.size ∧ ∀ j (hj : j < l.length), w.cell? ⟨g, j, none⟩ = some (.string l[j])) := by
  obtain ⟨a, cap, hv, _, hc⟩ := h.value
  refine ⟨a, cap, hv, fun h0 => ?_⟩
  obtain ⟨g, h1, _, h3, h4⟩ := hc h0
  exact ⟨g, h1, h3, h4⟩
theorem TxtsAt.newAt (w : World) (x : ByteArray) (g : Nat) (hg : w.heap.size = g) : TxtsAt (fun b => b = g) (w.alloc (.cells #[.string x] 9)) (.slice (some ⟨g, 0, none⟩) 1 1) [x] := by
  subst hg; exact TxtsAt.new w x
set_option maxRecDepth 100000 in
set_option maxHeartbeats 4000000 in
theorem implEntries {S : Nat → Prop} {es : List Entry} {v : Value} {w : World} (hS : ∀ b, S b → b < w.heap.size) (h : EntrysAt S w v es) (hok : ∀ y ∈ es, EntrysOK 1048576 y) (hT : Lib.Utf8Tabs 1 2 w) :
    Calls Tryz.prog 54 #[v] w fun e w' => e = .returned (.bool (decide (es.length ≤ 100) && entriesB nameOK es)) ∧ Below w.heap.size w w' := by
  obtain ⟨hlm, a, cap, rfl, hc⟩ := h
  have HC : Hid _ := hc
  have HS : Hid (∀ b, S b → b < w.heap.size) := hS
  have HOK : Hid (∀ y ∈ es, EntrysOK 1048576 y) := hok
  have HT : Hid (Lib.Utf8Tabs 1 2 w) := hT
  have hlm' : (es.length : Int) ≤ 9223372036854775807 := by simp [maxLen] at hlm; omega
  clear hc hS hok hlm hT
  by_cases h100 : es.length ≤ 100
  · have h100' : ¬ ((100 : Int) < (es.length : Int)) := by omega
    rw [decide_eq_true h100, Bool.true_and, entries_split]
    obtain ⟨F, hF⟩ : ∃ F, (es.all (fun e => decide (e.text.size ≤ 200)) && ((es.map Entry.path).all (pathB nameOK) && !dupFrom (es.map Entry.path) [])) = F := ⟨_, rfl⟩
    have HF : Hid ((es.all (fun e => decide (e.text.size ≤ 200)) && ((es.map Entry.path).all (pathB nameOK) && !dupFrom (es.map Entry.path) [])) = F) := hF
    rw [hF]
    clear hF
    go_enter Tryz.func54, Tryz.ntmps54
    go_wp2_with fail
    go_loopw [3, 11] (fun i3 i11 wr => ∃ (k : Nat) (oa : Option Addr) (oc : Nat), i11 = .int .i64 (k : Int) ∧ i3 = .slice oa k oc ∧ k ≤ es.length ∧ OwnTxts w.heap.size wr (.slice oa k oc) ((es.take k).map Entry.path) ∧ (es.take k).all (fun e => decide (e.text.size ≤ 200)) = true ∧ Below w.heap.size w wr) (fun _ i11 _ => es.length - (intOf i11).toNat)
    case atStart => exact ⟨0, none, 0, rfl, rfl, by omega, OwnTxts.nil _ _, by simp, Below.refl _ _⟩
    case round =>
      obtain ⟨k, oa, oc, rfl, rfl, hk, hown, hall, hb⟩ := hrel
      have HAL : Hid ((es.take k).all (fun e => decide (e.text.size ≤ 200)) = true) := hall
      have HOW : Hid (OwnTxts w.heap.size wr (.slice oa k oc) ((es.take k).map Entry.path)) := hown
      clear hall hown
      by_cases hkn : k < es.length
      · have hkn' : (k : Int) < (es.length : Int) := by omega
        obtain ⟨b, off, rfl, hbS, hcell⟩ := HC.out (by omega)
        obtain ⟨x0, x1⟩ := hcell k hkn
        have hbw := HS.out b hbS
        have htk : es.take (k + 1) = es.take k ++ [es[k]] := List.take_succ_eq_append_getElem hkn
        have hoy := HOK.out es[k] (List.getElem_mem hkn)
        have hbad : decide (es[k].text.size ≤ 200) = false → (es.all (fun e => decide (e.text.size ≤ 200))) = false := fun h => by
          rw [List.all_eq_false]; exact ⟨es[k], List.getElem_mem hkn, by rw [h]; simp⟩
        obtain ⟨y, hy⟩ : ∃ y, es[k] = y := ⟨_, rfl⟩
        rw [hy] at x0 x1 htk hoy hbad
        obtain ⟨yp, yt⟩ := y
        unfold EntrysOK at hoy
        dsimp only at x0 x1 hoy hbad
        have d0 := (hb.cell (p := ⟨b, off + k * 2, none⟩) hbw).trans x0
        have d1 := (hb.cell (p := ⟨b, off + k * 2 + 1, none⟩) hbw).trans x1
        have cl := fun w => implLong yt (by omega) w
        have HTK : Hid (es.take (k + 1) = es.take k ++ [(⟨yp, yt⟩ : Entry)]) := htk
        have HBAD : Hid (decide (yt.size ≤ 200) = false → (es.all (fun e => decide (e.text.size ≤ 200))) = false) := hbad
        have hbs := hb.size
        have hbb := hb.alloc hbs (.cells #[.string yp, .string yt] 56)
        clear hy hoy htk hbad x0 x1 hcell
        by_cases h200 : yt.size ≤ 200
        · rw [decide_eq_true h200] at cl
          go_wp2_with (first
            | (go_at_call 82; go_must (refine (cl _).mono ?_; rintro e w1 ⟨rfl, rfl⟩))
            | (at_builtin; go_must (refine wpList_appendTxts rfl (.tmp 18) (.tmp 21) rfl w.heap.size (.slice oa k oc) ((es.take k).map Entry.path) rfl (OwnTxts.below HOW.out (((Below.refl _ wr).alloc (Nat.le_refl _) _).alloc (by simp) _)) _ [yp] rfl (TxtsAt.newAt _ yp _ (by simp)) (by simp <;> omega) (by simp only [World.size_alloc]; omega) ?_; intro v9 w9 hown9 hB9 hgr9 hnil9; obtain ⟨a9, c9, e9, -⟩ := hown9.value; have hl9 : ((es.take k).map Entry.path ++ [yp]).length = k + 1 := (by simp <;> omega); rw [hl9] at e9; subst e9)))
          refine ⟨⟨k + 1, a9, c9, rfl, rfl, by omega, ?_, ?_, ((hbb.alloc hbb.size _).trans hB9)⟩, by simp [intOf]; omega⟩
          · rw [HTK.out, List.map_append]; exact hown9
          · rw [HTK.out, List.all_append, HAL.out]; simp [h200]
        · rw [decide_eq_false h200] at cl
          go_wp2_with (go_at_call 82; go_must (refine (cl _).mono ?_; rintro e w1 ⟨rfl, rfl⟩))
          go_ret
          refine ⟨?_, hbb⟩
          have hF := HF.out
          rw [HBAD.out (decide_eq_false h200)] at hF
          rw [← hF]; rfl
      · obtain rfl : k = es.length := by omega
        have hkn' : ¬ ((es.length : Int) < (es.length : Int)) := by omega
        have hall := HAL.out
        have hown := HOW.out
        rw [List.take_length] at hall hown
        have hF := HF.out
        rw [hall, Bool.true_and] at hF
        obtain ⟨a9, c9, e9, hrow⟩ := hown.row
        rw [List.length_map] at e9
        simp only [Value.slice.injEq] at e9
        obtain ⟨rfl, -, rfl⟩ := e9
        have hzz : ∀ s ∈ es.map Entry.path, s.size ≤ 1048576 := fun s hs => by
          obtain ⟨y, hy, rfl⟩ := List.mem_map.1 hs
          have := (HOK.out y hy).1
          omega
        have cp := implPaths (es.map Entry.path) oa oc wr (by rw [List.length_map]; omega) hzz hrow (Utf8Tabs_below HT.out hb)
        have cs := fun w1 (hb1 : Below wr.heap.size wr w1) => implSingle (es.map Entry.path) oa oc w1 (by rw [List.length_map]; omega) hzz (fun h0 => by
          obtain ⟨g, h1, h2, h3⟩ := hrow h0
          exact ⟨g, h1, Nat.lt_of_lt_of_le h2 hb1.size, fun j hj => (hb1.cell (p := ⟨g, j, none⟩) h2).trans (h3 j hj)⟩)
        simp only [List.length_map] at cp cs
        obtain ⟨A, hA⟩ : ∃ A, (es.map Entry.path).all (pathB nameOK) = A := ⟨_, rfl⟩
        obtain ⟨D, hD⟩ : ∃ D, dupFrom (es.map Entry.path) [] = D := ⟨_, rfl⟩
        rw [hA] at cp hF
        rw [hD] at cs hF
        subst hF
        clear hA hD hall hown hrow hzz
        cases A
        · go_wp2_with (go_at_call 28; go_must (refine cp.mono ?_; rintro e w1 ⟨rfl, hb1⟩))
          go_ret
          exact ⟨by simp, good_below hb hb1⟩
        · go_wp2_with (first
            | (go_at_call 28; go_must (refine cp.mono ?_; rintro e w1 ⟨rfl, hb1⟩))
            | (go_at_call 56; go_must (refine (cs _ hb1).mono ?_; rintro e w2 ⟨rfl, hb2⟩)))
          go_ret
          exact ⟨by simp, good_below hb (good_below hb1 hb2)⟩
  · have h100' : (100 : Int) < (es.length : Int) := by omega
    rw [decide_eq_false h100]
    go_enter Tryz.func54, Tryz.ntmps54
    go_wp2_with fail
    go_ret
    exact ⟨rfl, Below.refl _ _⟩
set_option maxRecDepth 100000 in
set_option maxHeartbeats 4000000 in
theorem implLayers {S : Nat → Prop} {l : List Layer} {v : Value} {w : World} (hS : ∀ b, S b → b < w.heap.size) (h : LayersAt S w v l) (hok : ∀ x ∈ l, LayersOK 1048576 x) (hT : Lib.Utf8Tabs 1 2 w) :
    Calls Tryz.prog 27 #[v] w fun e w' => e = .returned (.bool (layersB nameOK l)) ∧ Below w.heap.size w w' := by
  obtain ⟨hlm, a, cap, rfl, hc⟩ := h
  have HC : Hid _ := hc
  have HS : Hid (∀ b, S b → b < w.heap.size) := hS
  have HOK : Hid (∀ x ∈ l, LayersOK 1048576 x) := hok
  have HT : Hid (Lib.Utf8Tabs 1 2 w) := hT
  have hlm' : (l.length : Int) ≤ 9223372036854775807 := by simp [maxLen] at hlm; omega
  clear hc hS hok hlm hT
  by_cases h20 : l.length ≤ 20
  · have h20' : ¬ ((20 : Int) < (l.length : Int)) := by omega
    rw [layers_split nameOK l h20]
    obtain ⟨F, hF⟩ : ∃ F, (l.all (fun x => decide (x.entries.length ≤ 100) && entriesB nameOK x.entries) && ((l.map Layer.name).all nameOK && !dupFrom (l.map Layer.name) [])) = F := ⟨_, rfl⟩
    have HF : Hid ((l.all (fun x => decide (x.entries.length ≤ 100) && entriesB nameOK x.entries) && ((l.map Layer.name).all nameOK && !dupFrom (l.map Layer.name) [])) = F) := hF
    rw [hF]
    clear hF
    go_enter Tryz.func27, Tryz.ntmps27
    go_wp2_with fail
    go_loopw [3, 11] (fun i3 i11 wr => ∃ (k : Nat) (oa : Option Addr) (oc : Nat), i11 = .int .i64 (k : Int) ∧ i3 = .slice oa k oc ∧ k ≤ l.length ∧ OwnTxts w.heap.size wr (.slice oa k oc) ((l.take k).map Layer.name) ∧ (l.take k).all (fun x => decide (x.entries.length ≤ 100) && entriesB nameOK x.entries) = true ∧ Below w.heap.size w wr) (fun _ i11 _ => l.length - (intOf i11).toNat)
    case atStart => exact ⟨0, none, 0, rfl, rfl, by omega, OwnTxts.nil _ _, by simp, Below.refl _ _⟩
    case round =>
      obtain ⟨k, oa, oc, rfl, rfl, hk, hown, hall, hb⟩ := hrel
      have HAL : Hid ((l.take k).all (fun x => decide (x.entries.length ≤ 100) && entriesB nameOK x.entries) = true) := hall
      have HOW : Hid (OwnTxts w.heap.size wr (.slice oa k oc) ((l.take k).map Layer.name)) := hown
      clear hall hown
      by_cases hkn : k < l.length
      · have hkn' : (k : Int) < (l.length : Int) := by omega
        obtain ⟨b, off, rfl, hbS, hcell⟩ := HC.out (by omega)
        obtain ⟨x0, x1, nv, t1, t2⟩ := hcell k hkn
        have hbw := HS.out b hbS
        have htk : l.take (k + 1) = l.take k ++ [l[k]] := List.take_succ_eq_append_getElem hkn
        have hoy := HOK.out l[k] (List.getElem_mem hkn)
        have hbad : (decide (l[k].entries.length ≤ 100) && entriesB nameOK l[k].entries) = false → (l.all (fun x => decide (x.entries.length ≤ 100) && entriesB nameOK x.entries)) = false := fun h => by
          rw [List.all_eq_false]; exact ⟨l[k], List.getElem_mem hkn, by rw [h]; simp⟩
        obtain ⟨y, hy⟩ : ∃ y, l[k] = y := ⟨_, rfl⟩
        rw [hy] at x0 x1 t2 htk hoy hbad
        obtain ⟨yn, yr, ye⟩ := y
        unfold LayersOK at hoy
        dsimp only at x0 x1 t2 hoy hbad
        have d0 := (hb.cell (p := ⟨b, off + k * 3, none⟩) hbw).trans x0
        have d1 := (hb.cell (p := ⟨b, off + k * 3 + 1, none⟩) hbw).trans x1
        have d2 := (hb.cell (p := ⟨b, off + k * 3 + 2, none⟩) hbw).trans t1
        have hbs := hb.size
        have hbb := fun o => hb.alloc hbs o
        have ce := fun o => implEntries (w := wr.alloc o) (fun b hb2 => Nat.lt_of_lt_of_le (HS.out b hb2) (hbb o).size) (t2.keep (cells_below HS.out (hbb o))) hoy.2.2 (Utf8Tabs_below HT.out (hbb o))
        have HTK : Hid (l.take (k + 1) = l.take k ++ [(⟨yn, yr, ye⟩ : Layer)]) := htk
        have HBAD : Hid ((decide (ye.length ≤ 100) && entriesB nameOK ye) = false → (l.all (fun x => decide (x.entries.length ≤ 100) && entriesB nameOK x.entries)) = false) := hbad
        obtain ⟨ea, ec, hnv⟩ := t2.shape
        subst hnv
        obtain ⟨G, hG⟩ : ∃ G, (decide (ye.length ≤ 100) && entriesB nameOK ye) = G := ⟨_, rfl⟩
        rw [hG] at ce
        have HG : Hid ((decide (ye.length ≤ 100) && entriesB nameOK ye) = G) := hG
        have hbk : Blk (wr.alloc (.cells #[.string yn, .int .i64 yr, .slice ea ye.length ec] 59)) wr.heap.size 59 #[.string yn, .int .i64 yr, .slice ea ye.length ec] := heap_alloc_last wr _
        have HBK : Hid (Blk (wr.alloc (.cells #[.string yn, .int .i64 yr, .slice ea ye.length ec] 59)) wr.heap.size 59 #[.string yn, .int .i64 yr, .slice ea ye.length ec]) := hbk
        clear hy hoy htk hbad x0 x1 hcell t1 t2 hG hbk
        cases G
        · go_wp2_with (go_at_call 54; go_must (refine (ce _).mono ?_; rintro e w1 ⟨rfl, hb1⟩))
          go_ret
          refine ⟨?_, good_below (hbb _) hb1⟩
          have hF := HF.out
          rw [HBAD.out HG.out] at hF
          rw [← hF]; rfl
        · go_wp2_with (first
            | (go_at_call 54; go_must (refine (ce _).mono ?_; rintro e w1 ⟨rfl, hb1⟩; have hk1 := Blk.below HBK.out hb1; have e0 := hk1.cell 0; simp at e0; have hbw1 := good_below (hbb _) hb1; have how1 := OwnTxts.below (OwnTxts.below HOW.out ((Below.refl _ wr).alloc (Nat.le_refl _) _)) hb1; have hws1 := hbw1.size))
            | (at_builtin; go_must (refine wpList_appendTxts rfl (.tmp 19) (.tmp 22) rfl w.heap.size (.slice oa k oc) ((l.take k).map Layer.name) rfl (OwnTxts.below how1 ((Below.refl _ w1).alloc (Nat.le_refl _) _)) _ [yn] rfl (TxtsAt.newAt _ yn _ (by simp)) (by simp <;> omega) (by simp only [World.size_alloc]; omega) ?_; intro v9 w9 hown9 hB9 hgr9 hnil9; obtain ⟨a9, c9, e9, -⟩ := hown9.value; have hl9 : ((l.take k).map Layer.name ++ [yn]).length = k + 1 := (by simp <;> omega); rw [hl9] at e9; subst e9)))
          refine ⟨⟨k + 1, a9, c9, rfl, rfl, by omega, ?_, ?_, ((hbw1.alloc hbw1.size _).trans hB9)⟩, by simp [intOf]; omega⟩
          · rw [HTK.out, List.map_append]; exact hown9
          · rw [HTK.out, List.all_append, HAL.out]
            simp only [List.all_cons, List.all_nil, Bool.and_true, Bool.true_and]
            exact HG.out
      · obtain rfl : k = l.length := by omega
        have hkn' : ¬ ((l.length : Int) < (l.length : Int)) := by omega
        have hall := HAL.out
        have hown := HOW.out
        rw [List.take_length] at hall hown
        have hF := HF.out
        rw [hall, Bool.true_and] at hF
        obtain ⟨a9, c9, e9, hrow⟩ := hown.row
        rw [List.length_map] at e9
        simp only [Value.slice.injEq] at e9
        obtain ⟨rfl, -, rfl⟩ := e9
        have hzz : ∀ s ∈ l.map Layer.name, s.size ≤ 1048576 := fun s hs => by
          obtain ⟨y, hy, rfl⟩ := List.mem_map.1 hs
          have := (HOK.out y hy).1
          omega
        have cp := implNames (l.map Layer.name) oa oc wr (by rw [List.length_map]; omega) hzz hrow (Utf8Tabs_below HT.out hb)
        have cs := fun w1 (hb1 : Below wr.heap.size wr w1) => implSingle (l.map Layer.name) oa oc w1 (by rw [List.length_map]; omega) hzz (fun h0 => by
          obtain ⟨g, h1, h2, h3⟩ := hrow h0
          exact ⟨g, h1, Nat.lt_of_lt_of_le h2 hb1.size, fun j hj => (hb1.cell (p := ⟨g, j, none⟩) h2).trans (h3 j hj)⟩)
        simp only [List.length_map] at cp cs
        obtain ⟨A, hA⟩ : ∃ A, (l.map Layer.name).all nameOK = A := ⟨_, rfl⟩
        obtain ⟨D, hD⟩ : ∃ D, dupFrom (l.map Layer.name) [] = D := ⟨_, rfl⟩
        rw [hA] at cp hF
        rw [hD] at cs hF
        subst hF
        clear hA hD hall hown hrow hzz
        cases A
        · go_wp2_with (go_at_call 55; go_must (refine cp.mono ?_; rintro e w1 ⟨rfl, hb1⟩))
          go_ret
          exact ⟨by simp, good_below hb hb1⟩
        · go_wp2_with (first
            | (go_at_call 55; go_must (refine cp.mono ?_; rintro e w1 ⟨rfl, hb1⟩))
            | (go_at_call 56; go_must (refine (cs _ hb1).mono ?_; rintro e w2 ⟨rfl, hb2⟩)))
          go_ret
          exact ⟨by simp, good_below hb (good_below hb1 hb2)⟩
  · have h20' : (20 : Int) < (l.length : Int) := by omega
    go_enter Tryz.func27, Tryz.ntmps27
    go_wp2_with fail
    go_ret
    refine ⟨?_, Below.refl _ _⟩
    unfold layersB
    rw [decide_eq_false h20]
    rfl
end Go.Proofs.YtphocibgfdihoaaGreatDoor

namespace Go.Proofs.YtphocibgfdihoaaGreatDoor
open Go.ChangeShapes Go.WideShapes Go.ChangeAt Go.RowKit
set_option linter.unusedVariables false

/-- Settings that rise by path. -/
def SRises (l : List Setting) : Prop := l.Pairwise fun x y => lessB x.path y.path = true
theorem SRises.eq {a b : List Setting} (ha : SRises a) (hb : SRises b) (h : ∀ x, x ∈ a ↔ x ∈ b) : a = b :=
  pw_eq (r := fun x y : Setting => lessB x.path y.path = true) (fun _ _ _ h1 h2 => lessB_trans h1 h2) (fun x h => by rw [lessB_irrefl] at h; cases h) ha hb h
theorem within_self (p : ByteArray) : withinB p p = true := by unfold withinB; simp
theorem hits_same {o : Setting} {e : Entry} (h : o.path = e.path) : hits o e = true := by unfold hits; rw [h, within_self]; rfl
def tilde (e : Entry) : Bool := e.text.toList == [126]

structure RestInv (out : List Setting) (e : Entry) (nm : ByteArray) (j : Nat) (r : List Setting) (p : Bool) : Prop where
  rises : SRises r
  mem : ∀ x, x ∈ r ↔ (∃ i, i < j ∧ out[i]? = some x ∧ hits x e = false) ∨ (p = true ∧ tilde e = false ∧ x = newS e nm)
  low : p = false → ∀ x ∈ r, lessB x.path e.path = true
  high : p = true → tilde e = false → ∀ i o, j ≤ i → out[i]? = some o → lessB e.path o.path = true
  til : tilde e = true → p = true
theorem rises_at {out : List Setting} (h : SRises out) {i j : Nat} {x y : Setting} (hij : i < j) (hx : out[i]? = some x) (hy : out[j]? = some y) : lessB x.path y.path = true := by
  obtain ⟨h1, rfl⟩ := List.getElem?_eq_some_iff.1 hx
  obtain ⟨h2, rfl⟩ := List.getElem?_eq_some_iff.1 hy
  exact List.pairwise_iff_getElem.1 h i j h1 h2 hij
theorem restInv {out : List Setting} {e : Entry} {nm : ByteArray} (h : SRises out) : ∀ j, j ≤ out.length → RestInv out e nm j (restUp out e nm j).1 (restUp out e nm j).2
  | 0, _ => by
    unfold restUp
    refine ⟨List.Pairwise.nil, fun x => ⟨fun hx => (by simp at hx), ?_⟩, fun _ x hx => (by simp at hx), fun h1 h2 => ?_, fun h => h⟩
    · rintro (⟨i, hi, _⟩ | ⟨h1, h2, _⟩)
      · omega
      · unfold tilde at h2; simp only at h1; rw [h1] at h2; cases h2
    · unfold tilde at h2; simp only at h1; rw [h1] at h2; cases h2
  | j + 1, hj => by
    have ih := restInv (e := e) (nm := nm) h j (by omega)
    obtain ⟨r, p, hr⟩ : ∃ r p, restUp out e nm j = (r, p) := ⟨_, _, rfl⟩
    rw [hr] at ih
    dsimp only at ih
    have hjl : j < out.length := by omega
    have ho : out[j]? = some out[j] := List.getElem?_eq_getElem hjl
    generalize out[j] = o at ho
    cases hh : hits o e
    · cases hq : (!p && Go.Op.bytesLess e.path.toList o.path.toList)
      · rw [restUp_keep hr ho hh hq]
        dsimp only
        refine ⟨?_, fun x => ?_, fun hp x hx => ?_, fun hp ht i o2 hi hoi => ih.high hp ht i o2 (by omega) hoi, ih.til⟩
        · unfold SRises
          rw [List.pairwise_append]
          refine ⟨ih.rises, by simp, fun x hx y hy => ?_⟩
          simp at hy
          subst hy
          rcases (ih.mem x).1 hx with ⟨i, hi, hxi, _⟩ | ⟨h1, h2, rfl⟩
          · exact rises_at h hi hxi ho
          · exact ih.high h1 h2 j _ (Nat.le_refl _) ho
        · rw [List.mem_append, ih.mem, List.mem_singleton]
          constructor
          · rintro ((⟨i, hi, h1, h2⟩ | h1) | rfl)
            · exact .inl ⟨i, by omega, h1, h2⟩
            · exact .inr h1
            · exact .inl ⟨j, by omega, ho, hh⟩
          · rintro (⟨i, hi, h1, h2⟩ | h1)
            · by_cases e1 : i = j
              · subst e1; rw [ho] at h1; cases h1; exact .inr rfl
              · exact .inl (.inl ⟨i, by omega, h1, h2⟩)
            · exact .inl (.inr h1)
        · rcases List.mem_append.1 hx with hx | hx
          · exact ih.low hp x hx
          · simp at hx
            subst hx
            subst hp
            have hl : lessB e.path x.path = false := by simpa [lessB] using hq
            rcases lessB_total (x := x.path) (y := e.path) (fun e1 => by rw [hits_same e1] at hh; cases hh) with q | q
            · exact q
            · rw [hl] at q; cases q
      · have hp : p = false := by cases p <;> simp_all
        subst hp
        have hl : lessB e.path o.path = true := by simpa [lessB] using hq
        have htl : tilde e = false := by
          cases ht : tilde e
          · rfl
          · have := ih.til ht; cases this
        rw [restUp_put hr ho hh hl]
        dsimp only
        refine ⟨?_, fun x => ?_, fun hp => (by cases hp), fun _ _ i o2 hi hoi => lessB_trans hl (rises_at h (by omega) ho hoi), fun _ => rfl⟩
        · unfold SRises
          rw [List.pairwise_append, List.pairwise_append]
          refine ⟨⟨ih.rises, by simp, fun x hx y hy => ?_⟩, by simp, fun x hx y hy => ?_⟩
          · simp at hy; subst hy; exact ih.low rfl x hx
          · simp at hy
            subst hy
            rcases List.mem_append.1 hx with hx | hx
            · exact lessB_trans (ih.low rfl x hx) hl
            · simp at hx; subst hx; exact hl
        · rw [List.mem_append, List.mem_append, ih.mem, List.mem_singleton, List.mem_singleton]
          constructor
          · rintro (((⟨i, hi, h1, h2⟩ | ⟨h1, _⟩) | h1) | rfl)
            · exact .inl ⟨i, by omega, h1, h2⟩
            · cases h1
            · exact .inr ⟨rfl, htl, h1⟩
            · exact .inl ⟨j, by omega, ho, hh⟩
          · rintro (⟨i, hi, h1, h2⟩ | ⟨_, _, h1⟩)
            · by_cases e1 : i = j
              · subst e1; rw [ho] at h1; cases h1; exact .inr rfl
              · exact .inl (.inl (.inl ⟨i, by omega, h1, h2⟩))
            · exact .inl (.inr h1)
    · rw [restUp_hit hr ho hh]
      dsimp only
      refine ⟨ih.rises, fun x => ?_, ih.low, fun hp ht i o2 hi hoi => ih.high hp ht i o2 (by omega) hoi, ih.til⟩
      rw [ih.mem]
      constructor
      · rintro (⟨i, hi, h1, h2⟩ | h1)
        · exact .inl ⟨i, by omega, h1, h2⟩
        · exact .inr h1
      · rintro (⟨i, hi, h1, h2⟩ | h1)
        · by_cases e1 : i = j
          · subst e1; rw [ho] at h1; cases h1; rw [hh] at h2; cases h2
          · exact .inl ⟨i, by omega, h1, h2⟩
        · exact .inr h1
theorem layStep_ok {out : List Setting} {e : Entry} {nm : ByteArray} (h : SRises out) : SRises (layStep nm out e) ∧ ∀ x, x ∈ layStep nm out e ↔ (x ∈ out ∧ hits x e = false) ∨ (tilde e = false ∧ x = newS e nm) := by
  have ih := restInv (e := e) (nm := nm) h out.length (Nat.le_refl _)
  obtain ⟨r, p, hr⟩ : ∃ r p, restUp out e nm out.length = (r, p) := ⟨_, _, rfl⟩
  rw [hr] at ih
  dsimp only at ih
  have hm : ∀ x, (∃ i, i < out.length ∧ out[i]? = some x ∧ hits x e = false) ↔ (x ∈ out ∧ hits x e = false) := fun x => by
    constructor
    · rintro ⟨i, _, h1, h2⟩; exact ⟨List.mem_of_getElem? h1, h2⟩
    · rintro ⟨h1, h2⟩
      obtain ⟨i, hi, rfl⟩ := List.getElem_of_mem h1
      exact ⟨i, hi, List.getElem?_eq_getElem hi, h2⟩
  cases p
  · have htl : tilde e = false := by
      cases ht : tilde e
      · rfl
      · have := ih.til ht; cases this
    rw [layStep_end hr]
    refine ⟨?_, fun x => ?_⟩
    · unfold SRises
      rw [List.pairwise_append]
      refine ⟨ih.rises, by simp, fun x hx y hy => ?_⟩
      simp at hy; subst hy; exact ih.low rfl x hx
    · rw [List.mem_append, ih.mem, hm, List.mem_singleton]
      constructor
      · rintro ((h1 | ⟨h1, _⟩) | h1)
        · exact .inl h1
        · cases h1
        · exact .inr ⟨htl, h1⟩
      · rintro (h1 | ⟨_, h1⟩)
        · exact .inl (.inl h1)
        · exact .inr h1
  · rw [layStep_put hr]
    refine ⟨ih.rises, fun x => ?_⟩
    rw [ih.mem, hm]
    constructor
    · rintro (h1 | ⟨_, h1, h2⟩)
      · exact .inl h1
      · exact .inr ⟨h1, h2⟩
    · rintro (h1 | ⟨h1, h2⟩)
      · exact .inl h1
      · exact .inr ⟨rfl, h1, h2⟩

/-! Layers in their order. -/
theorem lessL_iff (x y : LayV) : lessL x y = true ↔ x.x.rank < y.x.rank ∨ (x.x.rank = y.x.rank ∧ lessB x.x.name y.x.name = true) := by
  unfold lessL lessB; simp
theorem lessL_irrefl (x : LayV) : ¬ lessL x x = true := by
  rw [lessL_iff, lessB_irrefl]; simp
theorem lessL_trans {x y z : LayV} (h : lessL x y = true) (k : lessL y z = true) : lessL x z = true := by
  rw [lessL_iff] at *
  rcases h with h | ⟨h1, h2⟩ <;> rcases k with k | ⟨k1, k2⟩
  · exact .inl (by omega)
  · exact .inl (by omega)
  · exact .inl (by omega)
  · exact .inr ⟨by omega, lessB_trans h2 k2⟩
theorem lessL_total {x y : LayV} (h : x.x.name ≠ y.x.name) : lessL x y = true ∨ lessL y x = true := by
  rw [lessL_iff, lessL_iff]
  rcases Int.lt_trichotomy x.x.rank y.x.rank with q | q | q
  · exact .inl (.inl q)
  · rcases lessB_total h with r | r
    · exact .inl (.inr ⟨q, r⟩)
    · exact .inr (.inr ⟨q.symm, r⟩)
  · exact .inr (.inl q)
def LRises (l : List LayV) : Prop := l.Pairwise fun x y => lessL x y = true
theorem posUp_ok (out : List LayV) (y : LayV) : ∀ k, k ≤ out.length → (∀ i (hi : i < out.length), k ≤ i → lessL y out[i] = true) →
    posUp out y k ≤ k ∧ (∀ i (hi : i < out.length), posUp out y k ≤ i → lessL y out[i] = true) ∧ (0 < posUp out y k → ∃ hq : posUp out y k - 1 < out.length, lessL y out[posUp out y k - 1] = false)
  | 0, _, h => ⟨Nat.le_refl _, fun i hi _ => h i hi (Nat.zero_le _), fun h0 => (by unfold posUp at h0; omega)⟩
  | k + 1, hk, h => by
    have hkl : k < out.length := by omega
    cases hl : lessL y out[k]
    · have hp : posUp out y (k + 1) = k + 1 := by
        conv => lhs; unfold posUp
        rw [List.getElem?_eq_getElem hkl]
        simp [hl]
      rw [hp]
      exact ⟨Nat.le_refl _, h, fun _ => ⟨by omega, by simpa using hl⟩⟩
    · have hp : posUp out y (k + 1) = posUp out y k := by
        conv => lhs; unfold posUp
        rw [List.getElem?_eq_getElem hkl]
        simp [hl]
      rw [hp]
      obtain ⟨h1, h2, h3⟩ := posUp_ok out y k (by omega) (fun i hi hki => by
        by_cases e : i = k
        · subst e; exact hl
        · exact h i hi (by omega))
      exact ⟨by omega, h2, h3⟩
theorem overStep_ok {out : List LayV} {y : LayV} (h : LRises out) (hd : ∀ z ∈ out, z.x.name ≠ y.x.name) : LRises (overStep out y) ∧ ∀ x, x ∈ overStep out y ↔ x ∈ out ∨ x = y := by
  obtain ⟨h1, h2, h3⟩ := posUp_ok out y out.length (Nat.le_refl _) (fun i hi hki => by omega)
  unfold overStep posN
  generalize posUp out y out.length = q at h1 h2 h3
  have hsp : out = out.take q ++ out.drop q := (List.take_append_drop _ _).symm
  have hlow : ∀ x ∈ out.take q, lessL x y = true := fun x hx => by
    obtain ⟨i, hi, rfl⟩ := List.mem_take_iff_getElem.1 hx
    have hi2 : i < out.length := by omega
    obtain ⟨hq, hb⟩ := h3 (by omega)
    have hlast : lessL out[q - 1] y = true := by
      rcases lessL_total (hd _ (List.getElem_mem hq)) with r | r
      · exact r
      · rw [hb] at r; cases r
    by_cases e : i = q - 1
    · subst e; exact hlast
    · exact lessL_trans (List.pairwise_iff_getElem.1 h i (q - 1) hi2 hq (by omega)) hlast
  have hhigh : ∀ x ∈ out.drop q, lessL y x = true := fun x hx => by
    obtain ⟨i, hi, rfl⟩ := List.getElem_of_mem hx
    rw [List.getElem_drop]
    exact h2 _ _ (by omega)
  have hp := h
  unfold LRises at hp
  rw [hsp, List.pairwise_append] at hp
  obtain ⟨p1, p2, p3⟩ := hp
  refine ⟨?_, fun x => ?_⟩
  · unfold LRises
    rw [List.pairwise_append, List.pairwise_append]
    refine ⟨⟨p1, by simp, fun a ha b hb => by simp at hb; subst hb; exact hlow a ha⟩, p2, fun a ha b hb => ?_⟩
    rcases List.mem_append.1 ha with ha | ha
    · exact p3 a ha b hb
    · simp at ha; subst ha; exact hhigh b hb
  · conv => rhs; rw [hsp]
    simp only [List.mem_append, List.mem_singleton]
    constructor
    · rintro ((h | h) | h)
      · exact .inl (.inl h)
      · exact .inr h
      · exact .inl (.inr h)
    · rintro ((h | h) | h)
      · exact .inl (.inl h)
      · exact .inr h
      · exact .inl (.inr h)
def Named (l : List LayV) : Prop := l.Pairwise fun x y => x.x.name ≠ y.x.name
theorem overFold_ok : ∀ (lv out : List LayV), LRises out → Named lv → (∀ z ∈ out, ∀ y ∈ lv, z.x.name ≠ y.x.name) → LRises (lv.foldl overStep out) ∧ ∀ x, x ∈ lv.foldl overStep out ↔ x ∈ out ∨ x ∈ lv
  | [], out, h, _, _ => ⟨h, fun x => by simp⟩
  | y :: lv, out, h, hn, hd => by
    obtain ⟨n1, n2⟩ := List.pairwise_cons.1 hn
    obtain ⟨h1, h2⟩ := overStep_ok (y := y) h (fun z hz => hd z hz y (List.mem_cons_self ..))
    obtain ⟨h3, h4⟩ := overFold_ok lv _ h1 n2 (fun z hz y2 hy2 => by
      rcases (h2 z).1 hz with q | q
      · exact hd z q y2 (List.mem_cons_of_mem _ hy2)
      · subst q; exact n1 y2 hy2)
    rw [List.foldl_cons]
    refine ⟨h3, fun x => ?_⟩
    rw [h4, h2, List.mem_cons]
    constructor
    · rintro ((h | h) | h)
      · exact .inl h
      · exact .inr (.inl h)
      · exact .inr (.inr h)
    · rintro (h | h | h)
      · exact .inl (.inl h)
      · exact .inl (.inr h)
      · exact .inr h
/-- The row that a sort leaves is the row that an insertion makes. -/
theorem over_is {lv l : List LayV} (hn : Named lv) (hp : l.Perm lv) (hs : l.Pairwise fun x y => lessL y x = false) : l = overF lv := by
  obtain ⟨h1, h2⟩ := overFold_ok lv [] List.Pairwise.nil hn (fun z hz => by cases hz)
  have hn2 : Named l := (hp.pairwise_iff (fun {_ _} h => Ne.symm h)).2 hn
  refine pw_eq (r := fun x y : LayV => lessL x y = true) (fun _ _ _ a b => lessL_trans a b) lessL_irrefl ?_ h1 (fun x => ?_)
  · rw [List.pairwise_iff_getElem] at *
    intro i j hi hj hij
    rcases lessL_total (List.pairwise_iff_getElem.1 hn2 i j hi hj hij) with q | q
    · exact q
    · rw [hs i j hi hj hij] at q; cases q
  · unfold overF at *
    rw [h2, hp.mem_iff]
    simp
end Go.Proofs.YtphocibgfdihoaaGreatDoor

namespace Go.Proofs.YtphocibgfdihoaaGreatDoor
open Go.ChangeShapes Go.WideShapes Go.ChangeAt Go.RowKit Go.Maps
set_option linter.unusedVariables false

def sVal (s : Setting) : Value := .agg #[.string s.path, .string s.text, .string s.from']
theorem sVal_inj {a b : Setting} (h : sVal a = sVal b) : a = b := by
  obtain ⟨a1, a2, a3⟩ := a
  obtain ⟨b1, b2, b3⟩ := b
  simp [sVal] at h
  obtain ⟨rfl, rfl, rfl⟩ := h
  rfl
open Classical in
/-- A setting as an element of a map, held as it is. -/
noncomputable def heldS (v : Value) : Option (DataW Value × List MemPlace) := if ∃ s, v = sVal s then some (.held v, []) else none
theorem heldS_mk (s : Setting) : heldS (sVal s) = some (.held (sVal s), []) := by
  unfold heldS; rw [if_pos ⟨s, rfl⟩]
theorem heldS_inv {v : Value} {y : DataW Value × List MemPlace} (h : heldS v = some y) : ∃ s, v = sVal s ∧ y = (.held (sVal s), []) := by
  unfold heldS at h
  split at h
  · rename_i hx
    obtain ⟨s, rfl⟩ := hx
    cases h
    exact ⟨s, rfl, rfl⟩
  · cases h
theorem key_inv {key : Value} {kl : Lit} (h : keyOf Tryz.prog 9 key = some kl) : ∃ s : ByteArray, key = .string s ∧ kl = textKey s := by
  rw [keyOf_string Tryz.underlying9] at h
  cases key <;> simp [mapKey, Tryz.underlying9] at h
  exact ⟨_, rfl, h.2.symm⟩
theorem textKey_key (s : ByteArray) : WideAt.IsKeyLit (textKey s) := trivial

/-- D holds f. -/
def Rep (D : DataW Value) (f : ByteArray → Option Setting) : Prop := ∀ p, (∀ s, f p = some s → ∀ z, D.atKey (textKey p) z = .held (sVal s)) ∧ (f p = none → has D (textKey p) = false)
theorem Rep.has {D : DataW Value} {f : ByteArray → Option Setting} (h : Rep D f) (p : ByteArray) : has D (textKey p) = (f p).isSome := by
  cases hf : f p with
  | none => rw [(h p).2 hf]; rfl
  | some s => rw [has_true_of_atKey ((h p).1 s hf)]; rfl
theorem Rep.some {D : DataW Value} {f : ByteArray → Option Setting} (h : Rep D f) {p : ByteArray} {s : Setting} (ha : ∀ z, D.atKey (textKey p) z = .held (sVal s)) : f p = Option.some s := by
  cases hf : f p with
  | none => have := (h p).2 hf; rw [has_true_of_atKey ha] at this; cases this
  | some t =>
    have h1 := (h p).1 t hf (.held .nilFunc)
    rw [ha] at h1
    simp only [DataW.held.injEq] at h1
    rw [sVal_inj h1]
theorem Rep.del {D : DataW Value} {f : ByteArray → Option Setting} (h : Rep D f) (q : ByteArray) : Rep (D.del (textKey q)) (fun p => if p = q then none else f p) := by
  intro p
  by_cases e : p = q
  · subst e
    simp only [if_true]
    exact ⟨fun s hs => (by cases hs), fun _ => has_del_same⟩
  · have hne : textKey p ≠ textKey q := fun h => e (textKey_inj h)
    simp only [if_neg e]
    refine ⟨fun s hs z => ?_, fun hn => ?_⟩
    · rw [atKey_del_other hne]; exact (h p).1 s hs z
    · rw [has_del_other hne]; exact (h p).2 hn
theorem Rep.put {D : DataW Value} {f : ByteArray → Option Setting} (h : Rep D f) (hm : IsMap D) (q : ByteArray) (s : Setting) : Rep (D.put (textKey q) (.held (sVal s))) (fun p => if p = q then Option.some s else f p) := by
  intro p
  by_cases e : p = q
  · subst e
    simp only [if_true]
    exact ⟨fun t ht z => (by cases ht; exact atKey_put_same hm (textKey_key _) _ _), fun hn => (by cases hn)⟩
  · have hne : textKey p ≠ textKey q := fun h => e (textKey_inj h)
    simp only [if_neg e]
    refine ⟨fun s hs z => ?_, fun hn => ?_⟩
    · rw [atKey_put_other hne]; exact (h p).1 s hs z
    · rw [has_put_other hne]; exact (h p).2 hn
theorem Rep.congr {D : DataW Value} {f g : ByteArray → Option Setting} (h : Rep D f) (e : ∀ p, f p = g p) : Rep D g := (funext e) ▸ h

/-- The function of the settings of a row. -/
def IsOf (f : ByteArray → Option Setting) (out : List Setting) : Prop := ∀ p s, f p = some s ↔ s ∈ out ∧ s.path = p
/-- The map in block b holds just these settings, by their paths. -/
def MapS (w : World) (b n : Nat) (out : List Setting) : Prop := ∃ D f, w.ownsMap Tryz.prog 9 heldS b n D ∧ Rep D f ∧ IsOf f out
theorem MapS.made (w : World) : MapS (w.alloc (.map #[] 0)) w.heap.size 0 [] :=
  ⟨.map [], fun _ => none, World.ownsMap_made _ _ _ _, fun p => ⟨fun s hs => (by cases hs), fun _ => rfl⟩, fun p s => by simp⟩
theorem MapS.lt {w : World} {b n : Nat} {out : List Setting} (h : MapS w b n out) : b < w.heap.size := by
  obtain ⟨D, f, h, _⟩ := h; exact h.lt
theorem MapS.kept {w w' : World} {b n : Nat} {out : List Setting} {row : Option Nat} (h : MapS w b n out) (hg : w.grownBy w' row) (hne : some b ≠ row) : MapS w' b n out := by
  obtain ⟨D, f, h, hr⟩ := h; exact ⟨D, f, h.kept hg hne, hr⟩
theorem MapS.below {w w' : World} {b n : Nat} {out : List Setting} (h : MapS w b n out) (hb : Below w.heap.size w w') : MapS w' b n out := by
  have hl := h.lt
  obtain ⟨D, f, ⟨es, clock, hbk, F, hs, hD⟩, hr⟩ := h
  exact ⟨D, f, ⟨es, clock, (hb.block b hl).trans hbk, F, hs, hD⟩, hr⟩

/-- The step of a range over such a map. -/
theorem wpList_nextS (w : World) {ops : Array Oper} {rest : List Oper} {o : Oper} {a : Act} {Q : Exit → Act → World → Prop}
    (hg : o.guard = none) (it : Operand) (hop : o.op = Op.next it false) (b r n : Nat) (D : DataW Value) (left : Lit → Bool) (cnt : Nat) (hit : a.eval it = .pointer (some ⟨r, 0, none⟩)) (h : w.ranges Tryz.prog 9 heldS b r n D left cnt)
    (hDone : cnt = 0 → (∀ kl, left kl = false) → wpList Tryz.prog ops Q rest (a.put o.dst (.tuple #[.bool false])) w)
    (hMore : ∀ (x cp ct cf : ByteArray) (w' : World) (cnt' : Nat), left (textKey x) = true → (∀ zd, D.atKey (textKey x) zd = .held (sVal ⟨cp, ct, cf⟩)) → keyOf Tryz.prog 9 (.string x) = some (textKey x) → w'.ranges Tryz.prog 9 heldS b r n D (fun z => left z && !z.sameKey (textKey x)) cnt' → cnt' < cnt →
      w.grownBy w' (some r) → w'.heap.size = w.heap.size → (Instr.entry (.pointer (some ⟨r, 0, none⟩))).run Tryz.prog w' = .ok (.tuple #[.string x, .agg #[.string cp, .string ct, .string cf]]) w' → wpList Tryz.prog ops Q rest (a.put o.dst (.tuple #[.bool true, .string x, .agg #[.string cp, .string ct, .string cf]])) w') :
    wpList Tryz.prog ops Q (o :: rest) a w :=
  wpList_next_ranges w hg it hop 9 law9 heldS Value.string sVal (fun key kl hkey => by obtain ⟨x, rfl, _⟩ := key_inv hkey; exact ⟨x, rfl⟩) (fun v y hv => by obtain ⟨c, rfl, _⟩ := heldS_inv hv; exact ⟨c, rfl⟩)
    b r n D left cnt hit h hDone (fun x c kl y w' cnt' hkey hlk hv hat hrg hlt hgr hsz hen => by
      obtain ⟨x', ex, rfl⟩ := key_inv hkey
      cases ex
      rw [heldS_mk] at hv
      cases hv
      obtain ⟨cp, ct, cf⟩ := c
      exact hMore x cp ct cf w' cnt' hlk hat hkey hrg hlt hgr hsz hen)

/-- What is left of f while its entries are gone through, those that hit going. -/
def leftF (f : ByteArray → Option Setting) (e : Entry) (left : Lit → Bool) (p : ByteArray) : Option Setting := match f p with
  | some s => if left (textKey p) || !hits s e then some s else none
  | none => none
theorem leftF_start {D : DataW Value} {f : ByteArray → Option Setting} (h : Rep D f) (e : Entry) : Rep D (leftF f e (has D)) := by
  refine h.congr (fun p => ?_)
  unfold leftF
  cases hf : f p with
  | none => rfl
  | some s => rw [h.has, hf]; rfl
theorem same_text (p q : ByteArray) : (textKey p).sameKey (textKey q) = decide (p = q) := by
  by_cases e : p = q
  · subst e; rw [WideAt.sameKey_self (textKey_key p)]; simp
  · rw [sameKey_ne (fun h => e (textKey_inj h))]; simp [e]
theorem leftF_hit {D : DataW Value} {f : ByteArray → Option Setting} {e : Entry} {left : Lit → Bool} {x : ByteArray} {c : Setting} (h : Rep D (leftF f e left)) (hat : ∀ z, D.atKey (textKey x) z = .held (sVal c)) (hh : hits c e = true) :
    Rep (D.del (textKey x)) (leftF f e (fun z => left z && !z.sameKey (textKey x))) := by
  have hx := h.some hat
  refine (h.del x).congr (fun p => ?_)
  unfold leftF at hx ⊢
  by_cases ep : p = x
  · subst ep
    simp only [if_true]
    cases hf : f p with
    | none => rfl
    | some s =>
      rw [hf] at hx
      simp only at hx
      split at hx
      · cases hx
        simp [same_text, hh]
      · cases hx
  · simp only [if_neg ep]
    cases hf : f p with
    | none => rfl
    | some s => simp [same_text, ep]
theorem leftF_stay {D : DataW Value} {f : ByteArray → Option Setting} {e : Entry} {left : Lit → Bool} {x : ByteArray} {c : Setting} (h : Rep D (leftF f e left)) (hat : ∀ z, D.atKey (textKey x) z = .held (sVal c)) (hh : hits c e = false) :
    Rep D (leftF f e (fun z => left z && !z.sameKey (textKey x))) := by
  have hx := h.some hat
  refine h.congr (fun p => ?_)
  unfold leftF at hx ⊢
  by_cases ep : p = x
  · subst ep
    cases hf : f p with
    | none => rfl
    | some s =>
      rw [hf] at hx
      simp only at hx
      split at hx
      · rename_i hl
        cases hx
        simp [same_text, hh]
      · cases hx
  · cases hf : f p with
    | none => rfl
    | some s => simp [same_text, ep]
theorem leftF_end {D : DataW Value} {f : ByteArray → Option Setting} {e : Entry} {left : Lit → Bool} (h : Rep D (leftF f e left)) (hl : ∀ kl, left kl = false) : Rep D (leftF f e (fun _ => false)) := by
  have : left = fun _ => false := funext hl
  subst this
  exact h
theorem lay_erase {f : ByteArray → Option Setting} {out : List Setting} {e : Entry} {nm : ByteArray} (hr : SRises out) (h : IsOf f out) (ht : tilde e = true) : IsOf (leftF f e (fun _ => false)) (layStep nm out e) := by
  intro p s
  rw [(layStep_ok (e := e) (nm := nm) hr).2]
  unfold leftF
  cases hf : f p with
  | none =>
    simp only
    refine ⟨fun hn => (by cases hn), ?_⟩
    rintro ⟨⟨h1, _⟩ | ⟨h1, _⟩, rfl⟩
    · rw [(h s.path s).2 ⟨h1, rfl⟩] at hf; cases hf
    · rw [ht] at h1; cases h1
  | some t =>
    have ht2 := (h p t).1 hf
    simp only [Bool.false_or]
    constructor
    · intro hh
      split at hh
      · rename_i hc
        cases hh
        exact ⟨.inl ⟨ht2.1, by simpa using hc⟩, ht2.2⟩
      · cases hh
    · rintro ⟨⟨h1, h2⟩ | ⟨h1, _⟩, rfl⟩
      · have := (h s.path s).2 ⟨h1, rfl⟩
        rw [hf] at this
        cases this
        simp [h2]
      · rw [ht] at h1; cases h1
theorem lay_put {f : ByteArray → Option Setting} {out : List Setting} {e : Entry} {nm : ByteArray} (hr : SRises out) (h : IsOf f out) (ht : tilde e = false) : IsOf (fun p => if p = e.path then some (newS e nm) else leftF f e (fun _ => false) p) (layStep nm out e) := by
  intro p s
  rw [(layStep_ok (e := e) (nm := nm) hr).2]
  by_cases ep : p = e.path
  · subst ep
    simp only [if_true]
    constructor
    · intro hh; cases hh; exact ⟨.inr ⟨ht, rfl⟩, rfl⟩
    · rintro ⟨⟨h1, h2⟩ | ⟨_, rfl⟩, hp⟩
      · rw [hits_same hp] at h2; cases h2
      · rfl
  · simp only [if_neg ep]
    unfold leftF
    cases hf : f p with
    | none =>
      simp only
      refine ⟨fun hn => (by cases hn), ?_⟩
      rintro ⟨⟨h1, _⟩ | ⟨_, rfl⟩, rfl⟩
      · rw [(h s.path s).2 ⟨h1, rfl⟩] at hf; cases hf
      · exact absurd rfl ep
    | some t =>
      have ht2 := (h p t).1 hf
      simp only [Bool.false_or]
      constructor
      · intro hh
        split at hh
        · rename_i hc
          cases hh
          exact ⟨.inl ⟨ht2.1, by simpa using hc⟩, ht2.2⟩
        · cases hh
      · rintro ⟨⟨h1, h2⟩ | ⟨_, rfl⟩, rfl⟩
        · have := (h s.path s).2 ⟨h1, rfl⟩
          rw [hf] at this
          cases this
          simp [h2]
        · exact absurd rfl ep
end Go.Proofs.YtphocibgfdihoaaGreatDoor

namespace Go.Proofs.YtphocibgfdihoaaGreatDoor
open Go.ChangeShapes Go.WideShapes Go.ChangeAt Go.RowKit Go.Maps
set_option linter.unusedVariables false

theorem below_grown {w w' : World} (h : Below w.heap.size w w') : w.grownBy w' none := ⟨h.1, h.2, h.3, h.4, fun i hi _ => h.5 i hi⟩
theorem leftF_in {f : ByteArray → Option Setting} {out : List Setting} {e : Entry} {left : Lit → Bool} {x : ByteArray} {c : Setting} (h : IsOf f out) (hx : leftF f e left x = some c) : c ∈ out ∧ c.path = x := by
  unfold leftF at hx
  cases hf : f x with
  | none => rw [hf] at hx; cases hx
  | some s =>
    rw [hf] at hx
    simp only at hx
    split at hx
    · cases hx; exact (h x c).1 hf
    · cases hx
set_option maxRecDepth 100000 in
set_option maxHeartbeats 4000000 in
theorem implLay {w : World} {b n : Nat} {out : List Setting} (h : MapS w b n out) (hr : SRises out) (hsz : ∀ o ∈ out, o.path.size ≤ 1048576) (yp yt nm : ByteArray) (hyp : yp.size ≤ 1048576) (hn : n < 1000000) :
    Calls Tryz.prog 63 #[.map (some b), .agg #[.string yp, .string yt, .string nm]] w fun e w' => e = .returned (.tuple #[]) ∧ MapS w' b (n + 1) (layStep nm out ⟨yp, yt⟩) ∧ w.grownBy w' (some b) := by
  have hlt := h.lt
  obtain ⟨D0, f, hown, hrep, hof⟩ := h
  obtain ⟨w0, hw0⟩ : ∃ w0, w.alloc (.cells #[.string yp, .string yt, .string nm] 76) = w0 := ⟨_, rfl⟩
  have hg00 : w.grownBy w0 none := by rw [← hw0]; exact World.grownBy_alloc w _ none
  have hs00 : w0.heap.size = w.heap.size + 1 := by rw [← hw0]; simp
  have hbk : Blk w0 w.heap.size 76 #[.string yp, .string yt, .string nm] := by rw [← hw0]; exact heap_alloc_last w _
  have hown0 : w0.ownsMap Tryz.prog 9 heldS b n D0 := hown.kept hg00 (by simp)
  have HBK : Hid (Blk w0 w.heap.size 76 #[.string yp, .string yt, .string nm]) := hbk
  have HOF : Hid (IsOf f out) := hof
  have HSZ : Hid (∀ o ∈ out, o.path.size ≤ 1048576) := hsz
  have HST : Hid (Rep D0 (leftF f ⟨yp, yt⟩ (has D0))) := leftF_start hrep _
  have HR : Hid (SRises out) := hr
  have HG00 : Hid (w.grownBy w0 none) := hg00
  obtain ⟨gs, hgs⟩ : ∃ gs, w.heap.size = gs := ⟨_, rfl⟩
  rw [hgs] at HBK hs00
  have HS0 : Hid (w0.heap.size = gs + 1) := hs00
  clear hbk hof hsz hrep hr hg00 hown hs00
  go_enter Tryz.func63, Tryz.ntmps63
  go_upto_region 1 with fail
  go_wp2_with (first
    | (at_range; refine wpList_range_own _ rfl _ 67 rfl 9 76 law9 Tryz.underlying67 _ b n _ rfl hown0 ?_; intro w1 hrg0 hg0 hs0)
    | go_in)
  go_frame
  go_loopw [4] (fun _ wr => ∃ (left : Lit → Bool) (cnt : Nat) (D : DataW Value), wr.ranges Tryz.prog 9 heldS b w0.heap.size n D left cnt ∧ Rep D (leftF f ⟨yp, yt⟩ left) ∧ w0.grownBy wr (some b)) (fun _ wr => wr.rangeLeft b w0.heap.size)
  case atStart => exact ⟨_, _, _, hrg0, HST.out, hg0.but _⟩
  case round =>
    obtain ⟨left, cnt, D, hrg, hrp, hgw⟩ := hrel
    have hbkr : Blk wr gs 76 #[.string yp, .string yt, .string nm] := by
      have := hgw.block gs (by have := HS0.out; omega) (by simp; omega)
      unfold Blk
      rw [this]; exact HBK.out
    have HBR : Hid (Blk wr gs 76 #[.string yp, .string yt, .string nm]) := hbkr
    have HRP : Hid (Rep D (leftF f ⟨yp, yt⟩ left)) := hrp
    have HGW : Hid (w0.grownBy wr (some b)) := hgw
    clear hrp hgw hbkr hg0 hrg0
    go_wp2_with (first
      | (at_next; refine wpList_nextS _ rfl _ rfl b w0.heap.size n _ _ _ rfl hrg ?_ ?_)
      | go_in)
    · intro _ hl0
      have e0 := HBR.out.cell 0
      have e1 := HBR.out.cell 1
      have e2 := HBR.out.cell 2
      simp at e0 e1 e2
      have hownE := hrg.owns
      have hrpE := leftF_end HRP.out hl0
      cases ht : (yt.toList == [126])
      · have hkey : keyOf Tryz.prog 9 (.string yp) = some (textKey yp) := key9 (by simp [maxLen]; omega)
        go_wp2_with (first
          | (at_mapUpdate; go_must (refine wpList_mapUpdate_own _ rfl _ _ _ 67 rfl 9 76 law9 Tryz.underlying67 _ b n _ rfl hownE (by simp [maxLen]; omega) _ _ (textKey yp) rfl rfl hkey (.held (sVal ⟨yp, yt, nm⟩)) [] (heldS_mk ⟨yp, yt, nm⟩) ?_; intro w3 hown3 hg3)))
        go_end0
        refine ⟨rfl, ⟨_, _, hown3, hrpE.put hownE.isMap yp ⟨yp, yt, nm⟩, lay_put (e := ⟨yp, yt⟩) (nm := nm) HR.out HOF.out ht⟩, ?_⟩
        exact (HG00.out.but (some b)).andThen (HGW.out.andThen hg3 (fun j hj => .inr hj)) (fun j hj => .inr hj)
      · go_wp2_with fail
        go_end0
        refine ⟨rfl, ⟨_, _, hownE.mono (Nat.le_succ n), hrpE, lay_erase (e := ⟨yp, yt⟩) (nm := nm) HR.out HOF.out ht⟩, ?_⟩
        exact (HG00.out.but (some b)).andThen HGW.out (fun j hj => .inr hj)
    · intro x cp ct cf w2 cnt1 hlx hat hkey hrg1 hlt1 hg1 hs1 hen
      have hcx := HRP.out.some hat
      have hin := leftF_in HOF.out hcx
      have hcz := HSZ.out _ hin.1
      dsimp only at hcz
      have hgw1 := HGW.out.andThen hg1 (fun j hj => by cases hj; exact .inl (Nat.le_refl _))
      have hbk2 : Blk w2 gs 76 #[.string yp, .string yt, .string nm] := by
        have := hg1.block gs HBR.out.lt (by have := HS0.out; simp; omega)
        unfold Blk
        rw [this]; exact HBR.out
      have e0 : ∀ o, (w2.alloc o).cell? ⟨gs, 0, none⟩ = some (.string yp) := fun o => by
        have := (Blk.below hbk2 ((Below.refl _ w2).alloc (Nat.le_refl _) o)).cell 0
        simpa using this
      have cm := fun w => implMeets cp yp hcz hyp w
      have HAT : Hid (∀ z, D.atKey (textKey x) z = .held (sVal ⟨cp, ct, cf⟩)) := hat
      have HG1 : Hid (w0.grownBy w2 (some b)) := hgw1
      have HRG1 : Hid (w2.ranges Tryz.prog 9 heldS b w0.heap.size n D (fun z => left z && !z.sameKey (textKey x)) cnt1) := hrg1
      obtain ⟨H, hH⟩ : ∃ H, (withinB cp yp || withinB yp cp) = H := ⟨_, rfl⟩
      rw [hH] at cm
      have HH : Hid (hits ⟨cp, ct, cf⟩ ⟨yp, yt⟩ = H) := hH
      clear hat hgw1 hcx hin hH hbk2 hrg1 hs1
      cases H
      · go_wp2_with (first
          | (go_at_call 77; go_must (refine (cm _).mono ?_; rintro e w3 ⟨rfl, hb3⟩; have hg3 := below_grown (Below.trans ((Below.refl _ w2).alloc (Nat.le_refl _) _) (hb3.mono (by simp))))))
        have hrg3 := HRG1.out.kept hg3 (by simp) (by simp)
        refine ⟨⟨_, cnt1, D, hrg3, leftF_stay HRP.out HAT.out HH.out, HG1.out.andThen hg3 (fun j hj => by cases hj)⟩, ?_⟩
        rw [hrg3.left_eq, hrg.left_eq]; exact hlt1
      · go_wp2_with (first
          | (go_at_call 77; go_must (refine (cm _).mono ?_; rintro e w3 ⟨rfl, hb3⟩; have hg3 := below_grown (Below.trans ((Below.refl _ w2).alloc (Nat.le_refl _) _) (hb3.mono (by simp))); have hrg3 := HRG1.out.kept hg3 (by simp) (by simp)))
          | (at_delete; go_must (refine wpList_delete_ranges _ rfl _ _ 67 9 rfl 76 law9 Tryz.underlying67 _ b w0.heap.size n _ _ _ rfl hrg3 _ _ rfl hkey ?_; intro w4 cnt2 hrg4 hle hturn; go_frame)))
        rw [strike_twice] at hrg4
        go_roundw
        case rel => exact ⟨_, cnt2, _, hrg4, leftF_hit HRP.out HAT.out HH.out, (HG1.out.andThen hg3 (fun j hj => by cases hj)).andThen hturn.grown (fun j hj => .inr hj)⟩
        case measure => rw [hrg4.left_eq, hrg.left_eq]; omega
end Go.Proofs.YtphocibgfdihoaaGreatDoor

namespace Go.Proofs.YtphocibgfdihoaaGreatDoor
open Go.ChangeShapes Go.WideShapes Go.ChangeAt Go.RowKit Go.Sort
set_option linter.unusedVariables false

/-- How two texts stand: -1, 0 or 1. -/
def cmpT (x y : ByteArray) : Int := if lessB x y then -1 else if x = y then 0 else 1
set_option maxRecDepth 100000 in
theorem implNaN (x : ByteArray) (w : World) : Calls Tryz.prog 149 #[.string x] w fun e w' => e = .returned (.bool false) ∧ w' = w := by
  go_enter Tryz.func149, Tryz.ntmps149
  go_wp2
  go_ret
  exact ⟨by simp, rfl⟩
set_option maxRecDepth 100000 in
theorem implCmpS (x y : ByteArray) (w : World) : Calls Tryz.prog 111 #[.string x, .string y] w fun e w' => e = .returned (.int .i64 (cmpT x y)) ∧ w' = w := by
  have c1 := fun w => implNaN x w
  have c2 := fun w => implNaN y w
  unfold cmpT lessB
  have hxy : (x = y) = ((x.toList == y.toList) = true) := by rw [beq_bytes]; simp
  obtain ⟨L, hL⟩ : ∃ L, Go.Op.bytesLess x.toList y.toList = L := ⟨_, rfl⟩
  obtain ⟨E, hE⟩ : ∃ E, (x.toList == y.toList) = E := ⟨_, rfl⟩
  simp only [hxy]
  rw [hL, hE]
  cases L <;> cases E <;>
  · go_enter Tryz.func111, Tryz.ntmps111
    go_wp2_with (first
      | (go_at_call 149; go_must (first | (refine (c1 _).mono ?_; rintro e w1 ⟨rfl, rfl⟩) | (refine (c2 _).mono ?_; rintro e w1 ⟨rfl, rfl⟩))))
    go_ret
    exact ⟨rfl, rfl⟩
set_option maxRecDepth 100000 in
set_option maxHeartbeats 1000000 in
theorem implOr (a b : Int) (g : Nat) (w : World) (h0 : w.cell? ⟨g, 0, none⟩ = some (.int .i64 a)) (h1 : w.cell? ⟨g, 1, none⟩ = some (.int .i64 b)) :
    Calls Tryz.prog 109 #[.slice (some ⟨g, 0, none⟩) 2 2] w fun e w' => e = .returned (.int .i64 (if a = 0 then b else a)) ∧ w' = w := by
  by_cases ha : a = 0
  · rw [if_pos ha]
    subst ha
    by_cases hb : b = 0
    · subst hb
      go_enter Tryz.func109, Tryz.ntmps109
      go_wp2
      refine wp_loop_rounds 3 ?_
      rw [rounds_succ]
      go_wp2
      rw [rounds_succ]
      go_wp2
      rw [rounds_succ]
      go_wp2
      go_ret
      exact ⟨rfl, rfl⟩
    · have hb' : (b == 0) = false := by simp [hb]
      go_enter Tryz.func109, Tryz.ntmps109
      go_wp2
      refine wp_loop_rounds 2 ?_
      rw [rounds_succ]
      go_wp2
      rw [rounds_succ]
      go_wp2
      go_ret
      exact ⟨rfl, rfl⟩
  · rw [if_neg ha]
    have ha' : (a == 0) = false := by simp [ha]
    go_enter Tryz.func109, Tryz.ntmps109
    go_wp2
    refine wp_loop_rounds 1 ?_
    rw [rounds_succ]
    go_wp2
    go_ret
    exact ⟨rfl, rfl⟩
set_option maxRecDepth 100000 in
theorem implRankOf (nm : ByteArray) (r : Int) (a : Option Addr) (n c : Nat) (w : World) : Calls Tryz.prog 61 #[.agg #[.string nm, .int .i64 r, .slice a n c]] w fun e w' => e = .returned (.int .i64 r) ∧ w' = w.alloc (.cells #[.string nm, .int .i64 r, .slice a n c] 59) := by
  go_enter Tryz.func61, Tryz.ntmps61
  go_wp2_with fail
  go_ret
  exact ⟨rfl, rfl⟩
set_option maxRecDepth 100000 in
theorem implNameOf (nm : ByteArray) (r : Int) (a : Option Addr) (n c : Nat) (w : World) : Calls Tryz.prog 62 #[.agg #[.string nm, .int .i64 r, .slice a n c]] w fun e w' => e = .returned (.string nm) ∧ w' = w.alloc (.cells #[.string nm, .int .i64 r, .slice a n c] 59) := by
  go_enter Tryz.func62, Tryz.ntmps62
  go_wp2_with fail
  go_ret
  exact ⟨rfl, rfl⟩
/-- A layer whose entries are a slice. -/
structure LayS where
  v : LayV
  sl : ∃ a n c, v.nv = .slice a n c
def LayS.cells (x : LayS) : List Value := LayVsCells x.1
instance : Inhabited LayS := ⟨⟨⟨⟨⟨#[]⟩, 0, []⟩, .slice none 0 0⟩, none, 0, 0, rfl⟩⟩
/-- By rank, then by name. -/
def cmpL (x y : LayS) : Int := if Lib.compareInt x.1.x.rank y.1.x.rank = 0 then cmpT x.1.x.name y.1.x.name else Lib.compareInt x.1.x.rank y.1.x.rank
theorem ltL (x y : LayS) : ltOf cmpL x y = lessL x.1 y.1 := by
  unfold ltOf cmpL lessL cmpT Lib.compareInt lessB
  by_cases h1 : x.1.x.rank < y.1.x.rank
  · simp [h1]
  · by_cases h2 : y.1.x.rank < x.1.x.rank
    · have h3 : ¬ x.1.x.rank = y.1.x.rank := by omega
      simp [h1, h2, h3]
    · have h3 : x.1.x.rank = y.1.x.rank := by omega
      rw [h3]
      simp only [Int.lt_irrefl, if_false, if_true, decide_false, Bool.false_or, beq_self_eq_true, Bool.true_and]
      cases Go.Op.bytesLess x.1.x.name.toList y.1.x.name.toList
      · by_cases h4 : x.1.x.name = y.1.x.name <;> simp [h4]
      · simp
theorem lessL_neg {x y z : LayV} (h1 : lessL x y = false) (h2 : lessL y z = false) : lessL x z = false := by
  cases h : lessL x z
  · rfl
  · rw [Bool.eq_false_iff, Ne, lessL_iff] at h1 h2
    rw [lessL_iff] at h
    exfalso
    rcases h with h | ⟨ha, hb⟩
    · have a1 : ¬ x.x.rank < y.x.rank := fun q => h1 (.inl q)
      have a2 : ¬ y.x.rank < z.x.rank := fun q => h2 (.inl q)
      omega
    · have a1 : ¬ x.x.rank < y.x.rank := fun q => h1 (.inl q)
      have a2 : ¬ y.x.rank < z.x.rank := fun q => h2 (.inl q)
      have e1 : x.x.rank = y.x.rank := by omega
      have e2 : y.x.rank = z.x.rank := by omega
      by_cases en : x.x.name = y.x.name
      · exact h2 (.inr ⟨e2, en ▸ hb⟩)
      · rcases lessB_total en with q | q
        · exact h1 (.inr ⟨e1, q⟩)
        · exact h2 (.inr ⟨e2, lessB_trans q hb⟩)
theorem swoL : SWO (ltOf cmpL) where
  irrefl x := by rw [ltL]; exact Bool.eq_false_iff.2 (lessL_irrefl x.1)
  trans x y z h1 h2 := by rw [ltL] at *; exact lessL_trans h1 h2
  ntrans x y z h1 h2 := by rw [ltL] at *; exact lessL_neg h1 h2
theorem two_new (w : World) (a b : Int) (g : Nat) (hg : g = w.heap.size) : (w.alloc (.cells #[.int .i64 a, .int .i64 b] 3)).drew.cell? ⟨g, 0, none⟩ = some (.int .i64 a) ∧ (w.alloc (.cells #[.int .i64 a, .int .i64 b] 3)).drew.cell? ⟨g, 1, none⟩ = some (.int .i64 b) := by
  subst hg
  have h : Blk (w.alloc (.cells #[.int .i64 a, .int .i64 b] 3)) w.heap.size 3 #[.int .i64 a, .int .i64 b] := heap_alloc_last w _
  exact ⟨h.cell 0, h.cell 1⟩
set_option maxRecDepth 100000 in
set_option maxHeartbeats 4000000 in
theorem implCmpL (xn yn : ByteArray) (xr yr : Int) (xa ya : Option Addr) (xl xc yl yc : Nat) (g1 g2 : Nat) (W : World) (h1 : W.cell? ⟨g1, 0, none⟩ = some (.func (.func 61) #[] #[])) (h2 : W.cell? ⟨g2, 0, none⟩ = some (.func (.func 62) #[] #[])) :
    Calls Tryz.prog 108 #[.agg #[.string xn, .int .i64 xr, .slice xa xl xc], .agg #[.string yn, .int .i64 yr, .slice ya yl yc], .pointer (some ⟨g1, 0, none⟩), .pointer (some ⟨g2, 0, none⟩)] W fun e w' => e = .returned (.int .i64 (if Lib.compareInt xr yr = 0 then cmpT xn yn else Lib.compareInt xr yr)) ∧ Grew W w' := by
  obtain ⟨A, hA⟩ : ∃ A, Lib.compareInt xr yr = A := ⟨_, rfl⟩
  obtain ⟨Bv, hB⟩ : ∃ B, cmpT xn yn = B := ⟨_, rfl⟩
  have c77 := fun w => Tryz.cmp_Compare_int xr yr w
  have c78 := fun w => implCmpS xn yn w
  rw [hA] at c77 ⊢
  rw [hB] at c78 ⊢
  clear hA hB
  have c76 := fun g w h0 h1 => implOr A Bv g w h0 h1
  obtain ⟨R, hR⟩ : ∃ R, (if A = 0 then Bv else A) = R := ⟨_, rfl⟩
  rw [hR] at c76 ⊢
  clear hR
  have l1 : g1 < W.heap.size := cell_lt' h1
  have l2 : g2 < W.heap.size := cell_lt' h2
  have hbA : Below W.heap.size W ((W.alloc (.cells #[.string xn, .int .i64 xr, .slice xa xl xc] 59)).alloc (.cells #[.string yn, .int .i64 yr, .slice ya yl yc] 59)) := ((Below.refl _ W).alloc (Nat.le_refl _) _).alloc (by simp) _
  have b1 : Blk ((W.alloc (.cells #[.string xn, .int .i64 xr, .slice xa xl xc] 59)).alloc (.cells #[.string yn, .int .i64 yr, .slice ya yl yc] 59)) W.heap.size 59 #[.string xn, .int .i64 xr, .slice xa xl xc] := Blk.below (show Blk (W.alloc (.cells #[.string xn, .int .i64 xr, .slice xa xl xc] 59)) W.heap.size 59 #[.string xn, .int .i64 xr, .slice xa xl xc] from heap_alloc_last W _) ((Below.refl _ _).alloc (Nat.le_refl _) _)
  have b2 : Blk ((W.alloc (.cells #[.string xn, .int .i64 xr, .slice xa xl xc] 59)).alloc (.cells #[.string yn, .int .i64 yr, .slice ya yl yc] 59)) (W.heap.size + 1) 59 #[.string yn, .int .i64 yr, .slice ya yl yc] := by
    have := heap_alloc_last (W.alloc (.cells #[.string xn, .int .i64 xr, .slice xa xl xc] 59)) (.cells #[.string yn, .int .i64 yr, .slice ya yl yc] 59)
    rwa [World.size_alloc] at this
  have kp : ∀ w', Grew ((W.alloc (.cells #[.string xn, .int .i64 xr, .slice xa xl xc] 59)).alloc (.cells #[.string yn, .int .i64 yr, .slice ya yl yc] 59)) w' → w'.cell? ⟨g1, 0, none⟩ = some (.func (.func 61) #[] #[]) ∧ w'.cell? ⟨g2, 0, none⟩ = some (.func (.func 62) #[] #[]) ∧ w'.cell? ⟨W.heap.size, 0, none⟩ = some (.string xn) ∧ w'.cell? ⟨W.heap.size, 1, none⟩ = some (.int .i64 xr) ∧ w'.cell? ⟨W.heap.size, 2, none⟩ = some (.slice xa xl xc) ∧ w'.cell? ⟨W.heap.size + 1, 0, none⟩ = some (.string yn) ∧ w'.cell? ⟨W.heap.size + 1, 1, none⟩ = some (.int .i64 yr) ∧ w'.cell? ⟨W.heap.size + 1, 2, none⟩ = some (.slice ya yl yc) := fun w' hg => by
    have hB := hg.below
    have hC := good_below hbA hB
    have d1 := b1.below hB
    have d2 := b2.below hB
    exact ⟨(hC.cell (p := ⟨g1, 0, none⟩) l1).trans h1, (hC.cell (p := ⟨g2, 0, none⟩) l2).trans h2, d1.cell 0, d1.cell 1, d1.cell 2, d2.cell 0, d2.cell 1, d2.cell 2⟩
  have KP : Hid _ := kp
  have HG0 : Grew W ((W.alloc (.cells #[.string xn, .int .i64 xr, .slice xa xl xc] 59)).alloc (.cells #[.string yn, .int .i64 yr, .slice ya yl yc] 59)) := ((Grew.refl W).alloc _).alloc _
  clear kp b1 b2 hbA
  go_enter Tryz.func108, Tryz.ntmps108
  go_wp2_with fail
  go_region_held3 (fun w' => w'.cell? ⟨g1, 0, none⟩ = some (.func (.func 61) #[] #[]) ∧ w'.cell? ⟨g2, 0, none⟩ = some (.func (.func 62) #[] #[]) ∧ w'.cell? ⟨W.heap.size, 0, none⟩ = some (.string xn) ∧ w'.cell? ⟨W.heap.size, 1, none⟩ = some (.int .i64 xr) ∧ w'.cell? ⟨W.heap.size, 2, none⟩ = some (.slice xa xl xc) ∧ w'.cell? ⟨W.heap.size + 1, 0, none⟩ = some (.string yn) ∧ w'.cell? ⟨W.heap.size + 1, 1, none⟩ = some (.int .i64 yr) ∧ w'.cell? ⟨W.heap.size + 1, 2, none⟩ = some (.slice ya yl yc)) (first | (refine KP.out _ ?_; repeat (first | exact Grew.refl _ | apply Grew.alloc | apply Grew.drew))) (first
    | (go_at_call 61; refine (implRankOf _ _ _ _ _ _).mono ?_; rintro e w' ⟨rfl, rfl⟩)
    | (go_at_call 62; refine (implNameOf _ _ _ _ _ _).mono ?_; rintro e w' ⟨rfl, rfl⟩)
    | (go_at_call 110; refine (c77 _).mono ?_; rintro e w' ⟨rfl, rfl⟩)
    | (go_at_call 111; refine (c78 _).mono ?_; rintro e w' ⟨rfl, rfl⟩)
    | (go_at_call 109; refine (c76 _ _ (two_new _ A Bv _ (by simp)).1 (two_new _ A Bv _ (by simp)).2).mono ?_; rintro e w' ⟨rfl, rfl⟩))
  all_goals go_wp2_with fail
  all_goals go_ret
  all_goals refine ⟨rfl, HG0.trans ?_⟩
  all_goals repeat (first | exact Grew.refl _ | apply Grew.alloc | apply Grew.drew)
end Go.Proofs.YtphocibgfdihoaaGreatDoor

namespace Go.Proofs.YtphocibgfdihoaaGreatDoor
open Go.ChangeShapes Go.WideShapes Go.ChangeAt Go.RowKit
open Go.Sort (grow putRow putCells mapBlock onCells heap_grow_old ahead HoldsK flatK get_flatK size_flatK putRowK PermIn SortedIn SWO)
set_option linter.unusedVariables false

/-- What a sort leaves. -/
structure SortedL (l l' : List LayV) : Prop where
  perm : l'.Perm l
  rises : l'.Pairwise fun x y => lessL y x = false
def Slices (l : List LayV) : Prop := ∀ x ∈ l, ∃ a n c, x.nv = .slice a n c
def cmpFnL (g1 g2 : Nat) : Value := .func (.func 108) #[] #[.pointer (some ⟨g1, 0, none⟩), .pointer (some ⟨g2, 0, none⟩)]
/-- The two questions lie in blocks of their own. -/
def AsksL (w : World) (g1 g2 : Nat) : Prop := w.cell? ⟨g1, 0, none⟩ = some (.func (.func 61) #[] #[]) ∧ w.cell? ⟨g2, 0, none⟩ = some (.func (.func 62) #[] #[])
theorem lift_slices : ∀ l : List LayV, Slices l → ∃ L : List LayS, L.map (·.1) = l
  | [], _ => ⟨[], rfl⟩
  | x :: l, h => by
    obtain ⟨L, hL⟩ := lift_slices l (fun y hy => h y (List.mem_cons_of_mem _ hy))
    exact ⟨⟨x, h x (List.mem_cons_self ..)⟩ :: L, by rw [List.map_cons, hL]⟩
theorem rowS (l : List LayS) : l.flatMap LayS.cells = LayVsRow (l.map (·.1)) := by
  unfold LayVsRow LayS.cells
  rw [List.flatMap_map]
theorem implSortL {B : Nat} {w : World} {v : Value} {l : List LayV} (h : OwnLayVs B w v l) (hs : Slices l) (hl : l.length ≤ 1000000) {g1 g2 : Nat} (ha : AsksL w g1 g2) :
    Calls Tryz.prog 87 #[v, cmpFnL g1 g2] w fun e w' => e = .returned (.tuple #[]) ∧ ∃ l', SortedL l l' ∧ OwnLayVs B w' v l' ∧ w.grownBy w' v.ownBlock := by
  by_cases h0 : l = []
  · subst h0
    obtain ⟨a, cap, rfl, _⟩ := h.value
    refine (AnyF.slices_SortFunc_none { Tryz.sortLay with } a cap (cmpFnL g1 g2) w).mono ?_
    rintro e w' ⟨rfl, rfl⟩
    exact ⟨rfl, [], ⟨List.Perm.refl _, List.Pairwise.nil⟩, h, grown_refl _ _⟩
  · have hpos : 0 < l.length := by
      cases l with
      | nil => exact absurd rfl h0
      | cons a r => simp
    obtain ⟨av, cv, hvv, _, hcv⟩ := h.value
    rcases h.2 with ⟨_, hz⟩ | ⟨g, cap, cur, rfl, hB, hg, hn1, hn2, hn3, hn4⟩
    · omega
    obtain ⟨g', hg', _, _, hcell⟩ := hcv hpos
    simp only [Value.slice.injEq] at hvv
    obtain ⟨rfl, _, _⟩ := hvv
    simp only [Option.some.injEq, Addr.mk.injEq, and_true] at hg'
    subst hg'
    have c0 := (hcell 0 hpos).1
    have n1 : g1 ≠ g := fun e => by
      subst e
      have := ha.1
      simp only [Nat.zero_mul] at c0
      rw [c0] at this
      cases this
    have n2 : g2 ≠ g := fun e => by
      subst e
      have := ha.2
      simp only [Nat.zero_mul] at c0
      rw [c0] at this
      cases this
    obtain ⟨L, hL⟩ := lift_slices l hs
    subst hL
    rw [List.length_map] at hl hn1 hn4 hpos
    have hk : ∀ x : LayS, x.cells.length = 3 := fun _ => rfl
    have hH : HoldsK LayS.cells 3 w g 0 L.toArray := holdsK_of_block hk (by omega) hg (by rw [rowS]; exact hn4)
    have eg : ∀ args w, (callFunc 108 args).run Tryz.prog w = .ok (.enter 108 args) w := enters_of Tryz.func108 (by kernel_rfl) rfl
    have hcmp : CmpLays Tryz.prog 108 #[.pointer (some ⟨g1, 0, none⟩), .pointer (some ⟨g2, 0, none⟩)] LayS.cells 3 cmpL g 0 L.toArray.size w := by
      intro m os dk _ x y
      have hgr : w.grownBy (sortWorldK LayS.cells 3 w g 0 m dk os) (some g) := grownBy_sortedK dk
      obtain ⟨⟨⟨xn, xr, xe⟩, xv⟩, xa, xl, xc, hx⟩ := x
      obtain ⟨⟨⟨yn, yr, ye⟩, yv⟩, ya, yl, yc, hy⟩ := y
      dsimp only at hx hy
      subst hx hy
      exact implCmpL xn yn xr yr xa ya xl xc yl yc g1 g2 _ (hgr.cell ha.1 (by simp [n1])) (hgr.cell ha.2 (by simp [n2]))
    have hcon := AnyQ.slices_SortFunc Tryz.sortLay 3 Tryz.isAgg59 Tryz.sizeOf59 LayS.cells hk (fun x v hv => by
      obtain ⟨⟨⟨xn, xr, xe⟩, xv⟩, xa, xl, xc, hx⟩ := x
      dsimp only at hx
      subst hx
      simp [LayS.cells, LayVsCells] at hv
      rcases hv with rfl | rfl | rfl <;> rfl) cmpL swoL 108 #[.pointer (some ⟨g1, 0, none⟩), .pointer (some ⟨g2, 0, none⟩)] g 0 cap L.toArray w eg hcmp hH (Array.getElem?_eq_some_iff.1 hg).1 (by simp; omega)
    have e1 : (L.map (·.1)).length = L.toArray.size := by simp
    rw [e1]
    refine Calls.mono hcon ?_
    rintro e w' ⟨rfl, d', n, os, hp, hso, rfl⟩
    have hsize : d'.toList.length = L.length := by rw [Array.length_toList, hp.1]; simp
    refine ⟨rfl, d'.toList.map (·.1), ⟨(perm_of hp).map _, ?_⟩, ?_, grownBy_sortedK d'⟩
    · rw [List.pairwise_map]
      refine (sorted_of hp hso).imp ?_
      intro a b hab
      rw [ltL] at hab
      exact hab
    · have := ownsRow_sortedK (n := n) (os := os) hk (by omega) hsize hB hg hn1 hn2 hn3
      unfold OwnLayVs
      rw [List.length_map, hsize, ← rowS]
      simpa using this
set_option maxRecDepth 100000 in
theorem implByTwoL (w : World) : Calls Tryz.prog 88 #[.func (.func 61) #[] #[], .func (.func 62) #[] #[]] w fun e w' => (∃ g1 g2, e = .returned (cmpFnL g1 g2) ∧ AsksL w' g1 g2 ∧ w.heap.size ≤ g1 ∧ w.heap.size ≤ g2) ∧ Below w.heap.size w w' := by
  have hmf : ∀ (fn : Fn) (first cap : Array Value) (w : World), (Instr.makeFunc fn first cap).run Tryz.prog w = .ok (.func fn first cap) w := fun _ _ _ _ => rfl
  go_enter Tryz.func88, Tryz.ntmps88
  go_wp2_with fail
  go_ret
  have b1 : Blk ((w.alloc (.cells #[.func (.func 61) #[] #[]] 115)).alloc (.cells #[.func (.func 62) #[] #[]] 116)) w.heap.size 115 #[.func (.func 61) #[] #[]] := Blk.below (show Blk (w.alloc (.cells #[.func (.func 61) #[] #[]] 115)) w.heap.size 115 #[.func (.func 61) #[] #[]] from heap_alloc_last w _) ((Below.refl _ _).alloc (Nat.le_refl _) _)
  have b2 : Blk ((w.alloc (.cells #[.func (.func 61) #[] #[]] 115)).alloc (.cells #[.func (.func 62) #[] #[]] 116)) (w.heap.size + 1) 116 #[.func (.func 62) #[] #[]] := by
    have := heap_alloc_last (w.alloc (.cells #[.func (.func 61) #[] #[]] 115)) (.cells #[.func (.func 62) #[] #[]] 116)
    rwa [World.size_alloc] at this
  refine ⟨⟨w.heap.size, w.heap.size + 1, rfl, ⟨b1.cell 0, b2.cell 0⟩, by omega, by omega⟩, ((Below.refl _ w).alloc (Nat.le_refl _) _).alloc (by simp) _⟩
set_option maxRecDepth 100000 in
set_option maxHeartbeats 1000000 in
theorem implSortTwoL {B : Nat} {w : World} {v : Value} {l : List LayV} (h : OwnLayVs B w v l) (hs : Slices l) (hBw : B ≤ w.heap.size) (hl : l.length ≤ 1000000) :
    Calls Tryz.prog 60 #[v, .func (.func 61) #[] #[], .func (.func 62) #[] #[]] w fun e w' => e = .returned (.tuple #[]) ∧ (∃ l', SortedL l l' ∧ OwnLayVs B w' v l') ∧ Below B w w' := by
  obtain ⟨a, cap, hv, _⟩ := h.value
  have HO : Hid (OwnLayVs B w v l) := h
  have HS : Hid (Slices l) := hs
  subst hv
  clear h hs
  go_enter Tryz.func60, Tryz.ntmps60
  go_wp2_with (first
    | (go_at_call 88; go_must (refine (implByTwoL _).mono ?_; rintro e w1 ⟨⟨g1, g2, rfl, has, hg1, hg2⟩, hb1⟩; have cs := implSortL (OwnLayVs.below HO.out hb1) HS.out hl has; unfold cmpFnL at *))
    | (go_at_call 87; go_must (refine cs.mono ?_; rintro e w2 ⟨rfl, l2, hso, hop, hgr⟩)))
  go_end0
  exact ⟨rfl, ⟨l2, hso, hop⟩, (hb1.mono hBw).grown hgr (Nat.le_trans hBw hb1.size) (OwnLayVs.block HO.out)⟩
set_option maxRecDepth 100000 in
set_option maxHeartbeats 1000000 in
theorem implCloneL {S : Nat → Prop} {w : World} {v : Value} {l : List LayV} (h : LayVsAt S w v l) (hS : ∀ b, S b → b < w.heap.size) (hone : LayVsOne l) (hl : l.length ≤ 1000000) :
    Calls Tryz.prog 59 #[v] w fun e w' => (∃ p, e = .returned p ∧ OwnLayVs w.heap.size w' p l) ∧ Below w.heap.size w w' := by
  obtain ⟨_, a, cap, hv, hc⟩ := id h
  subst hv
  have HH : Hid (LayVsAt S w (.slice a l.length cap) l) := h
  have HO : Hid (LayVsOne l) := hone
  have HE : Hid (OwnLayVs w.heap.size (w.alloc (.cells #[] 59)) (.slice (some ⟨w.heap.size, 0, none⟩) 0 0) []) := OwnLayVs.empty w.heap.size w (Nat.le_refl _)
  have hnil := fun (w : World) (a : Option Addr) (n c : Nat) => Lib.run_eql_slice_nil (P := Tryz.prog) w 25 59 a n c 0 0 Tryz.underlying25
  cases a with
  | none =>
    have h0 : l = [] := by
      cases l with
      | nil => rfl
      | cons x t =>
        obtain ⟨b, off, hb, _⟩ := hc (by simp)
        cases hb
    subst h0
    clear hc h hone
    go_enter Tryz.func59, Tryz.ntmps59
    go_wp2_with fail
    go_ret
    exact ⟨⟨_, rfl, OwnLayVs.nil _ _⟩, Below.refl _ _⟩
  | some ad =>
    have HK : Hid (LayVsAt S (w.alloc (.cells #[] 59)) (.slice (some ad) l.length cap) l) := h.keep (cells_below hS ((Below.refl _ w).alloc (Nat.le_refl _) _))
    clear hc h hone
    go_enter Tryz.func59, Tryz.ntmps59
    go_wp2_with (at_builtin; go_must (refine wpList_appendLayVs rfl (.tmp 5) (.tmp 6) rfl w.heap.size (.slice (some ⟨w.heap.size, 0, none⟩) 0 0) [] rfl HE.out (.slice (some ad) l.length cap) l rfl HK.out (by simp <;> omega) (by simp) HO.out ?_; intro v4 w4 hown4 hB4 hgr4 hnil4))
    go_ret
    exact ⟨⟨_, rfl, by simpa using hown4⟩, ((Below.refl _ w).alloc (Nat.le_refl _) _).trans hB4⟩
end Go.Proofs.YtphocibgfdihoaaGreatDoor

namespace Go.Proofs.YtphocibgfdihoaaGreatDoor
open Go.ChangeShapes Go.WideShapes Go.ChangeAt Go.RowKit
set_option linter.unusedVariables false

/-- A layer's entries lie there, and are short. -/
def LaySm (S : Nat → Prop) (w : World) (x : LayV) : Prop := EntrysAt S w x.nv x.x.entries ∧ x.x.entries.length ≤ 100 ∧ ∀ e ∈ x.x.entries, e.path.size ≤ 205
theorem laySteps_rises (nm : ByteArray) : ∀ (es : List Entry) (out : List Setting), SRises out → SRises (es.foldl (layStep nm) out)
  | [], out, h => h
  | e :: es, out, h => laySteps_rises nm es _ (layStep_ok h).1
theorem laidFold_rises : ∀ (l : List Layer) (out : List Setting), SRises out → SRises (l.foldl layLayer out)
  | [], out, h => h
  | x :: l, out, h => laidFold_rises l _ (laySteps_rises x.name x.entries out h)
theorem laid_rises (l : List Layer) : SRises (laidF l) := laidFold_rises l [] List.Pairwise.nil
set_option maxRecDepth 100000 in
set_option maxHeartbeats 8000000 in
theorem implMerged {S : Nat → Prop} {lv : List LayV} {v : Value} {w : World} (hS : ∀ b, S b → b < w.heap.size) (h : LayVsAt S w v lv) (hone : LayVsOne lv) (hsl : Slices lv) (hsm : ∀ x ∈ lv, LaySm S w x) (hnm : Named lv) (hl : lv.length ≤ 20) :
    Calls Tryz.prog 29 #[v] w fun e w' => (∃ b n, e = .returned (.map (some b)) ∧ MapS w' b n (laidF ((overF lv).map (·.x))) ∧ w.heap.size ≤ b ∧ n ≤ 2000) ∧ Below w.heap.size w w' := by
  have hmm := @run_makeMap Tryz.prog
  have cc := implCloneL h hS hone (by omega)
  have hcs := fun (w1 : World) (p : Value) (hb1 : Below w.heap.size w w1) (ho : OwnLayVs w.heap.size w1 p lv) => implSortTwoL ho hsl hb1.size (by omega)
  have hov := fun (l' : List LayV) (hs : SortedL lv l') => over_is hnm hs.perm hs.rises
  have hsm2 : ∀ x ∈ overF lv, LaySm S w x := fun x hx => hsm x (over_mem hx)
  have hll := over_len lv
  have HOV : Hid (∀ (l' : List LayV), SortedL lv l' → l' = overF lv) := hov
  obtain ⟨LV, hLV⟩ : ∃ LV, overF lv = LV := ⟨_, rfl⟩
  rw [hLV] at HOV hsm2 hll ⊢
  obtain ⟨a, cap, hv⟩ := h.shape
  subst hv
  have HS : Hid (∀ b, S b → b < w.heap.size) := hS
  have HSM : Hid (∀ x ∈ LV, LaySm S w x) := hsm2
  have HCS : Hid (∀ (w1 : World) (p : Value) (hb1 : Below w.heap.size w w1) (ho : OwnLayVs w.heap.size w1 p lv), Calls Tryz.prog 60 #[p, .func (.func 61) #[] #[], .func (.func 62) #[] #[]] w1 fun e w' => e = .returned (.tuple #[]) ∧ (∃ l', SortedL lv l' ∧ OwnLayVs w.heap.size w' p l') ∧ Below w.heap.size w1 w') := hcs
  have hL20 : (LV.length : Int) ≤ 20 := by omega
  have hL20n : LV.length ≤ 20 := by omega
  unfold laidF
  obtain ⟨F, hF⟩ : ∃ F, (LV.map (·.x)).foldl layLayer [] = F := ⟨_, rfl⟩
  have HF : Hid ((LV.map (·.x)).foldl layLayer [] = F) := hF
  rw [hF]
  have HLE : Hid (LV.length = lv.length) := hll
  clear hF hS h hone hsm hsm2 hll hLV hcs hov hsl hnm
  go_enter Tryz.func29, Tryz.ntmps29
  go_upto_region 3 with (first
    | (go_at_call 59; go_must (refine cc.mono ?_; rintro e w1 ⟨⟨p, rfl, hown1⟩, hb1⟩; have cs := HCS.out w1 p hb1 hown1; obtain ⟨pa, pc, hp, -, -⟩ := hown1.value; subst hp))
    | (go_at_call 60; go_must (refine cs.mono ?_; rintro e w2 ⟨rfl, ⟨l2, hso, hown2⟩, hb2⟩)))
  have hl2 := HOV.out l2 hso
  subst hl2
  have hbw2 : Below w.heap.size w w2 := hb1.trans hb2
  obtain ⟨_, _, hve, -, hpc⟩ := hown2.value
  simp only [Value.slice.injEq] at hve
  obtain ⟨rfl, hle, rfl⟩ := hve
  rw [hle]
  have HPC : Hid (0 < l2.length → ∃ g, pa = some ⟨g, 0, none⟩ ∧ w.heap.size ≤ g ∧ g < w2.heap.size ∧ ∀ j (hj : j < l2.length), w2.cell? ⟨g, j * 3, none⟩ = some (.string l2[j].x.name) ∧ w2.cell? ⟨g, j * 3 + 1, none⟩ = some (.int .i64 l2[j].x.rank) ∧ w2.cell? ⟨g, j * 3 + 2, none⟩ = some (l2[j].nv)) := hpc
  have HBW2 : Hid (Below w.heap.size w w2) := hbw2
  have HMD : Hid (MapS (w2.alloc (.map #[] 0)) w2.heap.size 0 []) := MapS.made w2
  clear hpc hown2 cc cs hb1 hb2 hso hown1 hbw2 hle HLE HOV HCS
  go_wp2_with fail
  go_loopw [16] (fun i16 wr => ∃ (k n : Nat) (out : List Setting), i16 = .int .i64 (k : Int) ∧ k ≤ l2.length ∧ n ≤ k * 100 ∧ MapS wr w2.heap.size n out ∧ SRises out ∧ (∀ o ∈ out, o.path.size ≤ 205) ∧ ((l2.drop k).map (·.x)).foldl layLayer out = F ∧ Below w2.heap.size w2 wr) (fun i16 _ => l2.length - (intOf i16).toNat)
  case atStart => exact ⟨0, 0, [], rfl, by omega, by omega, HMD.out, List.Pairwise.nil, fun x hx => (by cases hx), HF.out, (Below.refl _ w2).alloc (Nat.le_refl _) _⟩
  case round =>
    obtain ⟨k, n, out, rfl, hk, hn, hmp, hri, hsml, hfold, hb⟩ := hrel
    have HMP : Hid (MapS wr w2.heap.size n out) := hmp
    have HRI : Hid (SRises out) := hri
    have HFO : Hid (((l2.drop k).map (·.x)).foldl layLayer out = F) := hfold
    have HSL : Hid (∀ o ∈ out, o.path.size ≤ 205) := hsml
    have HBL : Hid (Below w2.heap.size w2 wr) := hb
    have hbs := hb.size
    have hmlt := hmp.lt
    clear hfold hsml hmp hri
    by_cases hkn : k < l2.length
    · have hkn' : (k : Int) < (l2.length : Int) := by omega
      obtain ⟨gl, rfl, -, hgl, hcell⟩ := HPC.out (by omega)
      obtain ⟨c0, c1, c2⟩ := hcell k hkn
      have hnx : ((l2.drop (k + 1)).map (·.x)).foldl layLayer (layLayer out l2[k].x) = F := by
        have := HFO.out
        rw [List.drop_eq_getElem_cons hkn, List.map_cons, List.foldl_cons] at this
        exact this
      have hxs := HSM.out l2[k] (List.getElem_mem hkn)
      obtain ⟨x, hx⟩ : ∃ x, l2[k] = x := ⟨_, rfl⟩
      rw [hx] at c0 c1 c2 hnx hxs
      obtain ⟨⟨xn, xr, es⟩, xv⟩ := x
      obtain ⟨hes, hel, hep⟩ := hxs
      dsimp only at c0 c1 c2 hes hel hep
      obtain ⟨ea, ec, hxv⟩ := hes.shape
      subst hxv
      unfold layLayer at hnx
      dsimp only at hnx
      obtain ⟨G, hG⟩ : ∃ G, es.foldl (layStep xn) out = G := ⟨_, rfl⟩
      have HG : Hid (es.foldl (layStep xn) out = G) := hG
      have HNX : Hid (((l2.drop (k + 1)).map (·.x)).foldl layLayer G = F) := (show ((l2.drop (k + 1)).map (·.x)).foldl layLayer G = F by rw [← hG]; exact hnx)
      have HES : Hid (EntrysAt S w (.slice ea es.length ec) es) := hes
      have HEP : Hid (∀ e ∈ es, e.path.size ≤ 205) := hep
      have hel' : (es.length : Int) ≤ 100 := by omega
      have d0 := (hb.cell (p := ⟨gl, k * 3, none⟩) hgl).trans c0
      have d1 := (hb.cell (p := ⟨gl, k * 3 + 1, none⟩) hgl).trans c1
      have d2 := (hb.cell (p := ⟨gl, k * 3 + 2, none⟩) hgl).trans c2
      have hbkA : Blk (wr.alloc (.cells #[.string xn, .int .i64 xr, .slice ea es.length ec] 59)) wr.heap.size 59 #[.string xn, .int .i64 xr, .slice ea es.length ec] := heap_alloc_last wr _
      have hgA : wr.grownBy (wr.alloc (.cells #[.string xn, .int .i64 xr, .slice ea es.length ec] 59)) none := World.grownBy_alloc wr _ none
      have hbwA : Below w2.heap.size w2 (wr.alloc (.cells #[.string xn, .int .i64 xr, .slice ea es.length ec] 59)) := hb.alloc hbs _
      obtain ⟨gx, hgx⟩ : ∃ gx, wr.heap.size = gx := ⟨_, rfl⟩
      rw [hgx] at hbkA
      clear hnx hG hx hcell c0 c1 c2 hes hep HFO
      go_upto_region 7 with fail
      obtain ⟨wA, hwA⟩ : ∃ wA, wr.alloc (.cells #[.string xn, .int .i64 xr, .slice ea es.length ec] 59) = wA := ⟨_, rfl⟩
      rw [hwA] at hbkA hgA hbwA ⊢
      have HBA : Hid (Blk wA gx 59 #[.string xn, .int .i64 xr, .slice ea es.length ec]) := hbkA
      have HBWA : Hid (Below w2.heap.size w2 wA) := hbwA
      have HMA : Hid (MapS wA w2.heap.size n out) := HMP.out.kept hgA (by simp)
      have e2 := hbkA.cell 2
      simp at e2
      have hne : gx ≠ w2.heap.size := by omega
      clear hbkA hbwA hgA hwA d0 d1 d2 hb hgx
      go_wp2_with fail
      go_loopw [23] (fun i23 wx => ∃ (m n2 : Nat) (ou : List Setting), i23 = .int .i64 (m : Int) ∧ m ≤ es.length ∧ n2 ≤ k * 100 + m ∧ MapS wx w2.heap.size n2 ou ∧ SRises ou ∧ (∀ o ∈ ou, o.path.size ≤ 205) ∧ (es.drop m).foldl (layStep xn) ou = G ∧ wA.grownBy wx (some w2.heap.size) ∧ Below w2.heap.size w2 wx) (fun i23 _ => es.length - (intOf i23).toNat)
      case atStart => exact ⟨0, n, out, rfl, by omega, by omega, HMA.out, HRI.out, HSL.out, HG.out, ⟨rfl, rfl, rfl, Nat.le_refl _, fun _ _ _ => rfl⟩, HBWA.out⟩
      case round =>
        obtain ⟨m, n2, ou, rfl, hm, hn2, hmp2, hri2, hsml2, hfold2, hgw2, hb2⟩ := hrel
        have HMP2 : Hid (MapS wr w2.heap.size n2 ou) := hmp2
        have HRI2 : Hid (SRises ou) := hri2
        have HFO2 : Hid ((es.drop m).foldl (layStep xn) ou = G) := hfold2
        have HSL2 : Hid (∀ o ∈ ou, o.path.size ≤ 205) := hsml2
        have HGW2 : Hid (wA.grownBy wr (some w2.heap.size)) := hgw2
        have HB2 : Hid (Below w2.heap.size w2 wr) := hb2
        have hbs2 := hb2.size
        clear hfold2 hsml2 hmp2 hri2
        by_cases hmn : m < es.length
        · have hmn' : (m : Int) < (es.length : Int) := by omega
          obtain ⟨_, ea', ec', huv, huc⟩ := HES.out
          simp only [Value.slice.injEq] at huv
          obtain ⟨rfl, -, rfl⟩ := huv
          obtain ⟨eb, eo, rfl, heS, hecell⟩ := huc (by omega)
          have hew := HS.out eb heS
          obtain ⟨p0, p1⟩ := hecell m hmn
          have hbw := HBW2.out.trans (HB2.out.mono HBW2.out.size)
          have q0 := (hbw.cell (p := ⟨eb, eo + m * 2, none⟩) hew).trans p0
          have q1 := (hbw.cell (p := ⟨eb, eo + m * 2 + 1, none⟩) hew).trans p1
          have hnx2 : (es.drop (m + 1)).foldl (layStep xn) (layStep xn ou es[m]) = G := by
            have := HFO2.out
            rw [List.drop_eq_getElem_cons hmn, List.foldl_cons] at this
            exact this
          have hyp := HEP.out es[m] (List.getElem_mem hmn)
          obtain ⟨y, hy⟩ : ∃ y, es[m] = y := ⟨_, rfl⟩
          rw [hy] at q0 q1 hnx2 hyp
          obtain ⟨yp, yt⟩ := y
          dsimp only at q0 q1 hyp
          have HNX2 : Hid ((es.drop (m + 1)).foldl (layStep xn) (layStep xn ou ⟨yp, yt⟩) = G) := hnx2
          have hbkx : Blk wr gx 59 #[.string xn, .int .i64 xr, .slice (some ⟨eb, eo, none⟩) es.length ec] := by
            have := hgw2.block gx HBA.out.lt (by simp; exact hne)
            unfold Blk
            rw [this]; exact HBA.out
          have e0 : ∀ o, (wr.alloc o).cell? ⟨gx, 0, none⟩ = some (.string xn) := fun o => by
            have := (Blk.below hbkx ((Below.refl _ wr).alloc (Nat.le_refl _) o)).cell 0
            simpa using this
          have cl := fun o => implLay (w := wr.alloc o) (HMP2.out.kept (World.grownBy_alloc wr o none) (by simp)) HRI2.out (fun o ho => Nat.le_trans (HSL2.out o ho) (by omega)) yp yt xn (by omega) (by omega)
          have hyn : (newS ⟨yp, yt⟩ xn).path.size ≤ 205 := hyp
          have HMEM : Hid (∀ o ∈ layStep xn ou ⟨yp, yt⟩, o.path.size ≤ 205) := layStep_mem (P := fun o => o.path.size ≤ 205) HSL2.out hyn
          have HRN : Hid (SRises (layStep xn ou ⟨yp, yt⟩)) := (layStep_ok HRI2.out).1
          clear hnx2 hy p0 p1 hecell huc HFO2 hbw hbkx hyn
          go_wp2_with (go_at_call 63; go_must (refine (cl _).mono ?_; rintro e w5 ⟨rfl, hm5, hg5⟩; have hgA5 := (World.grownBy_alloc wr (.cells #[.string yp, .string yt] 56) (some w2.heap.size)).andThen hg5 (fun j hj => .inr hj)))
          refine ⟨⟨m + 1, n2 + 1, layStep xn ou ⟨yp, yt⟩, by go_num, by omega, by omega, hm5, HRN.out, HMEM.out, HNX2.out, HGW2.out.andThen hgA5 (fun j hj => .inr hj), HB2.out.grown hgA5 hbs2 (fun j hj => by cases hj; exact Nat.le_refl _)⟩, by simp [intOf]; omega⟩
        · obtain rfl : m = es.length := by omega
          have hmn' : ¬ ((es.length : Int) < (es.length : Int)) := by omega
          have hG := HFO2.out
          simp at hG
          have HNX3 : Hid (((l2.drop (k + 1)).map (·.x)).foldl layLayer ou = F) := (show ((l2.drop (k + 1)).map (·.x)).foldl layLayer ou = F by rw [hG]; exact HNX.out)
          clear hG
          go_wp2_with fail
          exact ⟨⟨k + 1, n2, ou, by go_num, by omega, by omega, HMP2.out, HRI2.out, HSL2.out, HNX3.out, HB2.out⟩, by simp [intOf]; omega⟩
    · obtain rfl : k = l2.length := by omega
      have hkn' : ¬ ((l2.length : Int) < (l2.length : Int)) := by omega
      have hfin := HFO.out
      simp at hfin
      subst hfin
      go_wp2_with fail
      go_ret
      exact ⟨⟨_, rfl, n, HMP.out, HBW2.out.size, by omega⟩, HBW2.out.trans (HBL.out.mono HBW2.out.size)⟩
end Go.Proofs.YtphocibgfdihoaaGreatDoor

namespace Go.Proofs.YtphocibgfdihoaaGreatDoor
open Go.ChangeShapes Go.WideShapes Go.ChangeAt Go.RowKit
set_option linter.unusedVariables false

def bare (y : LayV) : LayV := ⟨y.x, .nilFunc⟩
theorem lessL_bare (x y : LayV) : lessL (bare x) (bare y) = lessL x y := rfl
theorem posUp_bare (out : List LayV) (y : LayV) : ∀ k, posUp (out.map bare) (bare y) k = posUp out y k
  | 0 => rfl
  | k + 1 => by
    unfold posUp
    rw [List.getElem?_map]
    cases out[k]? with
    | none => rfl
    | some z => simp only [Option.map_some, lessL_bare, posUp_bare out y k]
theorem overStep_bare (out : List LayV) (y : LayV) : overStep (out.map bare) (bare y) = (overStep out y).map bare := by
  unfold overStep posN
  rw [List.length_map, posUp_bare, List.map_append, List.map_append, List.map_take, List.map_drop]
  rfl
theorem overFold_bare : ∀ (lv out : List LayV), (lv.map bare).foldl overStep (out.map bare) = (lv.foldl overStep out).map bare
  | [], out => rfl
  | y :: lv, out => by rw [List.map_cons, List.foldl_cons, List.foldl_cons, overStep_bare, overFold_bare lv]
/-- Layers in the order in which they are laid over one another. -/
def overP (l : List Layer) : List Layer := (overF (l.map fun x => ⟨x, .nilFunc⟩)).map (·.x)
theorem over_plain (lv : List LayV) : (overF lv).map (·.x) = overP (lv.map (·.x)) := by
  unfold overP
  have e : (lv.map (·.x)).map (fun x => (⟨x, .nilFunc⟩ : LayV)) = lv.map bare := by rw [List.map_map]; rfl
  rw [e]
  have h : overF (lv.map bare) = (overF lv).map bare := overFold_bare lv []
  rw [h, List.map_map]
  rfl
/-- The layers that lie there, each with the slice of its entries. -/
theorem layers_lv {S : Nat → Prop} {w : World} {v : Value} {l : List Layer} (h : LayersAt S w v l) : ∃ lv : List LayV, lv.map (·.x) = l ∧ LayVsAt S w v lv ∧ ∀ y ∈ lv, EntrysAt S w y.nv y.x.entries := by
  obtain ⟨hl, a, cap, hv, hc⟩ := h
  by_cases h0 : 0 < l.length
  · obtain ⟨b, off, rfl, hS, hcell⟩ := hc h0
    have hlv : ((l.mapIdx fun i x => (⟨x, (w.cell? ⟨b, off + i * 3 + 2, none⟩).getD .nilFunc⟩ : LayV)).map (·.x)) = l := by
      apply List.ext_getElem
      · simp
      · intro i h1 h2; simp
    refine ⟨l.mapIdx fun i x => ⟨x, (w.cell? ⟨b, off + i * 3 + 2, none⟩).getD .nilFunc⟩, hlv, ⟨by simpa using hl, _, cap, by simpa using hv, fun _ => ⟨b, off, rfl, hS, fun i hi => ?_⟩⟩, fun y hy => ?_⟩
    · have hi' : i < l.length := by simpa using hi
      obtain ⟨c0, c1, nv, t1, t2⟩ := hcell i hi'
      simp only [List.getElem_mapIdx]
      exact ⟨c0, c1, by rw [t1]; rfl⟩
    · obtain ⟨i, hi, rfl⟩ := List.getElem_of_mem hy
      have hi' : i < l.length := by simpa using hi
      obtain ⟨c0, c1, nv, t1, t2⟩ := hcell i hi'
      simp only [List.getElem_mapIdx, t1, Option.getD_some]
      exact t2
  · have hl0 : l = [] := List.length_eq_zero_iff.1 (by omega)
    subst hl0
    exact ⟨[], rfl, ⟨by simp, a, cap, hv, fun h => absurd h (by simp)⟩, fun y hy => by cases hy⟩
theorem dup_apart {l : List ByteArray} (h : dupFrom l [] = false) : l.Pairwise fun x y => x ≠ y := by
  rw [List.pairwise_iff_getElem]
  intro i j hi hj hij e
  have : dupFrom l [] = true := (dup_iff l []).2 ⟨j, hj, by
    unfold hasB
    rw [List.any_eq_true]
    exact ⟨l[i], by rw [List.nil_append, List.mem_take_iff_getElem]; exact ⟨i, by omega, rfl⟩, by rw [e]; simp⟩⟩
  rw [h] at this
  cases this
theorem layers_fine {l : List Layer} (h : layersB nameOK l = true) : l.length ≤ 20 ∧ (l.map Layer.name).Pairwise (fun x y => x ≠ y) ∧ ∀ x ∈ l, x.entries.length ≤ 100 ∧ ∀ e ∈ x.entries, e.path.size ≤ 205 := by
  have h20 : l.length ≤ 20 := by
    unfold layersB at h
    simp only [Bool.and_eq_true, decide_eq_true_eq] at h
    exact h.1
  rw [layers_split nameOK l h20] at h
  simp only [Bool.and_eq_true, Bool.not_eq_true'] at h
  refine ⟨h20, dup_apart h.2.2, fun x hx => ?_⟩
  have hx2 := List.all_eq_true.1 h.1 x hx
  simp only [Bool.and_eq_true, decide_eq_true_eq] at hx2
  refine ⟨hx2.1, fun e he => ?_⟩
  have he2 := hx2.2
  rw [entries_split] at he2
  simp only [Bool.and_eq_true] at he2
  have hp := List.all_eq_true.1 he2.2.1 e.path (List.mem_map.2 ⟨e, he, rfl⟩)
  unfold pathB at hp
  simp only [Bool.and_eq_true, decide_eq_true_eq] at hp
  exact hp.1.1
/-- What a Merge answers. -/
def mergeF (l : List Layer) : List Setting × Int := if 4096 < l.length then ([], 2) else if layersB nameOK l then (laidF (overP l), 0) else ([], 1)
theorem laySteps_len (nm : ByteArray) : ∀ (es : List Entry) (out : List Setting), (es.foldl (layStep nm) out).length ≤ out.length + es.length
  | [], out => by simp
  | e :: es, out => by
    have h1 := laySteps_len nm es (layStep nm out e)
    have h2 := layStep_len (nm := nm) (out := out) (e := e)
    rw [List.foldl_cons, List.length_cons]
    omega
theorem laidFold_len : ∀ (l : List Layer) (out : List Setting), (∀ x ∈ l, x.entries.length ≤ 100) → (l.foldl layLayer out).length ≤ out.length + l.length * 100
  | [], out, _ => by simp
  | x :: l, out, h => by
    have h1 := laidFold_len l (layLayer out x) (fun y hy => h y (List.mem_cons_of_mem _ hy))
    have h2 := laySteps_len x.name x.entries out
    have h3 := h x (List.mem_cons_self ..)
    rw [List.foldl_cons, List.length_cons]
    unfold layLayer at h1
    unfold layLayer
    omega
theorem overP_mem {l : List Layer} {x : Layer} (h : x ∈ overP l) : x ∈ l := by
  unfold overP at h
  obtain ⟨y, hy, rfl⟩ := List.mem_map.1 h
  obtain ⟨z, hz, rfl⟩ := List.mem_map.1 (over_mem hy)
  exact hz
theorem overP_len (l : List Layer) : (overP l).length = l.length := by
  unfold overP
  rw [List.length_map, over_len, List.length_map]
theorem laid_len {l : List Layer} (h : layersB nameOK l = true) : (laidF (overP l)).length ≤ 2000 := by
  obtain ⟨h1, _, h3⟩ := layers_fine h
  have := laidFold_len (overP l) [] (fun x hx => (h3 x (overP_mem hx)).1)
  unfold laidF
  rw [overP_len] at this
  simp at this
  omega
theorem merge_len (l : List Layer) : (mergeF l).1.length ≤ 1000000 := by
  unfold mergeF
  split
  · simp
  · split
    · have := laid_len (by assumption); simp only; omega
    · simp
end Go.Proofs.YtphocibgfdihoaaGreatDoor
