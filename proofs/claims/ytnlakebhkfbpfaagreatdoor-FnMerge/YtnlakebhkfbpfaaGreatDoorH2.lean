/-
  spec.l08Layers: its walk. No statement of the seat is proved here.
-/
import Derived.Test.YtnlakebhkfbpfaaGreatDoorH1
namespace Go.Proofs.YtnlakebhkfbpfaaGreatDoor
open Go.ChangeShapes Go.WideShapes Go.ChangeAt Go.RowKit
set_option linter.unusedVariables false

def entryB (nameB : ByteArray → Bool) (pre : List Entry) (e : Entry) : Bool := pathB nameB e.path && decide (e.text.size ≤ 200) && !(pre.any fun q => q.path.toList == e.path.toList)
/-- Each one, with those ahead of it. -/
def rangeB {α : Type} (f : List α → α → Bool) (l : List α) : Bool := (List.range l.length).all fun k => match l[k]? with | some x => f (l.take k) x | none => true
def entriesB (nameB : ByteArray → Bool) (es : List Entry) : Bool := rangeB (entryB nameB) es
def layerB (nameB : ByteArray → Bool) (pre : List Layer) (x : Layer) : Bool := nameB x.name && decide (x.entries.length ≤ 100) && !(pre.any fun q => q.name.toList == x.name.toList) && entriesB nameB x.entries
def layersB (nameB : ByteArray → Bool) (l : List Layer) : Bool := decide (l.length ≤ 20) && rangeB (layerB nameB) l
theorem range_bad {α : Type} {l : List α} {f : List α → α → Bool} {i : Nat} (hi : i < l.length) (h : f (l.take i) l[i] = false) : rangeB f l = false := by
  unfold rangeB
  rw [List.all_eq_false]
  refine ⟨i, by simpa using hi, ?_⟩
  rw [List.getElem?_eq_getElem hi]
  simp [h]
theorem range_all {α : Type} {l : List α} {f : List α → α → Bool} (h : ∀ i (hi : i < l.length), f (l.take i) l[i] = true) : rangeB f l = true := by
  unfold rangeB
  rw [List.all_eq_true]
  intro i hi
  have hi' : i < l.length := by simpa using hi
  rw [List.getElem?_eq_getElem hi']
  exact h i hi'
theorem layers_bad {nameB : ByteArray → Bool} {l : List Layer} {i : Nat} (hi : i < l.length) (h : layerB nameB (l.take i) l[i] = false) : layersB nameB l = false := by
  unfold layersB
  rw [range_bad (f := layerB nameB) hi h]
  simp
theorem entries_bad {nameB : ByteArray → Bool} {l : List Entry} {i : Nat} (hi : i < l.length) (h : entryB nameB (l.take i) l[i] = false) : entriesB nameB l = false := by
  unfold entriesB
  rw [range_bad (f := entryB nameB) hi h]
theorem take_any {α : Type} {l : List α} {f : α → Bool} {k i : Nat} (hik : i < k) (hi : i < l.length) (h : f l[i] = true) : (l.take k).any f = true := by
  rw [List.any_eq_true]
  exact ⟨l[i], by rw [List.mem_take_iff_getElem]; exact ⟨i, by omega, rfl⟩, h⟩
theorem take_none {α : Type} {l : List α} {f : α → Bool} {k : Nat} (h : ∀ i (hi : i < l.length), i < k → f l[i] = false) : (l.take k).any f = false := by
  rw [List.any_eq_false]
  intro x hx
  obtain ⟨i, hi, rfl⟩ := List.mem_take_iff_getElem.1 hx
  rw [h i (by omega) (by omega)]
  simp

set_option maxRecDepth 100000 in
set_option maxHeartbeats 4000000 in
theorem specLayers {nameB : ByteArray → Bool} (hN : NameSpec nameB) {S : Nat → Prop} {l : List Layer} {v : Value} {w : World} (hS : ∀ b, S b → b < w.heap.size) (h : LayersAt S w v l) (hok : ∀ x ∈ l, LayersOK 1048576 x) :
    Calls Tryz.prog 11 #[v] w fun e w' => e = .returned (.bool (layersB nameB l)) ∧ Below w.heap.size w w' := by
  obtain ⟨hlm, a, cap, rfl, hc⟩ := h
  have HC : Hid _ := hc
  have HS : Hid (∀ b, S b → b < w.heap.size) := hS
  have HN : Hid (NameSpec nameB) := hN
  have HOK : Hid (∀ x ∈ l, LayersOK 1048576 x) := hok
  have hlm' : (l.length : Int) ≤ 9223372036854775807 := by simp [maxLen] at hlm; omega
  clear hc hS hN hok hlm
  by_cases h20 : l.length ≤ 20
  · have h20' : ¬ ((20 : Int) < (l.length : Int)) := by omega
    go_enter Tryz.func11, Tryz.ntmps11
    go_wp2_with fail
    go_loopw [3] (fun i3 wr => ∃ (k : Nat), i3 = .int .i64 (k : Int) ∧ k ≤ l.length ∧ (∀ i (h : i < l.length), i < k → layerB nameB (l.take i) l[i] = true) ∧ Below w.heap.size w wr) (fun i3 _ => l.length - (intOf i3).toNat)
    case atStart => exact ⟨0, rfl, by omega, fun i _ h => by omega, Below.refl _ _⟩
    case round =>
      obtain ⟨k, rfl, hk, hall, hb⟩ := hrel
      have HA : Hid (∀ i (h : i < l.length), i < k → layerB nameB (l.take i) l[i] = true) := hall
      clear hall
      by_cases hkn : k < l.length
      · have hkn' : (k : Int) < (l.length : Int) := by omega
        obtain ⟨b, off, rfl, hbS, hcell⟩ := HC.out (by omega)
        have hbw := HS.out b hbS
        obtain ⟨c0, c1, nv, t1, t2⟩ := hcell k hkn
        have d0 := (hb.cell (p := ⟨b, off + k * 3, none⟩) hbw).trans c0
        have d1 := (hb.cell (p := ⟨b, off + k * 3 + 1, none⟩) hbw).trans c1
        have d2 := (hb.cell (p := ⟨b, off + k * 3 + 2, none⟩) hbw).trans t1
        have hbad := fun (h : layerB nameB (l.take k) l[k] = false) => layers_bad hkn h
        have hgood := fun (h : layerB nameB (l.take k) l[k] = true) (i : Nat) (hi : i < l.length) (hik : i < k + 1) => (show layerB nameB (l.take i) l[i] = true from by
          by_cases e : i = k
          · subst e; exact h
          · exact HA.out i hi (by omega))
        have hokx := HOK.out l[k] (List.getElem_mem hkn)
        have HCELL : Hid _ := hcell
        obtain ⟨x, hx⟩ : ∃ x, l[k] = x := ⟨_, rfl⟩
        rw [hx] at d0 d1 hbad hgood t2 hokx
        obtain ⟨xn, xr, es⟩ := x
        dsimp only at d0 d1 t2
        have HBAD : Hid (layerB nameB (l.take k) ⟨xn, xr, es⟩ = false → layersB nameB l = false) := hbad
        have HGOOD : Hid (layerB nameB (l.take k) ⟨xn, xr, es⟩ = true → ∀ (i : Nat) (hi : i < l.length), i < k + 1 → layerB nameB (l.take i) l[i] = true) := hgood
        have hesl : (es.length : Int) ≤ 1048576 := hokx.2.1
        have HOE : Hid (∀ y ∈ es, EntrysOK 1048576 y) := hokx.2.2
        obtain ⟨ea, ec, hnv⟩ := t2.shape
        subst hnv
        have HES : Hid (EntrysAt S w (.slice ea es.length ec) es) := t2
        have cn := HN.out xn
        obtain ⟨F, hF⟩ : ∃ F, nameB xn = F := ⟨_, rfl⟩
        rw [hF] at cn
        have HF : Hid (nameB xn = F) := hF
        clear hx hF hbad hgood hokx t1 t2 c0 c1 hcell
        have hbA : Blk (wr.alloc (.cells #[.string xn, .int .i64 xr, .slice ea es.length ec] 30)) wr.heap.size 30 #[.string xn, .int .i64 xr, .slice ea es.length ec] := heap_alloc_last wr _
        have HBA : Hid (Blk (wr.alloc (.cells #[.string xn, .int .i64 xr, .slice ea es.length ec] 30)) wr.heap.size 30 #[.string xn, .int .i64 xr, .slice ea es.length ec]) := hbA
        have hbw1 := hb.alloc hb.size (.cells #[.string xn, .int .i64 xr, .slice ea es.length ec] 30)
        clear hbA
        cases F
        · go_wp2_with (go_at_call 24; go_must (refine (cn _).mono ?_; rintro e w1 ⟨rfl, hb1⟩))
          go_ret
          refine ⟨?_, good_below hbw1 hb1⟩
          rw [HBAD.out (by unfold layerB; rw [HF.out]; rfl)]; rfl
        · by_cases h100 : es.length ≤ 100
          · have h100' : ¬ ((100 : Int) < (es.length : Int)) := by omega
            obtain ⟨g, hg⟩ : ∃ g, wr.heap.size = g := ⟨_, rfl⟩
            rw [hg] at HBA
            go_upto_region 9 with (go_at_call 24; go_must (refine (cn _).mono ?_; rintro e wA ⟨rfl, hb1⟩; have hbk := Blk.below HBA.out hb1; have e0 := hbk.cell 0; have e2 := hbk.cell 2; simp at e0 e2))
            have hbwA := good_below hbw1 hb1
            have HBK : Hid (Blk wA g 30 #[.string xn, .int .i64 xr, .slice ea es.length ec]) := hbk
            clear hbk hb1 hbw1 HBA cn hg e0 e2
            go_wp2_with fail
            go_loopw [5] (fun i5 wx => ∃ (j : Nat), i5 = .int .i64 (j : Int) ∧ j ≤ k ∧ (∀ i (h : i < l.length), i < j → (l[i].name.toList == xn.toList) = false) ∧ Below wA.heap.size wA wx) (fun i5 _ => k - (intOf i5).toNat)
            case atStart => exact ⟨0, rfl, by omega, fun i _ h => by omega, Below.refl _ _⟩
            case round =>
              obtain ⟨j, rfl, hj, hno, hB⟩ := hrel
              have HNO : Hid (∀ i (h : i < l.length), i < j → (l[i].name.toList == xn.toList) = false) := hno
              clear hno
              have hbk := Blk.below HBK.out hB
              have e0 := hbk.cell 0
              have e2 := hbk.cell 2
              simp at e0 e2
              have hbwx := good_below hbwA hB
              clear hbk
              by_cases hjk : j < k
              · have hjk' : (j : Int) < (k : Int) := by omega
                have hjl : j < l.length := by omega
                have hjl' : (j : Int) < (l.length : Int) := by omega
                obtain ⟨c0, _⟩ := HCELL.out j hjl
                have q0 := (hbwx.cell (p := ⟨b, off + j * 3, none⟩) hbw).trans c0
                obtain ⟨y, hy⟩ : ∃ y, l[j].name = y := ⟨_, rfl⟩
                rw [hy] at q0
                have HY : Hid (l[j].name = y) := hy
                clear hy c0
                cases hcmp : (y.toList == xn.toList)
                · go_upto_region 12 with fail
                  go_quiet (fail)
                  go_wp2_with fail
                  refine ⟨⟨j + 1, rfl, by omega, fun i hi hik => ?_, bel_drewN hB nq⟩, by simp [intOf]; omega⟩
                  by_cases e : i = j
                  · subst e; rw [HY.out]; exact hcmp
                  · exact HNO.out i hi (by omega)
                · go_upto_region 12 with fail
                  go_quiet (fail)
                  go_wp2_with fail
                  go_ret
                  refine ⟨?_, bel_drewN hbwx nq⟩
                  have hbd : layerB nameB (l.take k) ⟨xn, xr, es⟩ = false := by
                    unfold layerB
                    rw [take_any (f := fun q : Layer => q.name.toList == xn.toList) hjk hjl (by rw [HY.out]; exact hcmp)]
                    simp
                  rw [HBAD.out hbd]; rfl
              · obtain rfl : j = k := by omega
                have hjk' : ¬ ((j : Int) < (j : Int)) := by omega
                obtain ⟨wB, hwB⟩ : ∃ wB, wB = wr := ⟨_, rfl⟩
                subst hwB
                have HNA : Hid ((l.take j).any (fun q : Layer => q.name.toList == xn.toList) = false) := (show (l.take j).any (fun q : Layer => q.name.toList == xn.toList) = false from take_none (fun i hi hik => HNO.out i hi hik))
                have HBK2 : Hid (Blk wB g 30 #[.string xn, .int .i64 xr, .slice ea es.length ec]) := Blk.below HBK.out hB
                clear hB HNO hbwA HBK e0 e2
                go_wp2_with fail
                go_loopw [6] (fun i6 wx => ∃ (m : Nat), i6 = .int .i64 (m : Int) ∧ m ≤ es.length ∧ (∀ i (h : i < es.length), i < m → entryB nameB (es.take i) es[i] = true) ∧ Below wB.heap.size wB wx) (fun i6 _ => es.length - (intOf i6).toNat)
                case atStart => exact ⟨0, rfl, by omega, fun i _ h => by omega, Below.refl _ _⟩
                case round =>
                  obtain ⟨m, rfl, hm, hen, hB⟩ := hrel
                  have HEN : Hid (∀ i (h : i < es.length), i < m → entryB nameB (es.take i) es[i] = true) := hen
                  clear hen
                  have hbk := Blk.below HBK2.out hB
                  have e2 := hbk.cell 2
                  simp at e2
                  have hbwy := good_below hbwx hB
                  by_cases hmn : m < es.length
                  · have hmn' : (m : Int) < (es.length : Int) := by omega
                    obtain ⟨_, ea', ec', huv, huc⟩ := HES.out
                    simp only [Value.slice.injEq] at huv
                    obtain ⟨rfl, -, rfl⟩ := huv
                    obtain ⟨eb, eo, rfl, heS, hecell⟩ := huc (by omega)
                    have hew := HS.out eb heS
                    obtain ⟨p0, p1⟩ := hecell m hmn
                    have q0 := (hbwy.cell (p := ⟨eb, eo + m * 2, none⟩) hew).trans p0
                    have q1 := (hbwy.cell (p := ⟨eb, eo + m * 2 + 1, none⟩) hew).trans p1
                    have heo := HOE.out es[m] (List.getElem_mem hmn)
                    have hebad := fun (h : entryB nameB (es.take m) es[m] = false) => entries_bad hmn h
                    have hegood := fun (h : entryB nameB (es.take m) es[m] = true) (i : Nat) (hi : i < es.length) (hik : i < m + 1) => (show entryB nameB (es.take i) es[i] = true from by
                      by_cases e : i = m
                      · subst e; exact h
                      · exact HEN.out i hi (by omega))
                    have HEC : Hid _ := hecell
                    obtain ⟨y, hy⟩ : ∃ y, es[m] = y := ⟨_, rfl⟩
                    rw [hy] at q0 q1 heo hebad hegood
                    obtain ⟨yp, yt⟩ := y
                    unfold EntrysOK at heo
                    dsimp only at q0 q1 heo
                    have HEB : Hid (entryB nameB (es.take m) ⟨yp, yt⟩ = false → entriesB nameB es = false) := hebad
                    have HEG : Hid (entryB nameB (es.take m) ⟨yp, yt⟩ = true → ∀ (i : Nat) (hi : i < es.length), i < m + 1 → entryB nameB (es.take i) es[i] = true) := hegood
                    have hyp : (yp.size : Int) ≤ 1048576 := heo.1
                    have hyt : (yt.size : Int) ≤ 1048576 := heo.2
                    have cp := specPath HN.out yp (by simp [maxLen]; omega) wr
                    obtain ⟨G, hG⟩ : ∃ G, pathB nameB yp = G := ⟨_, rfl⟩
                    rw [hG] at cp
                    have HG : Hid (pathB nameB yp = G) := hG
                    have HYE : Hid (es[m] = ⟨yp, yt⟩) := hy
                    clear hy hG hebad hegood heo p0 p1 hecell huc
                    cases G
                    · go_wp2_with (go_at_call 25; go_must (refine cp.mono ?_; rintro e w1 ⟨rfl, hb1⟩))
                      go_ret
                      refine ⟨?_, good_below hbwy hb1⟩
                      have hbd : layerB nameB (l.take j) ⟨xn, xr, es⟩ = false := by
                        unfold layerB
                        rw [HEB.out (by unfold entryB; rw [HG.out]; rfl)]
                        simp
                      rw [HBAD.out hbd]; rfl
                    · by_cases h200 : yt.size ≤ 200
                      · have h200' : ¬ ((200 : Int) < (yt.size : Int)) := by omega
                        go_upto_region 19 with (go_at_call 25; go_must (refine cp.mono ?_; rintro e w1 ⟨rfl, hb1⟩; have hbk1 := Blk.below hbk hb1; have e2' := hbk1.cell 2; simp at e2'; have hbw1 := good_below hbwy hb1; have q0' := (hb1.cell (p := ⟨eb, eo + m * 2, none⟩) (Nat.lt_of_lt_of_le hew hbwy.size)).trans q0; have q1' := (hb1.cell (p := ⟨eb, eo + m * 2 + 1, none⟩) (Nat.lt_of_lt_of_le hew hbwy.size)).trans q1))
                        have hBm := good_below hB hb1
                        have HBK3 : Hid (Blk w1 g 30 #[.string xn, .int .i64 xr, .slice (some ⟨eb, eo, none⟩) es.length ec]) := hbk1
                        clear hbk hbk1 e2 e2' q0 q1 q0' q1' cp hb1
                        go_wp2_with fail
                        go_loopw [7] (fun i7 wx => ∃ (j2 : Nat), i7 = .int .i64 (j2 : Int) ∧ j2 ≤ m ∧ (∀ i (h : i < es.length), i < j2 → (es[i].path.toList == yp.toList) = false) ∧ Below w1.heap.size w1 wx) (fun i7 _ => m - (intOf i7).toNat)
                        case atStart => exact ⟨0, rfl, by omega, fun i _ h => by omega, Below.refl _ _⟩
                        case round =>
                          obtain ⟨j2, rfl, hj2, hno2, hB1⟩ := hrel
                          have HNO2 : Hid (∀ i (h : i < es.length), i < j2 → (es[i].path.toList == yp.toList) = false) := hno2
                          clear hno2
                          have hbk := Blk.below HBK3.out hB1
                          have e2 := hbk.cell 2
                          simp at e2
                          have hbwz := good_below hbw1 hB1
                          clear hbk
                          by_cases hjm : j2 < m
                          · have hjm' : (j2 : Int) < (m : Int) := by omega
                            have hje : j2 < es.length := by omega
                            have hje' : (j2 : Int) < (es.length : Int) := by omega
                            obtain ⟨p0, _⟩ := HEC.out j2 hje
                            obtain ⟨p2, _⟩ := HEC.out m hmn
                            have q0 := (hbwz.cell (p := ⟨eb, eo + j2 * 2, none⟩) hew).trans p0
                            have q2 := (hbwz.cell (p := ⟨eb, eo + m * 2, none⟩) hew).trans p2
                            rw [HYE.out] at q2
                            obtain ⟨z, hz⟩ : ∃ z, es[j2].path = z := ⟨_, rfl⟩
                            rw [hz] at q0
                            have HZ : Hid (es[j2].path = z) := hz
                            dsimp only at q2
                            clear hz p0 p2
                            cases hcmp : (z.toList == yp.toList)
                            · go_upto_region 22 with fail
                              go_quiet (fail)
                              go_wp2_with fail
                              refine ⟨⟨j2 + 1, rfl, by omega, fun i hi hik => ?_, bel_drewN hB1 nq⟩, by simp [intOf]; omega⟩
                              by_cases e : i = j2
                              · subst e; rw [HZ.out]; exact hcmp
                              · exact HNO2.out i hi (by omega)
                            · go_upto_region 22 with fail
                              go_quiet (fail)
                              go_wp2_with fail
                              go_ret
                              refine ⟨?_, bel_drewN hbwz nq⟩
                              have hbd : layerB nameB (l.take j) ⟨xn, xr, es⟩ = false := by
                                unfold layerB
                                rw [HEB.out]
                                · simp
                                · unfold entryB
                                  rw [take_any (f := fun q : Entry => q.path.toList == yp.toList) hjm hje (by rw [HZ.out]; exact hcmp)]
                                  simp
                              rw [HBAD.out hbd]; rfl
                          · obtain rfl : j2 = m := by omega
                            have hjm' : ¬ ((j2 : Int) < (j2 : Int)) := by omega
                            go_wp2_with fail
                            refine ⟨⟨j2 + 1, rfl, by omega, HEG.out ?_, good_below hBm hB1⟩, by simp [intOf]; omega⟩
                            unfold entryB
                            rw [HG.out, decide_eq_true h200, take_none (f := fun q : Entry => q.path.toList == yp.toList) (fun i hi hik => HNO2.out i hi hik)]
                            rfl
                      · have h200' : (200 : Int) < (yt.size : Int) := by omega
                        go_wp2_with (go_at_call 25; go_must (refine cp.mono ?_; rintro e w1 ⟨rfl, hb1⟩; have hbk1 := Blk.below hbk hb1; have e2' := hbk1.cell 2; simp at e2'; have q1' := (hb1.cell (p := ⟨eb, eo + m * 2 + 1, none⟩) (Nat.lt_of_lt_of_le hew hbwy.size)).trans q1))
                        go_ret
                        refine ⟨?_, good_below hbwy hb1⟩
                        have hbd : layerB nameB (l.take j) ⟨xn, xr, es⟩ = false := by
                          unfold layerB
                          rw [HEB.out (by unfold entryB; rw [decide_eq_false h200]; simp)]
                          simp
                        rw [HBAD.out hbd]; rfl
                  · obtain rfl : m = es.length := by omega
                    have hmn' : ¬ ((es.length : Int) < (es.length : Int)) := by omega
                    go_wp2_with fail
                    refine ⟨⟨j + 1, rfl, by omega, HGOOD.out ?_, hbwy⟩, by simp [intOf]; omega⟩
                    unfold layerB
                    rw [HF.out, decide_eq_true h100, HNA.out]
                    have : entriesB nameB es = true := by
                      unfold entriesB
                      exact range_all (f := entryB nameB) (fun i hi => HEN.out i hi hi)
                    rw [this]
                    rfl
          · have h100' : (100 : Int) < (es.length : Int) := by omega
            go_wp2_with (go_at_call 24; go_must (refine (cn _).mono ?_; rintro e w1 ⟨rfl, hb1⟩; have hbk := Blk.below HBA.out hb1; have e2 := hbk.cell 2; simp at e2))
            go_ret
            refine ⟨?_, good_below hbw1 hb1⟩
            rw [HBAD.out (by unfold layerB; rw [decide_eq_false h100]; simp)]; rfl
      · obtain rfl : k = l.length := by omega
        have hkn' : ¬ ((l.length : Int) < (l.length : Int)) := by omega
        go_wp2_with fail
        go_ret
        refine ⟨?_, hb⟩
        unfold layersB
        rw [decide_eq_true h20, range_all (f := layerB nameB) (fun i hi => HA.out i hi hi)]
        rfl
  · have h20' : (20 : Int) < (l.length : Int) := by omega
    go_enter Tryz.func11, Tryz.ntmps11
    go_wp2_with fail
    go_ret
    refine ⟨?_, Below.refl _ _⟩
    unfold layersB
    rw [decide_eq_false h20]
    rfl
end Go.Proofs.YtnlakebhkfbpfaaGreatDoor
