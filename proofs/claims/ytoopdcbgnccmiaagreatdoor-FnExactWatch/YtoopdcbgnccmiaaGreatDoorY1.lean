/-
  What spec's l08Text and Watch answer. No statement of the seat is proved here.
-/
import Derived.Test.YtoopdcbgnccmiaaGreatDoorQ3
import Derived.Test.YtoopdcbgnccmiaaGreatDoorH5
import Derived.Test.YtoopdcbgnccmiaaGreatDoorG7
namespace Go.Proofs.YtoopdcbgnccmiaaGreatDoor
open Go.ChangeShapes Go.WideShapes Go.ChangeAt Go.RowKit
set_option linter.unusedVariables false

theorem look_hit {l : List Setting} {p : ByteArray} {k : Nat} (hk : k < l.length) (h : ∀ i (hi : i < l.length), i < k → (l[i].path.toList == p.toList) = false) (h1 : (l[k].path.toList == p.toList) = true) : textOf l p = l[k].text := by
  unfold textOf lookS
  have : l.find? (fun s => s.path.toList == p.toList) = some l[k] := by
    rw [List.find?_eq_some_iff_getElem]
    exact ⟨h1, k, hk, rfl, fun j hj => by rw [h j (by omega) hj]; rfl⟩
  rw [this]
theorem look_miss {l : List Setting} {p : ByteArray} (h : ∀ i (hi : i < l.length), (l[i].path.toList == p.toList) = false) : textOf l p = ⟨#[]⟩ := by
  unfold textOf lookS
  have : l.find? (fun s => s.path.toList == p.toList) = none := by
    rw [List.find?_eq_none]
    intro s hs
    obtain ⟨i, hi, rfl⟩ := List.getElem_of_mem hs
    rw [h i hi]; simp
  rw [this]
set_option maxRecDepth 100000 in
set_option maxHeartbeats 1000000 in
theorem specText {S : Nat → Prop} {l : List Setting} {v : Value} {w : World} (hS : ∀ b, S b → b < w.heap.size) (h : SettingsAt S w v l) (p : ByteArray) :
    Calls Tryz.prog 62 #[v, .string p] w fun e w' => e = .returned (.string (textOf l p)) ∧ Below w.heap.size w w' := by
  obtain ⟨hlm, a, cap, rfl, hc⟩ := h
  have HC : Hid _ := hc
  have HS : Hid (∀ b, S b → b < w.heap.size) := hS
  have hlm' : (l.length : Int) ≤ 9223372036854775807 := by simp [maxLen] at hlm; omega
  clear hc hS hlm
  go_enter Tryz.func62, Tryz.ntmps62
  go_wp2_with fail
  go_loopw [5] (fun i5 wr => ∃ (k : Nat), i5 = .int .i64 (k : Int) ∧ k ≤ l.length ∧ (∀ i (h : i < l.length), i < k → (l[i].path.toList == p.toList) = false) ∧ Below w.heap.size w wr) (fun i5 _ => l.length - (intOf i5).toNat)
  case atStart => exact ⟨0, rfl, by omega, fun i _ h => by omega, Below.refl _ _⟩
  case round =>
    obtain ⟨k, rfl, hk, hno, hb⟩ := hrel
    have HN : Hid (∀ i (h : i < l.length), i < k → (l[i].path.toList == p.toList) = false) := hno
    clear hno
    by_cases hkn : k < l.length
    · have hkn' : (k : Int) < (l.length : Int) := by omega
      obtain ⟨b, off, rfl, hbS, hcell⟩ := HC.out (by omega)
      have hbw := HS.out b hbS
      obtain ⟨c0, c1, c2⟩ := hcell k hkn
      have d0 := (hb.cell (p := ⟨b, off + k * 3, none⟩) hbw).trans c0
      have d1 := (hb.cell (p := ⟨b, off + k * 3 + 1, none⟩) hbw).trans c1
      have hht := fun h1 => look_hit (p := p) hkn HN.out h1
      have hnn : (l[k].path.toList == p.toList) = false → ∀ i (h : i < l.length), i < k + 1 → (l[i].path.toList == p.toList) = false := fun h0 i hi hik => by
        by_cases e : i = k
        · subst e; exact h0
        · exact HN.out i hi (by omega)
      obtain ⟨x, hx⟩ : ∃ x, l[k] = x := ⟨_, rfl⟩
      rw [hx] at d0 d1 hht hnn
      obtain ⟨xp, xt, xf⟩ := x
      dsimp only at d0 d1 hht hnn
      have HHT : Hid ((xp.toList == p.toList) = true → textOf l p = xt) := hht
      have HNN : Hid ((xp.toList == p.toList) = false → ∀ i (h : i < l.length), i < k + 1 → (l[i].path.toList == p.toList) = false) := hnn
      clear hx hht hnn c0 c1 c2 hcell
      cases hq : (xp.toList == p.toList)
      · go_wp2_with fail
        exact ⟨⟨k + 1, rfl, by omega, HNN.out hq, hb⟩, by simp [intOf]; omega⟩
      · go_wp2_with fail
        go_ret
        exact ⟨by rw [HHT.out hq]; rfl, hb⟩
    · obtain rfl : k = l.length := by omega
      have hkn' : ¬ ((l.length : Int) < (l.length : Int)) := by omega
      go_wp2_with fail
      go_ret
      exact ⟨by rw [look_miss (fun i hi => HN.out i hi hi)]; rfl, hb⟩

theorem nameSpec : NameSpec nameOK := fun s w => specNameOK s w
/-- What spec's l08Merge makes of right layers. -/
theorem specMergeR {S : Nat → Prop} {l : List Layer} {v : Value} {w : World} (hS : ∀ b, S b → b < w.heap.size) (h : LayersAt S w v l) (hB : layersB nameOK l = true) :
    Calls Tryz.prog 46 #[v] w fun e w' => (∃ p, e = .returned p ∧ OwnSettings w.heap.size w' p (laidF (overP l))) ∧ Below w.heap.size w w' := by
  obtain ⟨f1, f2, f3⟩ := layers_fine hB
  obtain ⟨lv, hlv, hat, hen⟩ := layers_lv h
  have hone : LayVsOne lv := fun y hy => by
    obtain ⟨ya, yc, hq⟩ := (hen y hy).shape
    rw [hq]; rfl
  have hsm : ∀ y ∈ lv, LaySmall S w y := fun y hy => by
    have := f3 y.x (by rw [← hlv]; exact List.mem_map.2 ⟨y, hy, rfl⟩)
    exact ⟨hen y hy, this.1, this.2⟩
  have hl20 : lv.length ≤ 20 := by rw [← hlv, List.length_map] at f1; exact f1
  have cm := specMergeL hS hat hone hsm hl20
  have hpl := over_plain lv
  rw [hlv] at hpl
  rw [hpl] at cm
  exact cm
end Go.Proofs.YtoopdcbgnccmiaaGreatDoor
