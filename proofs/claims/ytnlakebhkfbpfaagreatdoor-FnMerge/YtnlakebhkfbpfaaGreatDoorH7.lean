/-
  What spec's Merge answers. No statement of the seat is proved here.
-/
import Derived.Test.YtnlakebhkfbpfaaGreatDoorH5
import Derived.Test.YtnlakebhkfbpfaaGreatDoorQ2
import Derived.Test.YtnlakebhkfbpfaaGreatDoorG6
namespace Go.Proofs.YtnlakebhkfbpfaaGreatDoor
open Go.ChangeShapes Go.WideShapes Go.ChangeAt Go.RowKit
set_option linter.unusedVariables false

theorem nameSpec : NameSpec nameOK := fun s w => specNameOK s w
set_option maxRecDepth 100000 in
set_option maxHeartbeats 4000000 in
theorem specMerge (T : World → Prop) : MergeC 5 T mergeF := by
  intro S l v w hS h hll hok hT
  obtain ⟨a, cap, hv⟩ := h.shape
  have hll' : (l.length : Int) ≤ 1048576 := by omega
  unfold mergeF
  by_cases h4 : 4096 < l.length
  · have h4' : (4096 : Int) < (l.length : Int) := by omega
    rw [if_pos h4]
    subst hv
    clear hT hok h hS
    have HE : Hid (OwnSettings w.heap.size (w.alloc (.cells #[] 32)) (.slice (some ⟨w.heap.size, 0, none⟩) 0 0) []) := OwnSettings.empty w.heap.size w (Nat.le_refl _)
    go_enter Tryz.func5, Tryz.ntmps5
    go_wp2_with fail
    go_ret2
    exact ⟨⟨_, rfl, HE.out⟩, (Below.refl _ w).alloc (Nat.le_refl _) _⟩
  · have h4' : ¬ ((4096 : Int) < (l.length : Int)) := by omega
    rw [if_neg h4]
    have cl := specLayers nameSpec hS h hok
    cases hB : layersB nameOK l
    · rw [hB] at cl
      rw [if_neg (by simp)]
      subst hv
      clear hT hok h hS hB
      go_enter Tryz.func5, Tryz.ntmps5
      go_wp2_with (go_at_call 11; go_must (refine cl.mono ?_; rintro e w2 ⟨rfl, hb2⟩; have HE : Hid (OwnSettings w2.heap.size (w2.alloc (.cells #[] 32)) (.slice (some ⟨w2.heap.size, 0, none⟩) 0 0) []) := OwnSettings.empty w2.heap.size w2 (Nat.le_refl _)))
      go_ret2
      exact ⟨⟨_, rfl, OwnSettings.mono HE.out hb2.size⟩, hb2.alloc hb2.size _⟩
    · rw [hB] at cl
      rw [if_pos rfl]
      obtain ⟨f1, f2, f3⟩ := layers_fine hB
      obtain ⟨lv, hlv, hat, hen⟩ := layers_lv h
      have hone : LayVsOne lv := fun y hy => by
        obtain ⟨ya, yc, hq⟩ := (hen y hy).shape
        rw [hq]; rfl
      have hsm : ∀ y ∈ lv, LaySmall S w y := fun y hy => by
        have := f3 y.x (by rw [← hlv]; exact List.mem_map.2 ⟨y, hy, rfl⟩)
        exact ⟨hen y hy, this.1, this.2⟩
      have hl20 : lv.length ≤ 20 := by rw [← hlv, List.length_map] at f1; exact f1
      have cm := fun W (hW : Below w.heap.size w W) => specMergeL (w := W) (fun b hb => Nat.lt_of_lt_of_le (hS b hb) hW.size) (hat.keep (cells_below hS hW)) hone (fun y hy => ⟨(hsm y hy).1.keep (cells_below hS hW), (hsm y hy).2⟩) hl20
      have hpl := over_plain lv
      rw [hlv] at hpl
      rw [hpl] at cm
      obtain ⟨O, hO⟩ : ∃ O, laidF (overP l) = O := ⟨_, rfl⟩
      rw [hO] at cm ⊢
      subst hv
      clear hT hok h hS hB f1 f2 f3 hat hen hone hsm hl20 hpl hO hlv
      go_enter Tryz.func5, Tryz.ntmps5
      go_wp2_with (first
        | (go_at_call 11; go_must (refine cl.mono ?_; rintro e w2 ⟨rfl, hb2⟩))
        | (go_at_call 12; go_must (refine (cm _ hb2).mono ?_; rintro e w3 ⟨⟨p, rfl, hop⟩, hb3⟩)))
      go_ret2
      exact ⟨⟨_, rfl, OwnSettings.mono hop hb2.size⟩, good_below hb2 hb3⟩
end Go.Proofs.YtnlakebhkfbpfaaGreatDoor
