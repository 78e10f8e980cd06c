/-
  Layers and the slices of their entries; what a Merge answers, plainly. No statement of the seat is proved here.
-/
import Derived.Test.YtnlakebhkfbpfaaGreatDoorI3
import Derived.Test.YtnlakebhkfbpfaaGreatDoorI8
namespace Go.Proofs.YtnlakebhkfbpfaaGreatDoor
open Go.ChangeShapes Go.WideShapes Go.ChangeAt Go.RowKit
set_option linter.unusedVariables false

def bare (y : LayV) : LayV := ⟨y.x, .nilFunc⟩
theorem lessL_bare (x y : LayV) : lessL (bare x) (bare y) = lessL x y := rfl
theorem posUp_bare (out : List LayV) (y : LayV) : ∀ k, posUp (out.map bare) (bare y) k = posUp out y k
  | 0 => rfl
  | k + 1 => by
    unfold posUp
    rw [List.getElem?_map]
    cases out[k]? with
    | none => rfl
    | some z => simp only [Option.map_some, lessL_bare, posUp_bare out y k]
theorem overStep_bare (out : List LayV) (y : LayV) : overStep (out.map bare) (bare y) = (overStep out y).map bare := by
  unfold overStep posN
  rw [List.length_map, posUp_bare, List.map_append, List.map_append, List.map_take, List.map_drop]
  rfl
theorem overFold_bare : ∀ (lv out : List LayV), (lv.map bare).foldl overStep (out.map bare) = (lv.foldl overStep out).map bare
  | [], out => rfl
  | y :: lv, out => by rw [List.map_cons, List.foldl_cons, List.foldl_cons, overStep_bare, overFold_bare lv]
/-- Layers in the order in which they are laid over one another. -/
def overP (l : List Layer) : List Layer := (overF (l.map fun x => ⟨x, .nilFunc⟩)).map (·.x)
theorem over_plain (lv : List LayV) : (overF lv).map (·.x) = overP (lv.map (·.x)) := by
  unfold overP
  have e : (lv.map (·.x)).map (fun x => (⟨x, .nilFunc⟩ : LayV)) = lv.map bare := by rw [List.map_map]; rfl
  rw [e]
  have h : overF (lv.map bare) = (overF lv).map bare := overFold_bare lv []
  rw [h, List.map_map]
  rfl
/-- The layers that lie there, each with the slice of its entries. -/
theorem layers_lv {S : Nat → Prop} {w : World} {v : Value} {l : List Layer} (h : LayersAt S w v l) : ∃ lv : List LayV, lv.map (·.x) = l ∧ LayVsAt S w v lv ∧ ∀ y ∈ lv, EntrysAt S w y.nv y.x.entries := by
  obtain ⟨hl, a, cap, hv, hc⟩ := h
  by_cases h0 : 0 < l.length
  · obtain ⟨b, off, rfl, hS, hcell⟩ := hc h0
    have hlv : ((l.mapIdx fun i x => (⟨x, (w.cell? ⟨b, off + i * 3 + 2, none⟩).getD .nilFunc⟩ : LayV)).map (·.x)) = l := by
      apply List.ext_getElem
      · simp
      · intro i h1 h2; simp
    refine ⟨l.mapIdx fun i x => ⟨x, (w.cell? ⟨b, off + i * 3 + 2, none⟩).getD .nilFunc⟩, hlv, ⟨by simpa using hl, _, cap, by simpa using hv, fun _ => ⟨b, off, rfl, hS, fun i hi => ?_⟩⟩, fun y hy => ?_⟩
    · have hi' : i < l.length := by simpa using hi
      obtain ⟨c0, c1, nv, t1, t2⟩ := hcell i hi'
      simp only [List.getElem_mapIdx]
      exact ⟨c0, c1, by rw [t1]; rfl⟩
    · obtain ⟨i, hi, rfl⟩ := List.getElem_of_mem hy
      have hi' : i < l.length := by simpa using hi
      obtain ⟨c0, c1, nv, t1, t2⟩ := hcell i hi'
      simp only [List.getElem_mapIdx, t1, Option.getD_some]
      exact t2
  · have hl0 : l = [] := List.length_eq_zero_iff.1 (by omega)
    subst hl0
    exact ⟨[], rfl, ⟨by simp, a, cap, hv, fun h => absurd h (by simp)⟩, fun y hy => by cases hy⟩
theorem dup_apart {l : List ByteArray} (h : dupFrom l [] = false) : l.Pairwise fun x y => x ≠ y := by
  rw [List.pairwise_iff_getElem]
  intro i j hi hj hij e
  have : dupFrom l [] = true := (dup_iff l []).2 ⟨j, hj, by
    unfold hasB
    rw [List.any_eq_true]
    exact ⟨l[i], by rw [List.nil_append, List.mem_take_iff_getElem]; exact ⟨i, by omega, rfl⟩, by rw [e]; simp⟩⟩
  rw [h] at this
  cases this
theorem layers_fine {l : List Layer} (h : layersB nameOK l = true) : l.length ≤ 20 ∧ (l.map Layer.name).Pairwise (fun x y => x ≠ y) ∧ ∀ x ∈ l, x.entries.length ≤ 100 ∧ ∀ e ∈ x.entries, e.path.size ≤ 205 := by
  have h20 : l.length ≤ 20 := by
    unfold layersB at h
    simp only [Bool.and_eq_true, decide_eq_true_eq] at h
    exact h.1
  rw [layers_split nameOK l h20] at h
  simp only [Bool.and_eq_true, Bool.not_eq_true'] at h
  refine ⟨h20, dup_apart h.2.2, fun x hx => ?_⟩
  have hx2 := List.all_eq_true.1 h.1 x hx
  simp only [Bool.and_eq_true, decide_eq_true_eq] at hx2
  refine ⟨hx2.1, fun e he => ?_⟩
  have he2 := hx2.2
  rw [entries_split] at he2
  simp only [Bool.and_eq_true] at he2
  have hp := List.all_eq_true.1 he2.2.1 e.path (List.mem_map.2 ⟨e, he, rfl⟩)
  unfold pathB at hp
  simp only [Bool.and_eq_true, decide_eq_true_eq] at hp
  exact hp.1.1
/-- What a Merge answers. -/
def mergeF (l : List Layer) : List Setting × Int := if 4096 < l.length then ([], 2) else if layersB nameOK l then (laidF (overP l), 0) else ([], 1)
theorem laySteps_len (nm : ByteArray) : ∀ (es : List Entry) (out : List Setting), (es.foldl (layStep nm) out).length ≤ out.length + es.length
  | [], out => by simp
  | e :: es, out => by
    have h1 := laySteps_len nm es (layStep nm out e)
    have h2 := layStep_len (nm := nm) (out := out) (e := e)
    rw [List.foldl_cons, List.length_cons]
    omega
theorem laidFold_len : ∀ (l : List Layer) (out : List Setting), (∀ x ∈ l, x.entries.length ≤ 100) → (l.foldl layLayer out).length ≤ out.length + l.length * 100
  | [], out, _ => by simp
  | x :: l, out, h => by
    have h1 := laidFold_len l (layLayer out x) (fun y hy => h y (List.mem_cons_of_mem _ hy))
    have h2 := laySteps_len x.name x.entries out
    have h3 := h x (List.mem_cons_self ..)
    rw [List.foldl_cons, List.length_cons]
    unfold layLayer at h1
    unfold layLayer
    omega
theorem overP_mem {l : List Layer} {x : Layer} (h : x ∈ overP l) : x ∈ l := by
  unfold overP at h
  obtain ⟨y, hy, rfl⟩ := List.mem_map.1 h
  obtain ⟨z, hz, rfl⟩ := List.mem_map.1 (over_mem hy)
  exact hz
theorem overP_len (l : List Layer) : (overP l).length = l.length := by
  unfold overP
  rw [List.length_map, over_len, List.length_map]
theorem laid_len {l : List Layer} (h : layersB nameOK l = true) : (laidF (overP l)).length ≤ 2000 := by
  obtain ⟨h1, _, h3⟩ := layers_fine h
  have := laidFold_len (overP l) [] (fun x hx => (h3 x (overP_mem hx)).1)
  unfold laidF
  rw [overP_len] at this
  simp at this
  omega
theorem merge_len (l : List Layer) : (mergeF l).1.length ≤ 1000000 := by
  unfold mergeF
  split
  · simp
  · split
    · have := laid_len (by assumption); simp only; omega
    · simp
end Go.Proofs.YtnlakebhkfbpfaaGreatDoor
