/-
  Layers and the slices of their entries; what a Merge answers, plainly. Settings in order: impl's inOrder's comparison. Rows of impl's own settings: many appended. Settings in order: slices.SortFunc over them, impl's inOrder. spec.l00Has, spec.l00Sort: texts sorted, each once; rows of texts that rise. What a Watch answers, plainly; two rows of settings as one. No statement of the seat is proved here.
-/
import Derived.Test.YtoopdcbgnccmiaaGreatDoorVj7
import Derived.OwnWalk
namespace Go.Proofs.YtoopdcbgnccmiaaGreatDoor
open Go.ChangeShapes Go.WideShapes Go.ChangeAt Go.RowKit
set_option linter.unusedVariables false

def bare (y : LayV) : LayV := ⟨y.x, .nilFunc⟩
theorem lessL_bare (x y : LayV) : lessL (bare x) (bare y) = lessL x y := rfl
theorem posUp_bare (out : List LayV) (y : LayV) : ∀ k, posUp (out.map bare) (bare y) k = posUp out y k
  | 0 => rfl
  | k + 1 => by
    unfold posUp
    rw [List.getElem?_map]
    cases out[k]? with
    | none => rfl
    | some z => simp only [Option.map_some, lessL_bare, posUp_bare out y k]
theorem overStep_bare (out : List LayV) (y : LayV) : overStep (out.map bare) (bare y) = (overStep out y).map bare := by
  unfold overStep posN
  rw [List.length_map, posUp_bare, List.map_append, List.map_append, List.map_take, List.map_drop]
  rfl
theorem overFold_bare : ∀ (lv out : List LayV), (lv.map bare).foldl overStep (out.map bare) = (lv.foldl overStep out).map bare
  | [], out => rfl
  | y :: lv, out => by rw [List.map_cons, List.foldl_cons, List.foldl_cons, overStep_bare, overFold_bare lv]
/-- Layers in the order in which they are laid over one another. -/
def overP (l : List Layer) : List Layer := (overF (l.map fun x => ⟨x, .nilFunc⟩)).map (·.x)
theorem over_plain (lv : List LayV) : (overF lv).map (·.x) = overP (lv.map (·.x)) := by
  unfold overP
  have e : (lv.map (·.x)).map (fun x => (⟨x, .nilFunc⟩ : LayV)) = lv.map bare := by rw [List.map_map]; rfl
  rw [e]
  have h : overF (lv.map bare) = (overF lv).map bare := overFold_bare lv []
  rw [h, List.map_map]
  rfl
/-- The layers that lie there, each with the slice of its entries. -/
theorem layers_lv {S : Nat → Prop} {w : World} {v : Value} {l : List Layer} (h : LayersAt S w v l) : ∃ lv : List LayV, lv.map (·.x) = l ∧ LayVsAt S w v lv ∧ ∀ y ∈ lv, EntrysAt S w y.nv y.x.entries := by
  obtain ⟨hl, a, cap, hv, hc⟩ := h
  by_cases h0 : 0 < l.length
  · obtain ⟨b, off, rfl, hS, hcell⟩ := hc h0
    have hlv : ((l.mapIdx fun i x => (⟨x, (w.cell? ⟨b, off + i * 3 + 2, none⟩).getD .nilFunc⟩ : LayV)).map (·.x)) = l := by
      apply List.ext_getElem
      · simp
      · intro i h1 h2; simp
    refine ⟨l.mapIdx fun i x => ⟨x, (w.cell? ⟨b, off + i * 3 + 2, none⟩).getD .nilFunc⟩, hlv, ⟨by simpa using hl, _, cap, by simpa using hv, fun _ => ⟨b, off, rfl, hS, fun i hi => ?_⟩⟩, fun y hy => ?_⟩
    · have hi' : i < l.length := by simpa using hi
      obtain ⟨c0, c1, nv, t1, t2⟩ := hcell i hi'
      simp only [List.getElem_mapIdx]
      exact ⟨c0, c1, by rw [t1]; rfl⟩
    · obtain ⟨i, hi, rfl⟩ := List.getElem_of_mem hy
      have hi' : i < l.length := by simpa using hi
      obtain ⟨c0, c1, nv, t1, t2⟩ := hcell i hi'
      simp only [List.getElem_mapIdx, t1, Option.getD_some]
      exact t2
  · have hl0 : l = [] := List.length_eq_zero_iff.1 (by omega)
    subst hl0
    exact ⟨[], rfl, ⟨by simp, a, cap, hv, fun h => absurd h (by simp)⟩, fun y hy => by cases hy⟩
theorem dup_apart {l : List ByteArray} (h : dupFrom l [] = false) : l.Pairwise fun x y => x ≠ y := by
  rw [List.pairwise_iff_getElem]
  intro i j hi hj hij e
  have : dupFrom l [] = true := (dup_iff l []).2 ⟨j, hj, by
    unfold hasB
    rw [List.any_eq_true]
    exact ⟨l[i], by rw [List.nil_append, List.mem_take_iff_getElem]; exact ⟨i, by omega, rfl⟩, by rw [e]; simp⟩⟩
  rw [h] at this
  cases this
theorem layers_fine {l : List Layer} (h : layersB nameOK l = true) : l.length ≤ 20 ∧ (l.map Layer.name).Pairwise (fun x y => x ≠ y) ∧ ∀ x ∈ l, x.entries.length ≤ 100 ∧ ∀ e ∈ x.entries, e.path.size ≤ 205 := by
  have h20 : l.length ≤ 20 := by
    unfold layersB at h
    simp only [Bool.and_eq_true, decide_eq_true_eq] at h
    exact h.1
  rw [layers_split nameOK l h20] at h
  simp only [Bool.and_eq_true, Bool.not_eq_true'] at h
  refine ⟨h20, dup_apart h.2.2, fun x hx => ?_⟩
  have hx2 := List.all_eq_true.1 h.1 x hx
  simp only [Bool.and_eq_true, decide_eq_true_eq] at hx2
  refine ⟨hx2.1, fun e he => ?_⟩
  have he2 := hx2.2
  rw [entries_split] at he2
  simp only [Bool.and_eq_true] at he2
  have hp := List.all_eq_true.1 he2.2.1 e.path (List.mem_map.2 ⟨e, he, rfl⟩)
  unfold pathB at hp
  simp only [Bool.and_eq_true, decide_eq_true_eq] at hp
  exact hp.1.1
/-- What a Merge answers. -/
def mergeF (l : List Layer) : List Setting × Int := if 4096 < l.length then ([], 2) else if layersB nameOK l then (laidF (overP l), 0) else ([], 1)
theorem laySteps_len (nm : ByteArray) : ∀ (es : List Entry) (out : List Setting), (es.foldl (layStep nm) out).length ≤ out.length + es.length
  | [], out => by simp
  | e :: es, out => by
    have h1 := laySteps_len nm es (layStep nm out e)
    have h2 := layStep_len (nm := nm) (out := out) (e := e)
    rw [List.foldl_cons, List.length_cons]
    omega
theorem laidFold_len : ∀ (l : List Layer) (out : List Setting), (∀ x ∈ l, x.entries.length ≤ 100) → (l.foldl layLayer out).length ≤ out.length + l.length * 100
  | [], out, _ => by simp
  | x :: l, out, h => by
    have h1 := laidFold_len l (layLayer out x) (fun y hy => h y (List.mem_cons_of_mem _ hy))
    have h2 := laySteps_len x.name x.entries out
    have h3 := h x (List.mem_cons_self ..)
    rw [List.foldl_cons, List.length_cons]
    unfold layLayer at h1
    unfold layLayer
    omega
theorem overP_mem {l : List Layer} {x : Layer} (h : x ∈ overP l) : x ∈ l := by
  unfold overP at h
  obtain ⟨y, hy, rfl⟩ := List.mem_map.1 h
  obtain ⟨z, hz, rfl⟩ := List.mem_map.1 (over_mem hy)
  exact hz
theorem overP_len (l : List Layer) : (overP l).length = l.length := by
  unfold overP
  rw [List.length_map, over_len, List.length_map]
theorem laid_len {l : List Layer} (h : layersB nameOK l = true) : (laidF (overP l)).length ≤ 2000 := by
  obtain ⟨h1, _, h3⟩ := layers_fine h
  have := laidFold_len (overP l) [] (fun x hx => (h3 x (overP_mem hx)).1)
  unfold laidF
  rw [overP_len] at this
  simp at this
  omega
theorem merge_len (l : List Layer) : (mergeF l).1.length ≤ 1000000 := by
  unfold mergeF
  split
  · simp
  · split
    · have := laid_len (by assumption); simp only; omega
    · simp
end Go.Proofs.YtoopdcbgnccmiaaGreatDoor

namespace Go.Proofs.YtoopdcbgnccmiaaGreatDoor
open Go.ChangeShapes Go.WideShapes Go.ChangeAt Go.RowKit Go.Maps
open Go.Sort (grow putRow putCells mapBlock onCells heap_grow_old ahead HoldsK flatK get_flatK size_flatK putRowK PermIn SortedIn SWO)
set_option linter.unusedVariables false

set_option maxRecDepth 100000 in
theorem implAt (p : ByteArray) (w : World) : Calls Tryz.prog 258 #[.agg #[.string p]] w fun e w' => e = .returned (.string p) ∧ w' = w.alloc (.cells #[.string p] 103) := by
  go_enter Tryz.func258, Tryz.ntmps258
  go_wp2_with fail
  go_ret
  exact ⟨rfl, rfl⟩
theorem atOf (p t f : ByteArray) (w : World) : (method 380 105 (.agg #[.string p, .string t, .string f]) "loop.example/g00045/impl.at").run Tryz.prog w = .ok (258, .agg #[.string p]) w := by kernel_rfl
set_option maxRecDepth 100000 in
set_option maxHeartbeats 4000000 in
theorem implCmpSt (xp xt xf yp yt yf : ByteArray) (W : World) :
    Calls Tryz.prog 106 #[.agg #[.string xp, .string xt, .string xf], .agg #[.string yp, .string yt, .string yf]] W fun e w' => e = .returned (.int .i64 (Lib.compareBytes xp.data.toList yp.data.toList)) ∧ Grew W w' := by
  have hm := atOf
  obtain ⟨R, hR⟩ : ∃ R, Lib.compareBytes xp.data.toList yp.data.toList = R := ⟨_, rfl⟩
  have cc := fun w => Tryz.strings_Compare xp yp w
  rw [hR] at cc ⊢
  clear hR
  have hbA : Below W.heap.size W ((W.alloc (.cells #[.string xp, .string xt, .string xf] 105)).alloc (.cells #[.string yp, .string yt, .string yf] 105)) := ((Below.refl _ W).alloc (Nat.le_refl _) _).alloc (by simp) _
  have b1 : Blk ((W.alloc (.cells #[.string xp, .string xt, .string xf] 105)).alloc (.cells #[.string yp, .string yt, .string yf] 105)) W.heap.size 105 #[.string xp, .string xt, .string xf] := Blk.below (show Blk (W.alloc (.cells #[.string xp, .string xt, .string xf] 105)) W.heap.size 105 #[.string xp, .string xt, .string xf] from heap_alloc_last W _) ((Below.refl _ _).alloc (Nat.le_refl _) _)
  have b2 : Blk ((W.alloc (.cells #[.string xp, .string xt, .string xf] 105)).alloc (.cells #[.string yp, .string yt, .string yf] 105)) (W.heap.size + 1) 105 #[.string yp, .string yt, .string yf] := by
    have := heap_alloc_last (W.alloc (.cells #[.string xp, .string xt, .string xf] 105)) (.cells #[.string yp, .string yt, .string yf] 105)
    rwa [World.size_alloc] at this
  have kp : ∀ w', Grew ((W.alloc (.cells #[.string xp, .string xt, .string xf] 105)).alloc (.cells #[.string yp, .string yt, .string yf] 105)) w' → w'.cell? ⟨W.heap.size, 0, none⟩ = some (.string xp) ∧ w'.cell? ⟨W.heap.size, 1, none⟩ = some (.string xt) ∧ w'.cell? ⟨W.heap.size, 2, none⟩ = some (.string xf) ∧ w'.cell? ⟨W.heap.size + 1, 0, none⟩ = some (.string yp) ∧ w'.cell? ⟨W.heap.size + 1, 1, none⟩ = some (.string yt) ∧ w'.cell? ⟨W.heap.size + 1, 2, none⟩ = some (.string yf) := fun w' hg => by
    have hB := hg.below
    have d1 := b1.below hB
    have d2 := b2.below hB
    exact ⟨d1.cell 0, d1.cell 1, d1.cell 2, d2.cell 0, d2.cell 1, d2.cell 2⟩
  have KP : Hid _ := kp
  have HG0 : Grew W ((W.alloc (.cells #[.string xp, .string xt, .string xf] 105)).alloc (.cells #[.string yp, .string yt, .string yf] 105)) := ((Grew.refl W).alloc _).alloc _
  clear kp b1 b2 hbA
  go_enter Tryz.func106, Tryz.ntmps106
  go_wp2_with fail
  go_region_held3 (fun w' => w'.cell? ⟨W.heap.size, 0, none⟩ = some (.string xp) ∧ w'.cell? ⟨W.heap.size, 1, none⟩ = some (.string xt) ∧ w'.cell? ⟨W.heap.size, 2, none⟩ = some (.string xf) ∧ w'.cell? ⟨W.heap.size + 1, 0, none⟩ = some (.string yp) ∧ w'.cell? ⟨W.heap.size + 1, 1, none⟩ = some (.string yt) ∧ w'.cell? ⟨W.heap.size + 1, 2, none⟩ = some (.string yf)) (first | (refine KP.out _ ?_; repeat (first | exact Grew.refl _ | apply Grew.alloc | apply Grew.drew))) (first
    | (go_at_call 258; refine (implAt _ _).mono ?_; rintro e w' ⟨rfl, rfl⟩)
    | (go_at_call 107; refine (cc _).mono ?_; rintro e w' ⟨rfl, rfl⟩))
  all_goals go_wp2_with fail
  all_goals go_ret
  all_goals refine ⟨rfl, HG0.trans ?_⟩
  all_goals repeat (first | exact Grew.refl _ | apply Grew.alloc | apply Grew.drew)
end Go.Proofs.YtoopdcbgnccmiaaGreatDoor

namespace Go.Proofs.YtoopdcbgnccmiaaGreatDoor
open Go.ChangeShapes Go.WideShapes Go.ChangeAt Go.RowKit
set_option linter.unusedVariables false
set_option linter.unusedSimpArgs false

/-- The slice v reads in w, out of blocks of S, as these. -/
def StgsAt (S : Nat → Prop) (w : World) (v : Value) (l : List Setting) : Prop := l.length ≤ maxLen ∧ ∃ a cap, v = .slice a l.length cap ∧ (0 < l.length → ∃ b off, a = some ⟨b, off, none⟩ ∧ S b ∧
  ∀ i (h : i < l.length), w.cell? ⟨b, off + i * 3, none⟩ = some (.string l[i].path) ∧ w.cell? ⟨b, off + i * 3 + 1, none⟩ = some (.string l[i].text) ∧ w.cell? ⟨b, off + i * 3 + 2, none⟩ = some (.string l[i].from'))
theorem StgsAt.keep {S : Nat → Prop} {w w' : World} {v : Value} {l : List Setting} (h : StgsAt S w v l) (hk : ∀ b i, S b → w'.cell? ⟨b, i, none⟩ = w.cell? ⟨b, i, none⟩) : StgsAt S w' v l := by
  obtain ⟨hl, a, cap, hv, h⟩ := h
  refine ⟨hl, a, cap, hv, fun h0 => ?_⟩
  obtain ⟨b, off, ha, hbB, hc⟩ := h h0
  refine ⟨b, off, ha, hbB, fun i hi => ?_⟩
  obtain ⟨c0, c1, c2⟩ := hc i hi
  exact ⟨(hk _ _ hbB).trans c0, (hk _ _ hbB).trans c1, (hk _ _ hbB).trans c2⟩
theorem StgsAt.mono {S S' : Nat → Prop} {w : World} {v : Value} {l : List Setting} (h : StgsAt S w v l) (hS : ∀ b, S b → S' b) : StgsAt S' w v l := by
  obtain ⟨hl, a, cap, hv, h⟩ := h
  refine ⟨hl, a, cap, hv, fun h0 => ?_⟩
  obtain ⟨b, off, ha, hbB, hc⟩ := h h0
  refine ⟨b, off, ha, hS b hbB, fun i hi => ?_⟩
  obtain ⟨c0, c1, c2⟩ := hc i hi
  exact ⟨c0, c1, c2⟩
theorem StgsAt.shape {S : Nat → Prop} {w : World} {v : Value} {l : List Setting} (h : StgsAt S w v l) : ∃ a c, v = .slice a l.length c := by
  obtain ⟨_, a, c, hv, _⟩ := h
  exact ⟨a, c, hv⟩
def StgsCells (x : Setting) : List Value := [.string x.path, .string x.text, .string x.from']
def StgsRow (l : List Setting) : List Value := l.flatMap StgsCells
theorem StgsRow_length (l : List Setting) : (StgsRow l).length = l.length * 3 := by
  induction l with
  | nil => rfl
  | cons a t ih => simp only [StgsRow, List.flatMap_cons, List.length_append, List.length_cons] at ih ⊢; rw [ih]; simp [StgsCells] <;> omega
theorem StgsRow_append (l k : List Setting) : StgsRow (l ++ k) = StgsRow l ++ StgsRow k := by simp [StgsRow]
theorem StgsRow_one {l : List Setting} {u : Value} (hu : u ∈ StgsRow l) : u.oneCell' = true := by
  obtain ⟨x, _, hx⟩ := List.mem_flatMap.1 hu
  simp only [StgsCells, List.mem_cons, List.mem_nil_iff, or_false] at hx
  rcases hx with rfl | rfl | rfl <;> rfl
theorem StgsRow_at (l : List Setting) (k : Nat) (hk : k < l.length) : (StgsRow l)[k * 3]? = some (.string l[k].path) ∧ (StgsRow l)[k * 3 + 1]? = some (.string l[k].text) ∧ (StgsRow l)[k * 3 + 2]? = some (.string l[k].from') := by
  induction l generalizing k with
  | nil => simp at hk
  | cons a t ih =>
    have hc : StgsRow (a :: t) = StgsCells a ++ StgsRow t := by simp [StgsRow]
    rw [hc]
    cases k with
    | zero => simp [StgsCells]
    | succ k =>
      rw [List.getElem?_append_right (by simp [StgsCells] <;> omega), List.getElem?_append_right (by simp [StgsCells] <;> omega), List.getElem?_append_right (by simp [StgsCells] <;> omega)]
      have e0 : (k + 1) * 3 - (StgsCells a).length = k * 3 := by simp [StgsCells] <;> omega
      have e1 : (k + 1) * 3 + 1 - (StgsCells a).length = k * 3 + 1 := by simp [StgsCells] <;> omega
      have e2 : (k + 1) * 3 + 2 - (StgsCells a).length = k * 3 + 2 := by simp [StgsCells] <;> omega
      rw [e0, e1, e2]
      simpa using ih k (by simpa using hk)
/-- A row of one's own. -/
def OwnStgs (B : Nat) (w : World) (v : Value) (l : List Setting) : Prop := w.ownsRow B 105 3 v l.length (StgsRow l)
theorem OwnStgs.below {B : Nat} {w w' : World} {v : Value} {l : List Setting} (h : OwnStgs B w v l) (hb : Below w.heap.size w w') : OwnStgs B w' v l := by
  obtain ⟨hl, h⟩ := h
  refine ⟨hl, ?_⟩
  rcases h with h | ⟨g, cap, cur, hv, hB, hg, h1, h2, h3, h4⟩
  · exact .inl h
  · refine .inr ⟨g, cap, cur, hv, hB, ?_, h1, h2, h3, h4⟩
    rw [hb.block g (Array.getElem?_eq_some_iff.1 hg).1]; exact hg
theorem OwnStgs.mono {B B' : Nat} {w : World} {v : Value} {l : List Setting} (h : OwnStgs B w v l) (hB : B' ≤ B) : OwnStgs B' w v l := by
  obtain ⟨hl, h⟩ := h
  refine ⟨hl, ?_⟩
  rcases h with h | ⟨g, cap, cur, hv, hg, h1⟩
  · exact .inl h
  · exact .inr ⟨g, cap, cur, hv, Nat.le_trans hB hg, h1⟩
theorem OwnStgs.value {B : Nat} {w : World} {v : Value} {l : List Setting} (h : OwnStgs B w v l) :
    ∃ a cap, v = .slice a l.length cap ∧ l.length ≤ maxLen ∧ (0 < l.length → ∃ g, a = some ⟨g, 0, none⟩ ∧ B ≤ g ∧ g < w.heap.size ∧ ∀ j (hj : j < l.length), w.cell? ⟨g, j * 3, none⟩ = some (.string l[j].path) ∧ w.cell? ⟨g, j * 3 + 1, none⟩ = some (.string l[j].text) ∧ w.cell? ⟨g, j * 3 + 2, none⟩ = some (.string l[j].from')) := by
  rcases h.2 with ⟨rfl, h0⟩ | ⟨g, cap, cur, rfl, hB, hg, h1, h2, h3, h4⟩
  · exact ⟨none, 0, by rw [h0], by omega, fun h => by omega⟩
  · refine ⟨_, cap, rfl, by omega, fun _ => ⟨g, rfl, hB, (Array.getElem?_eq_some_iff.1 hg).1, fun j hj => ?_⟩⟩
    simp only [World.cell?, hg]
    have h5 := StgsRow_at l j hj
    rw [← h4, List.getElem?_take, List.getElem?_take, List.getElem?_take, if_pos (by omega), if_pos (by omega), if_pos (by omega)] at h5
    simpa using h5
theorem OwnStgs.at {B : Nat} {w : World} {v : Value} {l : List Setting} (h : OwnStgs B w v l) : StgsAt (fun b => B ≤ b ∧ b < w.heap.size) w v l := by
  obtain ⟨a, cap, hv, hl, hc⟩ := h.value
  refine ⟨hl, a, cap, hv, fun h0 => ?_⟩
  obtain ⟨g, rfl, hB, hg, hcell⟩ := hc h0
  refine ⟨g, 0, rfl, ⟨hB, hg⟩, fun i hi => ?_⟩
  simpa using hcell i hi
theorem OwnStgs.out {B : Nat} {S : Nat → Prop} {w w' : World} {v : Value} {l : List Setting} (h : OwnStgs B w v l) (ho : OutS S w w') (hS : ∀ b, S b → b < B) : OwnStgs B w' v l := by
  obtain ⟨hl, h⟩ := h
  refine ⟨hl, ?_⟩
  rcases h with h | ⟨g, cap, cur, hv, hB, hg, h1⟩
  · exact .inl h
  · refine .inr ⟨g, cap, cur, hv, hB, ?_, h1⟩
    rw [ho.block g (Array.getElem?_eq_some_iff.1 hg).1 (fun hs => by have := hS g hs; omega)]; exact hg
theorem OwnStgs.blk {B b : Nat} {w : World} {v : Value} {l : List Setting} (h : OwnStgs B w v l) (hb : BlkOf v b) : B ≤ b := by
  rcases h.2 with ⟨rfl, _⟩ | ⟨g, cap, cur, rfl, hB, _⟩
  · obtain ⟨_, _, h⟩ := hb; simp at h
  · rw [hb.eq]; exact hB
theorem OwnStgs.block {B : Nat} {w : World} {v : Value} {l : List Setting} (h : OwnStgs B w v l) : ∀ k, v.ownBlock = some k → B ≤ k := by
  intro k hk
  rcases h.2 with ⟨rfl, _⟩ | ⟨g, cap, cur, rfl, hB, _⟩
  · simp [Value.ownBlock] at hk
  · simp [Value.ownBlock] at hk; omega
theorem OwnStgs.kept {B : Nat} {w w' : World} {v : Value} {l : List Setting} {row : Option Nat} (h : OwnStgs B w v l) (hg : w.grownBy w' row) (hne : v.ownBlock = none ∨ v.ownBlock ≠ row) : OwnStgs B w' v l :=
  World.ownsRow.kept h hg hne
theorem OwnStgs.empty (B : Nat) (w : World) (hB : B ≤ w.heap.size) : OwnStgs B (w.alloc (.cells #[] 105)) (.slice (some ⟨w.heap.size, 0, none⟩) 0 0) [] :=
  ⟨rfl, .inr ⟨w.heap.size, 0, #[], rfl, hB, heap_alloc_last w _, Nat.le_refl _, Nat.zero_le _, rfl, rfl⟩⟩
theorem OwnStgs.nil (B : Nat) (w : World) : OwnStgs B w (.slice none 0 0) [] := ⟨rfl, .inl ⟨rfl, rfl⟩⟩
/-- A row of one that is built. -/
theorem StgsAt.new (w : World) (x0 : ByteArray) (x1 : ByteArray) (x2 : ByteArray) : StgsAt (fun b => b = w.heap.size) (w.alloc (.cells #[.string x0, .string x1, .string x2] 105)) (.slice (some ⟨w.heap.size, 0, none⟩) 1 1) [⟨x0, x1, x2⟩] := by
  refine ⟨by simp [maxLen], _, 1, rfl, fun _ => ⟨w.heap.size, 0, rfl, rfl, fun i hi => ?_⟩⟩
  have hi0 : i = 0 := by simpa using hi
  subst hi0
  have hb : Blk (w.alloc (.cells #[.string x0, .string x1, .string x2] 105)) w.heap.size 105 #[.string x0, .string x1, .string x2] := heap_alloc_last w _
  exact ⟨hb.cell 0, hb.cell 1, hb.cell 2⟩
theorem StgsAt.news {S : Nat → Prop} {w : World} {b off len cap : Nat} {ys : List Setting} (h : StgsAt S w (.slice (some ⟨b, off, none⟩) len cap) ys) : ∀ j u, (StgsRow ys)[j]? = some u → w.cell? ((⟨b, off, none⟩ : Addr).add j) = some u := by
  intro j u hj
  have hlt : j < ys.length * 3 := by
    have := (List.getElem?_eq_some_iff.1 hj).1
    rwa [StgsRow_length] at this
  obtain ⟨_, a, c, hv, hc⟩ := h
  obtain ⟨b', off', ha, _, hcell⟩ := hc (by omega)
  simp only [Value.slice.injEq] at hv
  obtain ⟨rfl, _, _⟩ := hv
  simp only [Option.some.injEq, Addr.mk.injEq] at ha
  obtain ⟨rfl, rfl, _⟩ := ha
  have hk : j / 3 < ys.length := by omega
  have hcc := hcell (j / 3) hk
  have hrr := StgsRow_at ys (j / 3) hk
  rw [addr_at]
  obtain ⟨c0, c1, c2⟩ := hcc
  obtain ⟨r0, r1, r2⟩ := hrr
  have h3 : j % 3 = 0 ∨ j % 3 = 1 ∨ j % 3 = 2 := by omega
  rcases h3 with h3 | h3 | h3
  · have e : j = j / 3 * 3 := by omega
    rw [e] at hj
    rw [r0] at hj
    rw [show off + j = off + j / 3 * 3 by omega, c0, ← hj]
  · have e : j = j / 3 * 3 + 1 := by omega
    rw [e] at hj
    rw [r1] at hj
    rw [show off + j = off + j / 3 * 3 + 1 by omega, c1, ← hj]
  · have e : j = j / 3 * 3 + 2 := by omega
    rw [e] at hj
    rw [r2] at hj
    rw [show off + j = off + j / 3 * 3 + 2 by omega, c2, ← hj]
theorem wpList_appendStgs {ops : Array Oper} {rest : List Oper} {o : Oper} {a : Act} {w : World} {Q : Exit → Act → World → Prop} (hgd : o.guard = none) (s x : Operand)
    (ho : o.op = .call { callee := .builtin .append, args := #[s, x], argTypes := #[119, 119] })
    (B : Nat) (v : Value) (l : List Setting) (hs : a.eval s = v) (hown : OwnStgs B w v l) {S : Nat → Prop} (u : Value) (ys : List Setting) (hx : a.eval x = u) (hsrc : StgsAt S w u ys)
    (hsz : l.length + ys.length ≤ 1000000) (hB : B ≤ w.heap.size)
    (h : ∀ v' w', OwnStgs B w' v' (l ++ ys) → Below B w w' → w.grownBy w' v.ownBlock → (v' = .slice none 0 0 → v = .slice none 0 0) → wpList Tryz.prog ops Q rest (a.put o.dst v') w') : wpList Tryz.prog ops Q (o :: rest) a w := by
  obtain ⟨i, hii, hz0, hz1, hz2⟩ := info_of (t := 105) (z := .agg #[.string ⟨#[]⟩, .string ⟨#[]⟩, .string ⟨#[]⟩]) (n := 3) (b := 48) (by kernel_rfl)
  obtain ⟨_, ao, c, hv, hc⟩ := id hsrc
  by_cases h0 : 0 < ys.length
  · obtain ⟨b, off, rfl, _, _⟩ := hc h0
    subst hv
    refine wpList_append_own w hgd s x 119 ho B 105 i (.agg #[.string ⟨#[]⟩, .string ⟨#[]⟩, .string ⟨#[]⟩]) 3 48 Tryz.underlying119 hii hz0 hz1 hz2 rfl (by decide) v l.length (StgsRow l) hs hown ⟨b, off, none⟩ ys.length c (StgsRow ys) hx (StgsRow_length ys) hsrc.news (fun u hu => StgsRow_one hu) ?_ ?_ hB ?_
    · unfold maxLen; omega
    · omega
    · intro v' w' h1 h2 h3
      have h4 : OwnStgs B w' v' (l ++ ys) := by
        unfold OwnStgs
        rw [StgsRow_append, List.length_append]
        exact h1
      have h5 := (Below.refl _ w).grown h2 hB (OwnStgs.block hown)
      exact h v' w' h4 h5 h2 (fun e => (h3.1 e).1)
  · have hy : ys = [] := List.length_eq_zero_iff.1 (by omega)
    subst hy
    subst hv
    have hrun : (Builtin.append_ #[119, 119] o.type #[v, .slice ao 0 c]).run Tryz.prog w = .ok v w := run_append_zero Tryz.underlying119 hii v _ _ hown ao c
    refine wpList_plain hgd fun K hK => ?_
    unfold Oper.wp
    simp only [List.length_nil] at hx
    simp [execOp, ho, resolve, invoke, builtin, hs, hx, hrun, Result.andThen]
    exact hK _ _ (h v w (by simpa using hown) (Below.refl _ _) (grown_refl _ _) id)
theorem step_appendStgs {ops : Array Oper} {o : Oper} {a : Act} {w : World} {K : Act → World → Prop} {Q : Exit → Act → World → Prop} {E : Prop}
    (hg : o.guard = none) (s x : Operand) (ho : o.op = Op.call { callee := Callee.builtin Builtin.append, args := #[s, x], argTypes := #[119, 119] })
    (B : Nat) (v : Value) (l : List Setting) (hs : a.eval s = v) (hown : OwnStgs B w v l) {S : Nat → Prop} (u : Value) (ys : List Setting) (hx : a.eval x = u) (hsrc : StgsAt S w u ys)
    (hsz : l.length + ys.length ≤ 1000000) (hB : B ≤ w.heap.size)
    (hK : ∀ va vn vc w', OwnStgs B w' (.slice va vn vc) (l ++ ys) → Below B w w' → w.grownBy w' v.ownBlock → (Value.slice va vn vc = .slice none 0 0 → v = .slice none 0 0) → K (a.put o.dst (.slice va vn vc)) w') :
    if Region.wanted o (yielded ops a.tmps) = true then Oper.wp Tryz.prog o a w K Q else E := by
  have hw : Region.wanted o (yielded ops a.tmps) = true := by simp [Region.wanted, hg]
  rw [if_pos hw]
  obtain ⟨i, hii, hz0, hz1, hz2⟩ := info_of (t := 105) (z := .agg #[.string ⟨#[]⟩, .string ⟨#[]⟩, .string ⟨#[]⟩]) (n := 3) (b := 48) (by kernel_rfl)
  obtain ⟨_, ao, c, hv, hc⟩ := id hsrc
  by_cases h0 : 0 < ys.length
  · obtain ⟨b, off, rfl, _, _⟩ := hc h0
    subst hv
    refine wp_append_own w  s x 119 ho B 105 i (.agg #[.string ⟨#[]⟩, .string ⟨#[]⟩, .string ⟨#[]⟩]) 3 48 Tryz.underlying119 hii hz0 hz1 hz2 rfl (by decide) v l.length (StgsRow l) hs hown ⟨b, off, none⟩ ys.length c (StgsRow ys) hx (StgsRow_length ys) hsrc.news (fun u hu => StgsRow_one hu) ?_ ?_ hB ?_
    · unfold maxLen; omega
    · omega
    · intro v' w' h1 h2 h3
      have h4 : OwnStgs B w' v' (l ++ ys) := by
        unfold OwnStgs
        rw [StgsRow_append, List.length_append]
        exact h1
      have h5 := (Below.refl _ w).grown h2 hB (OwnStgs.block hown)
      rcases h4.2 with ⟨rfl, _⟩ | ⟨g, cap, cur, rfl, _⟩
      · exact hK _ _ _ w' h4 h5 h2 (fun e => (h3.1 e).1)
      · exact hK _ _ _ w' h4 h5 h2 (fun e => (h3.1 e).1)
  · have hy : ys = [] := List.length_eq_zero_iff.1 (by omega)
    subst hy
    subst hv
    have hrun : (Builtin.append_ #[119, 119] o.type #[v, .slice ao 0 c]).run Tryz.prog w = .ok v w := run_append_zero Tryz.underlying119 hii v _ _ hown ao c
    unfold Oper.wp
    simp only [List.length_nil] at hx
    simp [execOp, ho, resolve, invoke, builtin, hs, hx, hrun, Result.andThen]
    obtain ⟨va, vc, hvv, _⟩ := hown.value
    subst hvv
    exact hK _ _ _ w (by simpa using hown) (Below.refl _ _) (grown_refl _ _) id
end Go.Proofs.YtoopdcbgnccmiaaGreatDoor

namespace Go.Proofs.YtoopdcbgnccmiaaGreatDoor
open Go.ChangeShapes Go.WideShapes Go.ChangeAt Go.RowKit Go.Maps
open Go.Sort (grow putRow putCells mapBlock onCells heap_grow_old ahead HoldsK flatK get_flatK size_flatK putRowK PermIn SortedIn SWO)
set_option linter.unusedVariables false

instance : Inhabited Setting := ⟨⟨⟨#[]⟩, ⟨#[]⟩, ⟨#[]⟩⟩⟩
def cmpSt (x y : Setting) : Int := Lib.compareBytes x.path.data.toList y.path.data.toList
theorem cmpB : ∀ (l m : List UInt8), Lib.compareBytes l m < 0 ↔ l < m
  | [], [] => by simp [Lib.compareBytes]
  | [], b :: bs => by simp [Lib.compareBytes]
  | a :: xs, [] => by simp [Lib.compareBytes]
  | a :: xs, b :: bs => by
    unfold Lib.compareBytes
    rw [List.cons_lt_cons_iff]
    by_cases h1 : a < b
    · simp [h1]
    · rw [if_neg h1]
      by_cases h2 : b < a
      · rw [if_pos h2]
        have h3 : ¬ a = b := fun e => by subst e; exact absurd h2 (UInt8.lt_irrefl _)
        simp [h1, h3]
      · rw [if_neg h2, cmpB xs bs]
        have h3 : a = b := UInt8.le_antisymm (UInt8.not_lt.1 h2) (UInt8.not_lt.1 h1)
        simp [h3]
theorem ltSt (x y : Setting) : ltOf cmpSt x y = lessB x.path y.path := by
  unfold ltOf cmpSt
  rw [lessB_eq, Bool.eq_iff_iff, decide_eq_true_eq, decide_eq_true_eq, cmpB]
theorem lessB_neg {x y z : ByteArray} (h1 : lessB x y = false) (h2 : lessB y z = false) : lessB x z = false := by
  cases h : lessB x z
  · rfl
  · by_cases e : x = y
    · subst e; rw [h] at h2; cases h2
    · rcases lessB_total e with q | q
      · rw [q] at h1; cases h1
      · rw [lessB_trans q h] at h2; cases h2
theorem swoSt : SWO (ltOf cmpSt) where
  irrefl x := by rw [ltSt]; exact lessB_irrefl x.path
  trans x y z h1 h2 := by rw [ltSt] at *; exact lessB_trans h1 h2
  ntrans x y z h1 h2 := by rw [ltSt] at *; exact lessB_neg h1 h2
/-- What a sort leaves. -/
structure SortedS (l l' : List Setting) : Prop where
  perm : l'.Perm l
  rises : l'.Pairwise fun x y => lessB y.path x.path = false
theorem implSortSt {B : Nat} {w : World} {v : Value} {l : List Setting} (h : OwnStgs B w v l) (hl : l.length ≤ 1000000) :
    Calls Tryz.prog 105 #[v, .func (.func 106) #[] #[]] w fun e w' => e = .returned (.tuple #[]) ∧ ∃ l', SortedS l l' ∧ OwnStgs B w' v l' ∧ w.grownBy w' v.ownBlock := by
  by_cases h0 : l = []
  · subst h0
    obtain ⟨a, cap, rfl, _⟩ := h.value
    refine (AnyF.slices_SortFunc_none { Tryz.sortSet with } a cap _ w).mono ?_
    rintro e w' ⟨rfl, rfl⟩
    exact ⟨rfl, [], ⟨List.Perm.refl _, List.Pairwise.nil⟩, h, grown_refl _ _⟩
  · have hpos : 0 < l.length := by
      cases l with
      | nil => exact absurd rfl h0
      | cons a r => simp
    rcases h.2 with ⟨_, hz⟩ | ⟨g, cap, cur, rfl, hB, hg, hn1, hn2, hn3, hn4⟩
    · omega
    have hk : ∀ x : Setting, (StgsCells x).length = 3 := fun _ => rfl
    have hH : HoldsK StgsCells 3 w g 0 l.toArray := holdsK_of_block hk (by omega) hg hn4
    have eg : ∀ args w, (callFunc 106 args).run Tryz.prog w = .ok (.enter 106 args) w := enters_of Tryz.func106 (by kernel_rfl) rfl
    have hcmp : CmpLays Tryz.prog 106 #[] StgsCells 3 cmpSt g 0 l.toArray.size w := by
      intro m os dk _ x y
      obtain ⟨xp, xt, xf⟩ := x
      obtain ⟨yp, yt, yf⟩ := y
      exact implCmpSt xp xt xf yp yt yf _
    have hcon := AnyQ.slices_SortFunc Tryz.sortSet 3 Tryz.isAgg105 Tryz.sizeOf105 StgsCells hk (fun x v hv => by
      simp [StgsCells] at hv
      rcases hv with rfl | rfl | rfl <;> rfl) cmpSt swoSt 106 #[] g 0 cap l.toArray w eg hcmp hH (Array.getElem?_eq_some_iff.1 hg).1 (by simp; omega)
    have e1 : l.length = l.toArray.size := by simp
    rw [e1]
    refine Calls.mono hcon ?_
    rintro e w' ⟨rfl, d', n, os, hp, hso, rfl⟩
    have hsize : d'.toList.length = l.length := by rw [Array.length_toList, hp.1]; simp
    refine ⟨rfl, d'.toList, ⟨perm_of hp, ?_⟩, ?_, grownBy_sortedK d'⟩
    · refine (sorted_of hp hso).imp ?_
      intro a b hab
      rw [ltSt] at hab
      exact hab
    · have := ownsRow_sortedK (n := n) (os := os) hk (by omega) hsize hB hg hn1 hn2 hn3
      unfold OwnStgs StgsRow
      rw [hsize]
      simpa using this
theorem StgsAt.newAt (w : World) (x y z : ByteArray) (g : Nat) (hg : w.heap.size = g) : StgsAt (fun b => b = g) (w.alloc (.cells #[.string x, .string y, .string z] 105)) (.slice (some ⟨g, 0, none⟩) 1 1) [⟨x, y, z⟩] := by
  subst hg; exact StgsAt.new w x y z
/-- What has been told so far: those of the settings that are no longer to come. -/
def Told (out acc : List Setting) (left : Lit → Bool) : Prop := (∀ s, s ∈ acc ↔ s ∈ out ∧ left (textKey s.path) = false) ∧ acc.Pairwise fun x y => x.path ≠ y.path
theorem Told.start {D : DataW Value} {f : ByteArray → Option Setting} {out : List Setting} (h : Rep D f) (ho : IsOf f out) : Told out [] (has D) := by
  refine ⟨fun s => ⟨fun hs => (by cases hs), ?_⟩, List.Pairwise.nil⟩
  rintro ⟨h1, h2⟩
  rw [h.has, (ho s.path s).2 ⟨h1, rfl⟩] at h2
  cases h2
theorem Told.step {f : ByteArray → Option Setting} {out acc : List Setting} {left : Lit → Bool} {x : ByteArray} {c : Setting} (h : Told out acc left) (ho : IsOf f out) (hx : f x = some c) (hl : left (textKey x) = true) : Told out (acc ++ [c]) (fun z => left z && !z.sameKey (textKey x)) := by
  obtain ⟨hc, hp⟩ := (ho x c).1 hx
  subst hp
  refine ⟨fun s => ?_, ?_⟩
  · rw [List.mem_append, h.1, List.mem_singleton]
    simp only [same_text]
    constructor
    · rintro (⟨h1, h2⟩ | rfl)
      · exact ⟨h1, by rw [h2]; rfl⟩
      · exact ⟨hc, by simp⟩
    · rintro ⟨h1, h2⟩
      by_cases e : s.path = c.path
      · right
        have := (ho c.path s).2 ⟨h1, e⟩
        rw [hx] at this
        cases this
        rfl
      · left
        refine ⟨h1, ?_⟩
        simpa [e] using h2
  · rw [List.pairwise_append]
    refine ⟨h.2, by simp, fun a ha b hb e => ?_⟩
    simp at hb
    subst hb
    have := ((h.1 a).1 ha).2
    rw [e, hl] at this
    cases this
theorem Told.end {out acc l : List Setting} {left : Lit → Bool} (h : Told out acc left) (hl : ∀ k, left k = false) (hr : SRises out) (hs : SortedS acc l) : l = out := by
  have hn : l.Pairwise fun x y => x.path ≠ y.path := (hs.perm.pairwise_iff (fun {_ _} h => Ne.symm h)).2 h.2
  refine SRises.eq ?_ hr (fun x => ?_)
  · unfold SRises
    rw [List.pairwise_iff_getElem]
    intro i j hi hj hij
    rcases lessB_total (List.pairwise_iff_getElem.1 hn i j hi hj hij) with q | q
    · exact q
    · rw [List.pairwise_iff_getElem.1 hs.rises i j hi hj hij] at q; cases q
  · rw [hs.perm.mem_iff, h.1, hl]
    simp
set_option maxRecDepth 100000 in
set_option maxHeartbeats 4000000 in
theorem implInOrder {w : World} {b n : Nat} {out : List Setting} (h : MapS w b n out) (hr : SRises out) (hn : n ≤ 4000) :
    Calls Tryz.prog 69 #[.map (some b)] w fun e w' => (∃ p, e = .returned p ∧ OwnStgs w.heap.size w' p out) ∧ Below w.heap.size w w' := by
  have hlt := h.lt
  obtain ⟨D, f, hown, hrep, hof⟩ := h
  have hsize := hown.size_le
  have HOF : Hid (IsOf f out) := hof
  have HREP : Hid (Rep D f) := hrep
  have HST : Hid (Told out [] (has D)) := Told.start hrep hof
  have HR : Hid (SRises out) := hr
  clear hof hrep hr
  go_enter Tryz.func69, Tryz.ntmps69
  go_wp2_with (first
    | (at_range; refine wpList_range_own _ rfl _ 91 rfl 9 105 law9 Tryz.underlying91 _ b n _ rfl hown ?_; intro w0 hrg0 hg0 hs0)
    | go_in)
  go_frame
  have hb0 : Below w.heap.size w w0 := (Below.refl _ w).grown hg0 (Nat.le_refl _) (fun j hj => by cases hj)
  go_loopw [3] (fun i3 wr => ∃ (left : Lit → Bool) (cnt : Nat) (aa : Option Addr) (ac : Nat) (acc : List Setting), i3 = .slice aa acc.length ac ∧ wr.ranges Tryz.prog 9 heldS b w.heap.size n D left cnt ∧ Told out acc left ∧ acc.length + cnt ≤ n ∧ OwnStgs (w.heap.size + 1) wr (.slice aa acc.length ac) acc ∧ Below w.heap.size w wr) (fun _ wr => wr.rangeLeft b w.heap.size)
  case atStart => exact ⟨_, _, none, 0, [], rfl, hrg0, HST.out, by simpa using hsize, OwnStgs.nil _ _, hb0⟩
  case round =>
    obtain ⟨left, cnt, aa, ac, acc, rfl, hrg, htold, hac, hoa, hb⟩ := hrel
    have HTO : Hid (Told out acc left) := htold
    have HOA : Hid (OwnStgs (w.heap.size + 1) wr (.slice aa acc.length ac) acc) := hoa
    have hbs := hrg.lt
    have hacn : acc.length ≤ 4000 := by omega
    clear htold hoa hg0 hrg0
    go_wp2_with (first
      | (at_next; refine wpList_nextS _ rfl _ rfl b w.heap.size n _ _ _ rfl hrg ?_ ?_)
      | go_in)
    · intro _ hl0
      have cs := implSortSt HOA.out (by omega)
      go_wp2_with (go_at_call 105; go_must (refine cs.mono ?_; rintro e w2 ⟨rfl, l2, hso, hop, hgr⟩))
      have hl2 := HTO.out.end hl0 HR.out hso
      subst hl2
      go_ret
      exact ⟨⟨_, rfl, OwnStgs.mono hop (Nat.le_succ _)⟩, hb.grown hgr hb.size (fun j hj => Nat.le_trans (Nat.le_succ _) (OwnStgs.block HOA.out j hj))⟩
    · intro x cp ct cf w2 cnt1 hlx hat hkey hrg1 hlt1 hg1 hs1 hen
      have hcx := HREP.out.some hat
      have HT2 : Hid (Told out (acc ++ [⟨cp, ct, cf⟩]) (fun z => left z && !z.sameKey (textKey x))) := HTO.out.step HOF.out hcx hlx
      have hb2 : Below w.heap.size w w2 := hb.grown hg1 hb.size (fun j hj => by cases hj; exact Nat.le_refl _)
      have hoa2 : OwnStgs (w.heap.size + 1) w2 (.slice aa acc.length ac) acc := HOA.out.kept hg1 (.inr (fun e => by
        have := OwnStgs.block HOA.out w.heap.size e
        omega))
      have HOA2 : Hid (OwnStgs (w.heap.size + 1) w2 (.slice aa acc.length ac) acc) := hoa2
      have HRG1 : Hid (w2.ranges Tryz.prog 9 heldS b w.heap.size n D (fun z => left z && !z.sameKey (textKey x)) cnt1) := hrg1
      have hw2s : w.heap.size + 1 ≤ w2.heap.size := by have := hrg1.lt; omega
      have hbk : ∀ o, Below w2.heap.size w2 ((w2.alloc (.cells #[.string cp, .string ct, .string cf] 105)).alloc o) := fun o => ((Below.refl _ w2).alloc (Nat.le_refl _) _).alloc (by simp) _
      clear hat hcx hoa2 hrg1 hs1
      go_wp2_with (at_builtin; go_must (refine wpList_appendStgs rfl (.tmp 12) (.tmp 14) rfl (w.heap.size + 1) (.slice aa acc.length ac) acc rfl (OwnStgs.below HOA2.out (hbk _)) _ [⟨cp, ct, cf⟩] rfl (StgsAt.newAt _ cp ct cf _ (by simp)) (by simp <;> omega) (by simp only [World.size_alloc]; omega) ?_; intro v9 w9 hown9 hB9 hgr9 hnil9; obtain ⟨a9, c9, e9, -⟩ := hown9.value; subst e9))
      have hnb : ∀ j, (Value.slice aa acc.length ac).ownBlock = some j → w.heap.size + 1 ≤ j := OwnStgs.block HOA2.out
      have hrg9 : w9.ranges Tryz.prog 9 heldS b w.heap.size n D (fun z => left z && !z.sameKey (textKey x)) cnt1 := ((HRG1.out.alloc _).alloc _).kept hgr9 (fun e => by have := hnb b e.symm; omega) (fun e => by have := hnb _ e.symm; omega)
      refine ⟨⟨_, cnt1, a9, c9, acc ++ [⟨cp, ct, cf⟩], by simp, hrg9, HT2.out, by simp; omega, hown9, ?_⟩, ?_⟩
      · exact ((hb2.alloc hb2.size _).alloc (by simp; omega) _).grown hgr9 (by simp; omega) (fun j hj => Nat.le_trans (Nat.le_succ _) (hnb j hj))
      · rw [hrg9.left_eq, hrg.left_eq]; exact hlt1
end Go.Proofs.YtoopdcbgnccmiaaGreatDoor

namespace Go.Proofs.YtoopdcbgnccmiaaGreatDoor
open Go.ChangeShapes Go.WideShapes Go.ChangeAt Go.RowKit
set_option linter.unusedVariables false

def OwnS (B : Nat) (w : World) (v : Value) (ss : List ByteArray) : Prop := w.ownsRow B 9 1 v ss.length (ss.map Value.string)
theorem OwnS.below {B : Nat} {w w' : World} {v : Value} {ss : List ByteArray} (h : OwnS B w v ss) (hb : Below w.heap.size w w') : OwnS B w' v ss := by
  obtain ⟨hl, h⟩ := h
  refine ⟨hl, ?_⟩
  rcases h with h | ⟨g, cap, cur, hv, hB, hg, h1, h2, h3, h4⟩
  · exact .inl h
  · refine .inr ⟨g, cap, cur, hv, hB, ?_, h1, h2, h3, h4⟩
    rw [hb.block g (Array.getElem?_eq_some_iff.1 hg).1]; exact hg
theorem OwnS.block {B : Nat} {w : World} {v : Value} {ss : List ByteArray} (h : OwnS B w v ss) : ∀ k, v.ownBlock = some k → B ≤ k := by
  rcases h.2 with ⟨rfl, _⟩ | ⟨g, cap, cur, rfl, hB, _⟩
  · intro k hk; simp [Value.ownBlock] at hk
  · intro k hk; simp [Value.ownBlock] at hk; omega
theorem OwnS.value {B : Nat} {w : World} {v : Value} {ss : List ByteArray} (h : OwnS B w v ss) :
    ∃ a cap, v = .slice a ss.length cap ∧ (0 < ss.length → ∃ g, a = some ⟨g, 0, none⟩ ∧ ∀ j (hj : j < ss.length), w.cell? ⟨g, j, none⟩ = some (.string ss[j])) := by
  rcases h.2 with ⟨rfl, h0⟩ | ⟨g, cap, cur, rfl, hB, hg, h1, h2, h3, h4⟩
  · exact ⟨none, 0, by rw [h0], fun h => by omega⟩
  · refine ⟨_, cap, rfl, fun _ => ⟨g, rfl, fun j hj => ?_⟩⟩
    simp only [World.cell?, hg]
    have h5 := congrArg (·[j]?) h4
    simp only [Nat.mul_one, List.getElem?_take, hj, if_true, List.getElem?_map, List.getElem?_eq_getElem hj, Option.map_some] at h5
    simpa using h5

set_option maxRecDepth 100000 in
set_option maxHeartbeats 400000 in
theorem specHas (ss : List ByteArray) (t : ByteArray) (a : Option Addr) (cap : Nat) (w : World) (hlen : ss.length ≤ 1000000)
    (hc : 0 < ss.length → ∃ g, a = some ⟨g, 0, none⟩ ∧ ∀ j (hj : j < ss.length), w.cell? ⟨g, j, none⟩ = some (.string ss[j])) :
    Calls Tryz.prog 49 #[.slice a ss.length cap, .string t] w fun e w' => e = .returned (.bool (hasB ss t)) ∧ w = w' := by
  have HC : Hid _ := hc
  clear hc
  obtain ⟨n, hn⟩ : ∃ n, ss.length = n := ⟨_, rfl⟩
  rw [hn]
  go_enter Tryz.func49, Tryz.ntmps49
  go_wp2
  go_loop [5] (fun i => ∃ k : Nat, k ≤ n ∧ i = .int .i64 (k : Int) ∧ (ss.take k).any (fun x => x.toList == t.toList) = false) (fun i => n - (intOf i).toNat)
  case atStart => exact ⟨0, by omega, rfl, rfl⟩
  case round =>
    obtain ⟨k, hk, rfl, h0⟩ := hrel
    have H0 : Hid ((ss.take k).any (fun x => x.toList == t.toList) = false) := h0
    clear h0
    by_cases hkn : k < n
    · have hk' : k < ss.length := by omega
      obtain ⟨g, rfl, hcell0⟩ := HC.out (by omega)
      have hcell := hcell0 k hk'
      clear hcell0
      obtain ⟨x, hx⟩ : ∃ x, ss[k] = x := ⟨_, rfl⟩
      rw [hx] at hcell
      have HX : Hid (ss[k] = x) := hx
      clear hx
      go_wp2
      · have h1 : (x.toList == t.toList) = true := by assumption
        go_ret
        refine ⟨?_, rfl⟩
        have : hasB ss t = true := any_hit ss _ k hk' (by rw [HX.out]; exact h1)
        rw [this]; rfl
      · have h1 : (x.toList == t.toList) = false := by assumption
        go_round
        case rel => exact ⟨k + 1, by omega, by go_num, any_take_succ ss _ k hk' H0 (by rw [HX.out]; exact h1)⟩
        case measure => simp [intOf]; omega
    · go_wp2
      go_ret
      refine ⟨?_, rfl⟩
      have : hasB ss t = false := by
        have h1 := H0.out
        rw [List.take_of_length_le (by omega)] at h1
        exact h1
      rw [this]; rfl

section
variable {P : Program}
theorem wpList_appendS {ops : Array Oper} {rest : List Oper} {o : Oper} {a : Act} {w : World} {Q : Exit → Act → World → Prop} (hgd : o.guard = none) (s x : Operand) (t : TypeId)
    (ho : o.op = .call { callee := .builtin .append, args := #[s, x], argTypes := #[t, t] })
    (ht : P.underlying t = some (.slice 9)) (i : TypeInfo) (hii : P.info? 9 = some i) (hz0 : i.zero = some (.string ⟨#[]⟩)) (hz1 : i.size = 1) (hz2 : i.bytes = 16)
    (B : Nat) (v : Value) (l : List ByteArray) (hs : a.eval s = v) (hown : OwnS B w v l)
    (ad : Addr) (c : Nat) (y : ByteArray) (hx : a.eval x = .slice (some ad) 1 c) (hnews : w.cell? ad = some (.string y))
    (hsz : l.length ≤ 1000000) (hB : B ≤ w.heap.size)
    (h : ∀ v' w', OwnS B w' v' (l ++ [y]) → Below B w w' → w.grownBy w' v.ownBlock → wpList P ops Q rest (a.put o.dst v') w') : wpList P ops Q (o :: rest) a w := by
  refine wpList_append_own w hgd s x t ho B 9 i (.string ⟨#[]⟩) 1 16 ht hii hz0 hz1 hz2 rfl (by decide) v l.length (l.map Value.string) hs hown ad 1 c [.string y] hx rfl ?_ ?_ ?_ ?_ hB ?_
  · intro j u hj
    have : j = 0 := by
      have := (List.getElem?_eq_some_iff.1 hj).1
      simp at this
      omega
    subst this
    simp at hj
    rw [← hj]
    have hadd : ad.add 0 = ad := by
      obtain ⟨b, o, s⟩ := ad
      cases s <;> rfl
    rw [hadd]; exact hnews
  · intro u hu
    simp at hu
    subst hu
    rfl
  · unfold maxLen; omega
  · omega
  · intro v' w' h1 h2 h3
    refine h v' w' ?_ ((Below.refl _ w).grown h2 hB (OwnS.block hown)) h2
    unfold OwnS
    rw [List.map_append, List.length_append]
    exact h1
end
theorem info9 : ∃ i, Tryz.prog.info? 9 = some i ∧ i.zero = some (.string ⟨#[]⟩) ∧ i.size = 1 ∧ i.bytes = 16 := by
  have hi : (Tryz.prog.info? 9).map (fun i => (i.zero, i.size, i.bytes)) = some (some (.string ⟨#[]⟩), 1, 16) := by kernel_rfl
  cases h : Tryz.prog.info? 9 with
  | none => rw [h] at hi; simp at hi
  | some i =>
    rw [h] at hi
    simp only [Option.map_some, Option.some.injEq, Prod.mk.injEq] at hi
    exact ⟨i, rfl, hi.1, hi.2.1, hi.2.2⟩

theorem new_cell (w : World) (y : ByteArray) : (w.alloc (.cells #[.string y] 9)).cell? ⟨w.heap.size, 0, none⟩ = some (.string y) := by
  simp only [World.cell?, heap_alloc_last]
  rfl


section
variable {P : Program}
theorem wpList_appendSm {ops : Array Oper} {rest : List Oper} {o : Oper} {a : Act} {w : World} {Q : Exit → Act → World → Prop} (hgd : o.guard = none) (s x : Operand) (t : TypeId)
    (ho : o.op = .call { callee := .builtin .append, args := #[s, x], argTypes := #[t, t] })
    (ht : P.underlying t = some (.slice 9)) (i : TypeInfo) (hii : P.info? 9 = some i) (hz0 : i.zero = some (.string ⟨#[]⟩)) (hz1 : i.size = 1) (hz2 : i.bytes = 16)
    (B : Nat) (v : Value) (l : List ByteArray) (hs : a.eval s = v) (hown : OwnS B w v l)
    (ad : Addr) (c : Nat) (ys : List ByteArray) (m : Nat) (hm : ys.length = m) (hx : a.eval x = .slice (some ad) m c) (hnews : ∀ j (h : j < ys.length), w.cell? (ad.add j) = some (.string ys[j]))
    (hsz : l.length + m ≤ 1000000) (hB : B ≤ w.heap.size)
    (h : ∀ v' w', OwnS B w' v' (l ++ ys) → Below B w w' → w.grownBy w' v.ownBlock → (v' = .slice none 0 0 ↔ v = .slice none 0 0 ∧ m = 0) → wpList P ops Q rest (a.put o.dst v') w') : wpList P ops Q (o :: rest) a w := by
  subst hm
  refine wpList_append_own w hgd s x t ho B 9 i (.string ⟨#[]⟩) 1 16 ht hii hz0 hz1 hz2 rfl (by decide) v l.length (l.map Value.string) hs hown ad ys.length c (ys.map Value.string) hx (by simp) ?_ ?_ ?_ ?_ hB ?_
  · intro j u hj
    obtain ⟨hlt, he⟩ := List.getElem?_eq_some_iff.1 hj
    simp at hlt he
    rw [← he]
    exact hnews j hlt
  · intro u hu
    obtain ⟨y, _, rfl⟩ := List.mem_map.1 hu
    rfl
  · unfold maxLen; omega
  · omega
  · intro v' w' h1 h2 h3
    refine h v' w' ?_ ((Below.refl _ w).grown h2 hB (OwnS.block hown)) h2 h3
    unfold OwnS
    rw [List.map_append, List.length_append]
    exact h1
end
theorem step_appendSm {ops : Array Oper} {o : Oper} {a : Act} {w : World} {K : Act → World → Prop} {Q : Exit → Act → World → Prop} {E : Prop}
    (hg : o.guard = none) (s x : Operand) (ho : o.op = Op.call { callee := Callee.builtin Builtin.append, args := #[s, x], argTypes := #[43, 43] })
    (B : Nat) (v : Value) (l : List ByteArray) (hs : a.eval s = v) (hown : OwnS B w v l)
    (ad : Addr) (c : Nat) (ys : List ByteArray) (m : Nat) (hm : ys.length = m) (hx : a.eval x = .slice (some ad) m c) (hnews : ∀ j (h : j < ys.length), w.cell? (ad.add j) = some (.string ys[j]))
    (hsz : l.length + m ≤ 1000000) (hB : B ≤ w.heap.size)
    (hK : ∀ v' w', OwnS B w' v' (l ++ ys) → Below B w w' → w.grownBy w' v.ownBlock → (v' = .slice none 0 0 ↔ v = .slice none 0 0 ∧ m = 0) → K (a.put o.dst v') w') :
    if Region.wanted o (yielded ops a.tmps) = true then Oper.wp Tryz.prog o a w K Q else E := by
  subst hm
  have hw : Region.wanted o (yielded ops a.tmps) = true := by simp [Region.wanted, hg]
  rw [if_pos hw]
  obtain ⟨i, hii, hz0, hz1, hz2⟩ := info9
  refine wp_append_own w s x 43 ho B 9 i (.string ⟨#[]⟩) 1 16 Tryz.underlying43 hii hz0 hz1 hz2 rfl (by decide) v l.length (l.map Value.string) hs hown ad ys.length c (ys.map Value.string) hx (by simp) ?_ ?_ ?_ ?_ hB ?_
  · intro j u hj
    obtain ⟨hlt, he⟩ := List.getElem?_eq_some_iff.1 hj
    simp at hlt he
    rw [← he]
    exact hnews j hlt
  · intro u hu
    obtain ⟨y, _, rfl⟩ := List.mem_map.1 hu
    rfl
  · unfold maxLen; omega
  · omega
  · intro v' w' h1 h2 h3
    refine hK v' w' ?_ ((Below.refl _ w).grown h2 hB (OwnS.block hown)) h2 h3
    unfold OwnS
    rw [List.map_append, List.length_append]
    exact h1

/-- The beginning of a row of one's own. -/
theorem OwnS.take {B g n cap : Nat} {w : World} {ss : List ByteArray} (h : OwnS B w (.slice (some ⟨g, 0, none⟩) n cap) ss) (k : Nat) (hk : k ≤ ss.length) : OwnS B w (.slice (some ⟨g, 0, none⟩) k cap) (ss.take k) := by
  rcases h.2 with ⟨hv, h0⟩ | ⟨g', cap', cur, hv, hB, hg, h1, h2, h3, h4⟩
  · simp at hv
  · simp at hv
    obtain ⟨rfl, rfl, rfl⟩ := hv
    have hkl : (ss.take k).length = k := by rw [List.length_take]; omega
    unfold OwnS
    rw [hkl]
    refine ⟨by rw [List.length_map, hkl]; omega, .inr ⟨g, cap, cur, rfl, hB, hg, by omega, h2, h3, ?_⟩⟩
    rw [List.map_take, ← h4, List.take_take]
    congr 1
    omega
theorem OwnS.lt {B g n cap : Nat} {w : World} {ss : List ByteArray} (h : OwnS B w (.slice (some ⟨g, 0, none⟩) n cap) ss) : g < w.heap.size := by
  rcases h.2 with ⟨hv, h0⟩ | ⟨g', cap', cur, hv, hB, hg, h1, h2, h3, h4⟩
  · simp at hv
  · simp at hv
    obtain ⟨rfl, rfl, rfl⟩ := hv
    exact (Array.getElem?_eq_some_iff.1 hg).1
theorem OwnS.cap {B g n cap : Nat} {w : World} {ss : List ByteArray} (h : OwnS B w (.slice (some ⟨g, 0, none⟩) n cap) ss) : n ≤ cap ∧ cap ≤ maxLen := by
  rcases h.2 with ⟨hv, h0⟩ | ⟨g', cap', cur, hv, hB, hg, h1, h2, h3, h4⟩
  · simp at hv
  · simp at hv
    obtain ⟨rfl, rfl, rfl⟩ := hv
    exact ⟨h1, h2⟩
theorem OwnS.shaped {B n : Nat} {w : World} {v : Value} {ss : List ByteArray} (h : OwnS B w v ss) (hn : ss.length = n) (hne : v ≠ .slice none 0 0) : ∃ g c, v = .slice (some ⟨g, 0, none⟩) n c ∧ B ≤ g := by
  rcases h.2 with ⟨hv, h0⟩ | ⟨g', cap', cur, hv, hB, hg, h1, h2, h3, h4⟩
  · exact absurd hv hne
  · exact ⟨g', cap', by rw [hv, hn], hB⟩
theorem OwnS.cells {B g n c : Nat} {w : World} {ss : List ByteArray} (h : OwnS B w (.slice (some ⟨g, 0, none⟩) n c) ss) : ∀ j (hj : j < ss.length), w.cell? ⟨g, j, none⟩ = some (.string ss[j]) := by
  intro j hj
  obtain ⟨a3, c3, hv, hc⟩ := h.value
  obtain ⟨g', hg', hcc⟩ := hc (by omega)
  subst hg'
  simp only [Value.slice.injEq, Option.some.injEq, Addr.mk.injEq, and_true] at hv
  obtain ⟨rfl, _, _⟩ := hv
  exact hcc j hj
theorem add_at (g o j : Nat) : (⟨g, o, none⟩ : Addr).add j = ⟨g, o + j, none⟩ := by unfold Addr.add; split <;> simp_all
theorem OwnS.kept {B g n c : Nat} {w w' : World} {ss : List ByteArray} {o : Option Nat} (h : OwnS B w (.slice (some ⟨g, 0, none⟩) n c) ss) (hgr : w.grownBy w' o) (hne : some g ≠ o) : OwnS B w' (.slice (some ⟨g, 0, none⟩) n c) ss := by
  have hlt := h.lt
  obtain ⟨hl, h⟩ := h
  refine ⟨hl, ?_⟩
  rcases h with h | ⟨g', cap', cur, hv, hB, hg, h1⟩
  · exact .inl h
  · refine .inr ⟨g', cap', cur, hv, hB, ?_, h1⟩
    simp only [Value.slice.injEq, Option.some.injEq, Addr.mk.injEq, and_true] at hv
    obtain ⟨rfl, _, _⟩ := hv
    rw [hgr.block g hlt hne]; exact hg

/-- How many texts at the beginning are less. -/
def lowsN (ss : List ByteArray) (t : ByteArray) : Nat := (ss.takeWhile (fun x => lessB x t)).length
def sortStep (ss : List ByteArray) (t : ByteArray) : List ByteArray := if hasB ss t then ss else (ss.take (lowsN ss t) ++ [t]) ++ ss.drop (lowsN ss t)
def sortB (l : List ByteArray) : List ByteArray := l.foldl sortStep []
theorem lows_at (ss : List ByteArray) (t : ByteArray) (j : Nat) (h1 : ∀ i (hi : i < ss.length), i < j → lessB ss[i] t = true) (h2 : j ≤ ss.length) (h3 : ∀ hj : j < ss.length, lessB ss[j] t = false) : lowsN ss t = j := by
  unfold lowsN
  induction ss generalizing j with
  | nil => simp at h2; simp [h2]
  | cons a r ih =>
    cases j with
    | zero =>
      have := h3 (by simp)
      simp at this
      simp [this]
    | succ j =>
      have ha := h1 0 (by simp) (by omega)
      simp at ha
      simp only [List.takeWhile_cons, ha, if_true, List.length_cons]
      rw [ih j (fun i hi hij => by have := h1 (i + 1) (by simpa using hi) (by omega); simpa using this) (by simpa using h2) (fun hj => by have := h3 (by simpa using hj); simpa using this)]

set_option maxRecDepth 100000 in
set_option maxHeartbeats 4000000 in
theorem specSort {B : Nat} {l : List ByteArray} {v : Value} {w : World} (h : OwnS B w v l) (hl : l.length ≤ 100000) :
    Calls Tryz.prog 50 #[v] w fun e w' => (∃ p, e = .returned p ∧ OwnS w.heap.size w' p (sortB l)) ∧ Below w.heap.size w w' := by
  obtain ⟨a, cap, rfl, hc⟩ := h.value
  have HC : Hid _ := hc
  clear hc h
  unfold sortB
  obtain ⟨F, hF⟩ : ∃ F, l.foldl sortStep [] = F := ⟨_, rfl⟩
  have HF : Hid (l.foldl sortStep [] = F) := hF
  rw [hF]
  clear hF
  go_enter Tryz.func50, Tryz.ntmps50
  go_wp2_with fail
  go_loopw [3, 4] (fun i3 i4 wr => ∃ (k g cp : Nat) (out : List ByteArray), i4 = .int .i64 (k : Int) ∧ i3 = .slice (some ⟨g, 0, none⟩) out.length cp ∧ k ≤ l.length ∧ out.length ≤ k ∧ OwnS w.heap.size wr (.slice (some ⟨g, 0, none⟩) out.length cp) out ∧ (l.drop k).foldl sortStep out = F ∧ Below w.heap.size w wr) (fun _ i4 _ => l.length - (intOf i4).toNat)
  case atStart => exact ⟨0, w.heap.size, 0, [], rfl, rfl, by omega, by simp, ⟨rfl, .inr ⟨w.heap.size, 0, #[], rfl, Nat.le_refl _, heap_alloc_last w _, Nat.le_refl _, Nat.zero_le _, rfl, rfl⟩⟩, HF, (Below.refl _ w).alloc (Nat.le_refl _) _⟩
  case round =>
    obtain ⟨k, g, cp, out, rfl, rfl, hk, hok, hown, hfold, hb⟩ := hrel
    obtain ⟨wo, hwo⟩ : ∃ wo, wo = wr := ⟨_, rfl⟩
    subst hwo
    have HOW : Hid (OwnS w.heap.size wo (.slice (some ⟨g, 0, none⟩) out.length cp) out) := hown
    have HFO : Hid ((l.drop k).foldl sortStep out = F) := hfold
    have HBL : Hid (Below w.heap.size w wo) := hb
    clear hown hfold
    by_cases hkn : k < l.length
    · have hkn' : (k : Int) < (l.length : Int) := by omega
      obtain ⟨gl, rfl, hcell⟩ := HC.out (by omega)
      have y0 := hcell k hkn
      have hglt : gl < w.heap.size := by
        cases hh : w.heap[gl]? with
        | none => simp [World.cell?, hh] at y0
        | some o => exact (Array.getElem?_eq_some_iff.1 hh).1
      have f0 := (hb.cell (p := ⟨gl, k, none⟩) hglt).trans y0
      have hnx : (l.drop (k + 1)).foldl sortStep (sortStep out l[k]) = F := by
        have := HFO.out
        rw [List.drop_eq_getElem_cons hkn, List.foldl_cons] at this
        exact this
      obtain ⟨t, ht⟩ : ∃ t, l[k] = t := ⟨_, rfl⟩
      rw [ht] at y0 f0 hnx
      have HNX : Hid ((l.drop (k + 1)).foldl sortStep (sortStep out t) = F) := hnx
      clear hnx ht hcell HFO
      obtain ⟨a3, c3, hv3, hs3⟩ := HOW.out.value
      simp only [Value.slice.injEq, true_and] at hv3
      obtain ⟨rfl, rfl⟩ := hv3
      have ch := specHas out t (some ⟨g, 0, none⟩) cp wo (by omega) hs3
      have HS3 : Hid _ := hs3
      obtain ⟨G, hG⟩ : ∃ G, hasB out t = G := ⟨_, rfl⟩
      rw [hG] at ch
      have HG : Hid (hasB out t = G) := hG
      clear hG hs3
      cases G
      · go_wp2_with (go_at_call 49; go_must (refine ch.mono ?_; rintro e w2 ⟨rfl, rfl⟩))
        go_loopw [5] (fun i5 wz => ∃ j : Nat, i5 = .int .i64 (j : Int) ∧ j ≤ out.length ∧ (∀ i (hi : i < out.length), i < j → lessB out[i] t = true) ∧ Below wo.heap.size wo wz) (fun i5 _ => out.length - (intOf i5).toNat)
        case atStart => exact ⟨0, rfl, by omega, fun i _ h => by omega, Below.refl _ _⟩
        case round =>
          obtain ⟨j, rfl, hj, hja, hbz⟩ := hrel
          have HJA : Hid (∀ i (hi : i < out.length), i < j → lessB out[i] t = true) := hja
          clear hja
          have hbw := good_below HBL.out hbz
          have f1 := (hbw.cell (p := ⟨gl, k, none⟩) hglt).trans y0
          by_cases hjn : j < out.length
          · have hjn' : (j : Int) < (out.length : Int) := by omega
            obtain ⟨g', hg', hcc⟩ := HS3.out (by omega)
            simp only [Option.some.injEq, Addr.mk.injEq, and_true] at hg'
            subst hg'
            have hgw : g < wo.heap.size := HOW.out.lt
            have f2 := (hbz.cell (p := ⟨g, j, none⟩) hgw).trans (hcc j hjn)
            obtain ⟨x, hx⟩ : ∃ x, out[j] = x := ⟨_, rfl⟩
            rw [hx] at f2
            have HX : Hid (out[j] = x) := hx
            clear hx hcc
            cases hless : Go.Op.bytesLess x.toList t.toList
            · go_wp2_with fail
              go_quiet (fail)
              have hlow : lowsN out t = j := lows_at out t j HJA.out hj (fun hj2 => by rw [HX.out]; exact hless)
              have HLOW : Hid (lowsN out t = j) := hlow
              clear hlow
              have hcp := HOW.out.cap
              have hcp1 : (j : Int) ≤ (cp : Int) := by omega
              have hcp2 : (cp : Int) ≤ 9223372036854775807 := by have := hcp.2; simp [maxLen] at this; omega
              have hj' : (j : Int) ≤ (out.length : Int) := by omega
              obtain ⟨ti, hti, ht0, ht1, ht2⟩ := info9
              have hbq := bel_drewN hbz nq
              have hbq2 := good_below HBL.out hbq
              have HBQ : Hid (Below wo.heap.size wo (wr.drewN nq)) := hbq
              have HBQ2 : Hid (Below w.heap.size w (wr.drewN nq)) := hbq2
              clear hbq hbq2
              have hsz0 : (wr.drewN nq).heap.size = wr.heap.size := rfl
              go_wp2_with (at_builtin; go_must (refine wpList_appendSm rfl (.tmp 37) (.tmp 40) 43 rfl Tryz.underlying43 ti hti ht0 ht1 ht2 wr.heap.size (.slice (some ⟨wr.heap.size, 0, none⟩) 0 0) [] rfl ⟨rfl, .inr ⟨wr.heap.size, 0, #[], rfl, Nat.le_refl _, heap_alloc_last (wr.drewN nq) _, Nat.le_refl _, Nat.zero_le _, rfl, rfl⟩⟩ ⟨g, j, none⟩ (cp - j) (out.drop j) (out.length - j) (by simp) rfl (fun i hi => by rw [add_at]; simp at hi; have := ((HOW.out.below HBQ.out).below ((Below.refl _ _).alloc (Nat.le_refl _) (.cells #[] 9))).cells (j + i) (by omega); rw [this]; simp) (by simp; omega) (by simp) ?_; intro v4 w4 hown4 hB4 hgr4 hnil4; obtain ⟨g4, c4, rfl, hg4⟩ := hown4.shaped (n := out.length - j) (by simp) (fun e => by have := hnil4.1 e; simp at this)))
              have hb4 : Below wo.heap.size wo w4 := ((HBQ.out.alloc HBQ.out.size _).trans (hB4.mono hbz.size))
              have hB4' := good_below HBL.out hb4
              have f4 := (hB4'.cell (p := ⟨gl, k, none⟩) hglt).trans y0
              have ht4 := (HOW.out.below hb4).take j hj
              have HT4 : Hid (OwnS w.heap.size w4 (.slice (some ⟨g, 0, none⟩) j cp) (out.take j)) := ht4
              have hn4 : OwnS wr.heap.size w4 (.slice (some ⟨g4, 0, none⟩) (out.length - j) c4) (out.drop j) := by simpa using hown4
              have HN4 : Hid (OwnS wr.heap.size w4 (.slice (some ⟨g4, 0, none⟩) (out.length - j) c4) (out.drop j)) := hn4
              have hg4ne : some g4 ≠ some g := fun e => by injection e with e; have := hbz.size; have := HOW.out.lt; omega
              have HG4 : Hid (some g4 ≠ some g) := hg4ne
              have HB4 : Hid (Below w.heap.size w w4) := hB4'
              have hws : w.heap.size ≤ w4.heap.size := hB4'.size
              have hst : sortStep out t = (out.take j ++ [t]) ++ out.drop j := by unfold sortStep; rw [HG.out, HLOW.out]; rfl
              have HST : Hid (sortStep out t = (out.take j ++ [t]) ++ out.drop j) := hst
              have hsl : ((out.take j ++ [t]) ++ out.drop j).length = out.length + 1 := by simp; omega
              have HSL : Hid (((out.take j ++ [t]) ++ out.drop j).length = out.length + 1) := hsl
              clear hb4 hB4' ht4 hn4 hg4ne hown4 hB4 hgr4 hnil4 hst hsl hbz f1 ch hb HBQ HBQ2 hcp
              go_region_law (first
                | (refine step_appendSm rfl (.tmp 44) (.tmp 49) rfl w.heap.size (.slice (some ⟨g, 0, none⟩) j cp) (out.take j) (by simp [Act.eval]) (HT4.out.below (((Below.refl _ w4).alloc (Nat.le_refl _) _).drew)) ⟨w4.heap.size, 0, none⟩ 1 [t] 1 rfl (by simp [Act.eval]) (fun i hi => by have : i = 0 := (by simpa using hi); subst this; exact new_cell w4 t) (by simp; omega) (by simp; omega) ?_; intro v5 w5 hown5 hB5 hgr5 hnil5; have hn5 := (HN4.out.below (((Below.refl _ w4).alloc (Nat.le_refl _) (.cells #[.string t] 9)).drew)).kept hgr5 HG4.out; obtain ⟨g5, c5, rfl, hg5⟩ := hown5.shaped (n := j + 1) (by simp; omega) (fun e => by have := hnil5.1 e; simp at this); have hB5' := ((HB4.out.alloc hws (.cells #[.string t] 9)).drew).trans hB5)
                | (refine step_appendSm rfl (.tmp 50) (.tmp 51) rfl w.heap.size (.slice (some ⟨g5, 0, none⟩) (j + 1) c5) (out.take j ++ [t]) (by simp [Act.eval]) hown5 ⟨g4, 0, none⟩ c4 (out.drop j) (out.length - j) (by simp) (by simp [Act.eval]) (fun i hi => by rw [add_at, Nat.zero_add]; exact hn5.cells i hi) (by simp; omega) hB5'.size ?_; intro v6 w6 hown6 hB6 hgr6 hnil6; obtain ⟨g6, c6, rfl, hg6⟩ := hown6.shaped (n := out.length + 1) HSL.out (fun e => by have := hnil6.1 e; simp at this); have hB6' := hB5'.trans hB6))
              all_goals
                go_wp2_with fail
                exact ⟨⟨k + 1, g6, c6, (out.take j ++ [t]) ++ out.drop j, rfl, by rw [HSL.out], by omega, by rw [HSL.out]; omega, by rw [HSL.out]; exact hown6, by rw [← HST.out]; exact HNX.out, hB6'⟩, by simp [intOf]; omega⟩
            · go_wp2_with fail
              go_quiet (fail)
              go_wp2_with fail
              refine ⟨⟨j + 1, rfl, by omega, fun i hi hij => ?_, bel_drewN hbz _⟩, by simp [intOf]; omega⟩
              by_cases hij2 : i < j
              · exact HJA.out i hi hij2
              · obtain rfl : i = j := by omega
                rw [HX.out]; exact hless
          · have hjn0 : ¬ j < out.length := hjn
            have hjn' : ¬ ((j : Int) < (out.length : Int)) := by omega
            by_cases hcpj : j = cp
            · subst hcpj
              go_wp2_with fail
              go_quiet (fail)
              have hlow : lowsN out t = j := lows_at out t j HJA.out hj (fun hj2 => absurd hj2 hjn0)
              have HLOW : Hid (lowsN out t = j) := hlow
              clear hlow
              have hcp := HOW.out.cap
              have hcp1 : (j : Int) ≤ (j : Int) := by omega
              have hcp2 : (j : Int) ≤ 9223372036854775807 := by have := hcp.2; simp [maxLen] at this; omega
              have hj' : (j : Int) ≤ (out.length : Int) := by omega
              obtain ⟨ti, hti, ht0, ht1, ht2⟩ := info9
              have hbq := bel_drewN hbz nq
              have hbq2 := good_below HBL.out hbq
              have HBQ : Hid (Below wo.heap.size wo (wr.drewN nq)) := hbq
              have HBQ2 : Hid (Below w.heap.size w (wr.drewN nq)) := hbq2
              clear hbq hbq2
              have hsz0 : (wr.drewN nq).heap.size = wr.heap.size := rfl
              go_wp2_with (at_builtin; go_must (refine wpList_appendSm rfl (.tmp 37) (.tmp 40) 43 rfl Tryz.underlying43 ti hti ht0 ht1 ht2 wr.heap.size (.slice (some ⟨wr.heap.size, 0, none⟩) 0 0) [] rfl ⟨rfl, .inr ⟨wr.heap.size, 0, #[], rfl, Nat.le_refl _, heap_alloc_last (wr.drewN nq) _, Nat.le_refl _, Nat.zero_le _, rfl, rfl⟩⟩ ⟨g, 0, none⟩ 0 (out.drop j) 0 (by simp <;> omega) rfl (fun i hi => by simp at hi <;> omega) (by simp <;> omega) (by simp) ?_; intro v4 w4 hown4 hB4 hgr4 hnil4; obtain ⟨g4, c4, rfl, hg4⟩ := hown4.shaped (n := 0) (by simp <;> omega) (fun e => by have := hnil4.1 e; simp at this)))
              have hb4 : Below wo.heap.size wo w4 := ((HBQ.out.alloc HBQ.out.size _).trans (hB4.mono hbz.size))
              have hB4' := good_below HBL.out hb4
              have f4 := (hB4'.cell (p := ⟨gl, k, none⟩) hglt).trans y0
              have ht4 := (HOW.out.below hb4).take j hj
              have HT4 : Hid (OwnS w.heap.size w4 (.slice (some ⟨g, 0, none⟩) j j) (out.take j)) := ht4
              have hn4 : OwnS wr.heap.size w4 (.slice (some ⟨g4, 0, none⟩) 0 c4) (out.drop j) := by simpa using hown4
              have HN4 : Hid (OwnS wr.heap.size w4 (.slice (some ⟨g4, 0, none⟩) 0 c4) (out.drop j)) := hn4
              have hg4ne : some g4 ≠ some g := fun e => by injection e with e; have := hbz.size; have := HOW.out.lt; omega
              have HG4 : Hid (some g4 ≠ some g) := hg4ne
              have HB4 : Hid (Below w.heap.size w w4) := hB4'
              have hws : w.heap.size ≤ w4.heap.size := hB4'.size
              have hst : sortStep out t = (out.take j ++ [t]) ++ out.drop j := by unfold sortStep; rw [HG.out, HLOW.out]; rfl
              have HST : Hid (sortStep out t = (out.take j ++ [t]) ++ out.drop j) := hst
              have hsl : ((out.take j ++ [t]) ++ out.drop j).length = out.length + 1 := by simp; omega
              have HSL : Hid (((out.take j ++ [t]) ++ out.drop j).length = out.length + 1) := hsl
              clear hb4 hB4' ht4 hn4 hg4ne hown4 hB4 hgr4 hnil4 hst hsl hbz f1 ch hb HBQ HBQ2 hcp
              go_region_law (first
                | (refine step_appendSm rfl (.tmp 44) (.tmp 49) rfl w.heap.size (.slice (some ⟨g, 0, none⟩) j j) (out.take j) (by simp [Act.eval]) (HT4.out.below (((Below.refl _ w4).alloc (Nat.le_refl _) _).drew)) ⟨w4.heap.size, 0, none⟩ 1 [t] 1 rfl (by simp [Act.eval]) (fun i hi => by have : i = 0 := (by simpa using hi); subst this; exact new_cell w4 t) (by simp <;> omega) (by simp <;> omega) ?_; intro v5 w5 hown5 hB5 hgr5 hnil5; have hn5 := (HN4.out.below (((Below.refl _ w4).alloc (Nat.le_refl _) (.cells #[.string t] 9)).drew)).kept hgr5 HG4.out; obtain ⟨g5, c5, rfl, hg5⟩ := hown5.shaped (n := j + 1) (by simp <;> omega) (fun e => by have := hnil5.1 e; simp at this); have hB5' := ((HB4.out.alloc hws (.cells #[.string t] 9)).drew).trans hB5)
                | (refine step_appendSm rfl (.tmp 50) (.tmp 51) rfl w.heap.size (.slice (some ⟨g5, 0, none⟩) (j + 1) c5) (out.take j ++ [t]) (by simp [Act.eval]) hown5 ⟨g4, 0, none⟩ c4 (out.drop j) 0 (by simp <;> omega) (by simp [Act.eval]) (fun i hi => by rw [add_at, Nat.zero_add]; exact hn5.cells i hi) (by simp <;> omega) hB5'.size ?_; intro v6 w6 hown6 hB6 hgr6 hnil6; obtain ⟨g6, c6, rfl, hg6⟩ := hown6.shaped (n := out.length + 1) HSL.out (fun e => by have := hnil6.1 e; simp at this); have hB6' := hB5'.trans hB6))
              all_goals
                go_wp2_with fail
                exact ⟨⟨k + 1, g6, c6, (out.take j ++ [t]) ++ out.drop j, rfl, by rw [HSL.out], by omega, by rw [HSL.out]; omega, by rw [HSL.out]; exact hown6, by rw [← HST.out]; exact HNX.out, hB6'⟩, by simp [intOf]; omega⟩
            · have hcpj2 : ¬ cp = j := fun e => hcpj e.symm
              go_wp2_with fail
              go_quiet (fail)
              have hlow : lowsN out t = j := lows_at out t j HJA.out hj (fun hj2 => absurd hj2 hjn0)
              have HLOW : Hid (lowsN out t = j) := hlow
              clear hlow
              have hcp := HOW.out.cap
              have hcp1 : (j : Int) ≤ (cp : Int) := by omega
              have hcp2 : (cp : Int) ≤ 9223372036854775807 := by have := hcp.2; simp [maxLen] at this; omega
              have hj' : (j : Int) ≤ (out.length : Int) := by omega
              obtain ⟨ti, hti, ht0, ht1, ht2⟩ := info9
              have hbq := bel_drewN hbz nq
              have hbq2 := good_below HBL.out hbq
              have HBQ : Hid (Below wo.heap.size wo (wr.drewN nq)) := hbq
              have HBQ2 : Hid (Below w.heap.size w (wr.drewN nq)) := hbq2
              clear hbq hbq2
              have hsz0 : (wr.drewN nq).heap.size = wr.heap.size := rfl
              go_wp2_with (at_builtin; go_must (refine wpList_appendSm rfl (.tmp 37) (.tmp 40) 43 rfl Tryz.underlying43 ti hti ht0 ht1 ht2 wr.heap.size (.slice (some ⟨wr.heap.size, 0, none⟩) 0 0) [] rfl ⟨rfl, .inr ⟨wr.heap.size, 0, #[], rfl, Nat.le_refl _, heap_alloc_last (wr.drewN nq) _, Nat.le_refl _, Nat.zero_le _, rfl, rfl⟩⟩ ⟨g, j, none⟩ (cp - j) (out.drop j) (out.length - j) (by simp) rfl (fun i hi => by simp at hi; omega) (by simp; omega) (by simp) ?_; intro v4 w4 hown4 hB4 hgr4 hnil4; obtain ⟨g4, c4, rfl, hg4⟩ := hown4.shaped (n := out.length - j) (by simp) (fun e => by have := hnil4.1 e; simp at this)))
              have hb4 : Below wo.heap.size wo w4 := ((HBQ.out.alloc HBQ.out.size _).trans (hB4.mono hbz.size))
              have hB4' := good_below HBL.out hb4
              have f4 := (hB4'.cell (p := ⟨gl, k, none⟩) hglt).trans y0
              have ht4 := (HOW.out.below hb4).take j hj
              have HT4 : Hid (OwnS w.heap.size w4 (.slice (some ⟨g, 0, none⟩) j cp) (out.take j)) := ht4
              have hn4 : OwnS wr.heap.size w4 (.slice (some ⟨g4, 0, none⟩) (out.length - j) c4) (out.drop j) := by simpa using hown4
              have HN4 : Hid (OwnS wr.heap.size w4 (.slice (some ⟨g4, 0, none⟩) (out.length - j) c4) (out.drop j)) := hn4
              have hg4ne : some g4 ≠ some g := fun e => by injection e with e; have := hbz.size; have := HOW.out.lt; omega
              have HG4 : Hid (some g4 ≠ some g) := hg4ne
              have HB4 : Hid (Below w.heap.size w w4) := hB4'
              have hws : w.heap.size ≤ w4.heap.size := hB4'.size
              have hst : sortStep out t = (out.take j ++ [t]) ++ out.drop j := by unfold sortStep; rw [HG.out, HLOW.out]; rfl
              have HST : Hid (sortStep out t = (out.take j ++ [t]) ++ out.drop j) := hst
              have hsl : ((out.take j ++ [t]) ++ out.drop j).length = out.length + 1 := by simp; omega
              have HSL : Hid (((out.take j ++ [t]) ++ out.drop j).length = out.length + 1) := hsl
              clear hb4 hB4' ht4 hn4 hg4ne hown4 hB4 hgr4 hnil4 hst hsl hbz f1 ch hb HBQ HBQ2 hcp
              go_region_law (first
                | (refine step_appendSm rfl (.tmp 44) (.tmp 49) rfl w.heap.size (.slice (some ⟨g, 0, none⟩) j cp) (out.take j) (by simp [Act.eval]) (HT4.out.below (((Below.refl _ w4).alloc (Nat.le_refl _) _).drew)) ⟨w4.heap.size, 0, none⟩ 1 [t] 1 rfl (by simp [Act.eval]) (fun i hi => by have : i = 0 := (by simpa using hi); subst this; exact new_cell w4 t) (by simp; omega) (by simp; omega) ?_; intro v5 w5 hown5 hB5 hgr5 hnil5; have hn5 := (HN4.out.below (((Below.refl _ w4).alloc (Nat.le_refl _) (.cells #[.string t] 9)).drew)).kept hgr5 HG4.out; obtain ⟨g5, c5, rfl, hg5⟩ := hown5.shaped (n := j + 1) (by simp; omega) (fun e => by have := hnil5.1 e; simp at this); have hB5' := ((HB4.out.alloc hws (.cells #[.string t] 9)).drew).trans hB5)
                | (refine step_appendSm rfl (.tmp 50) (.tmp 51) rfl w.heap.size (.slice (some ⟨g5, 0, none⟩) (j + 1) c5) (out.take j ++ [t]) (by simp [Act.eval]) hown5 ⟨g4, 0, none⟩ c4 (out.drop j) (out.length - j) (by simp) (by simp [Act.eval]) (fun i hi => by rw [add_at, Nat.zero_add]; exact hn5.cells i hi) (by simp; omega) hB5'.size ?_; intro v6 w6 hown6 hB6 hgr6 hnil6; obtain ⟨g6, c6, rfl, hg6⟩ := hown6.shaped (n := out.length + 1) HSL.out (fun e => by have := hnil6.1 e; simp at this); have hB6' := hB5'.trans hB6))
              all_goals
                go_wp2_with fail
                exact ⟨⟨k + 1, g6, c6, (out.take j ++ [t]) ++ out.drop j, rfl, by rw [HSL.out], by omega, by rw [HSL.out]; omega, by rw [HSL.out]; exact hown6, by rw [← HST.out]; exact HNX.out, hB6'⟩, by simp [intOf]; omega⟩
      · go_wp2_with (go_at_call 49; go_must (refine ch.mono ?_; rintro e w2 ⟨rfl, rfl⟩))
        exact ⟨⟨k + 1, g, cp, out, rfl, rfl, by omega, by omega, HOW.out, by have := HNX.out; unfold sortStep at this; rwa [HG.out] at this, hb⟩, by simp [intOf]; omega⟩
    · have hkn' : ¬ ((k : Int) < (l.length : Int)) := by omega
      go_wp2_with fail
      go_ret
      have := HFO.out
      rw [List.drop_eq_nil_of_le (by omega)] at this
      simp at this
      subst this
      exact ⟨⟨_, rfl, HOW.out⟩, hb⟩
/-- The row rises. -/
def Rises (l : List ByteArray) : Prop := l.Pairwise fun x y => lessB x y = true
theorem hasB_mem (l : List ByteArray) (t : ByteArray) : hasB l t = true ↔ t ∈ l := by
  unfold hasB
  rw [List.any_eq_true]
  constructor
  · rintro ⟨x, hx, he⟩
    rw [beq_bytes, decide_eq_true_eq] at he
    exact he ▸ hx
  · intro h
    exact ⟨t, h, by simp⟩
theorem lows_split {ss : List ByteArray} (h : Rises ss) (t : ByteArray) : (∀ x ∈ ss.take (lowsN ss t), lessB x t = true) ∧ ∀ x ∈ ss.drop (lowsN ss t), lessB x t = false := by
  induction ss with
  | nil => simp [lowsN]
  | cons a r ih =>
    obtain ⟨h1, h2⟩ := List.pairwise_cons.1 h
    unfold lowsN
    cases ha : lessB a t
    · rw [List.takeWhile_cons_of_neg (by simp [ha])]
      simp only [List.length_nil, List.take_zero, List.drop_zero]
      refine ⟨by simp, fun x hx => ?_⟩
      rcases List.mem_cons.1 hx with rfl | hx
      · exact ha
      · cases hxt : lessB x t
        · rfl
        · exact absurd (lessB_trans (h1 x hx) hxt) (by simp [ha])
    · rw [List.takeWhile_cons_of_pos (by simp [ha])]
      obtain ⟨i1, i2⟩ := ih h2
      simp only [List.length_cons, List.take_succ_cons, List.drop_succ_cons]
      refine ⟨fun x hx => ?_, i2⟩
      rcases List.mem_cons.1 hx with rfl | hx
      · exact ha
      · exact i1 x hx
theorem sortStep_ok {ss : List ByteArray} (h : Rises ss) (t : ByteArray) : Rises (sortStep ss t) ∧ ∀ x, x ∈ sortStep ss t ↔ x ∈ ss ∨ x = t := by
  unfold sortStep
  cases hh : hasB ss t
  · rw [if_neg (by simp)]
    obtain ⟨h1, h2⟩ := lows_split h t
    have hnm : t ∉ ss := fun hm => by rw [(hasB_mem ss t).2 hm] at hh; cases hh
    have hsp : ss = ss.take (lowsN ss t) ++ ss.drop (lowsN ss t) := (List.take_append_drop _ _).symm
    have hp := h
    unfold Rises at hp
    rw [hsp, List.pairwise_append] at hp
    obtain ⟨p1, p2, p3⟩ := hp
    have hgt : ∀ x ∈ ss.drop (lowsN ss t), lessB t x = true := fun x hx => by
      rcases lessB_total (x := t) (y := x) (fun e => hnm (e ▸ List.mem_of_mem_drop hx)) with q | q
      · exact q
      · rw [h2 x hx] at q; cases q
    refine ⟨?_, fun x => ?_⟩
    · unfold Rises
      rw [List.pairwise_append]
      refine ⟨?_, p2, fun a ha b hb => ?_⟩
      · rw [List.pairwise_append]
        exact ⟨p1, by simp, fun a ha b hb => by simp at hb; subst hb; exact h1 a ha⟩
      · rcases List.mem_append.1 ha with ha | ha
        · exact p3 a ha b hb
        · simp at ha; subst ha; exact hgt b hb
    · conv => rhs; rw [hsp]
      simp only [List.mem_append, List.mem_singleton]
      constructor
      · rintro ((h | h) | h)
        · exact .inl (.inl h)
        · exact .inr h
        · exact .inl (.inr h)
      · rintro ((h | h) | h)
        · exact .inl (.inl h)
        · exact .inr h
        · exact .inl (.inr h)
  · rw [if_pos rfl]
    refine ⟨h, fun x => ⟨.inl, ?_⟩⟩
    rintro (h | rfl)
    · exact h
    · exact (hasB_mem _ _).1 hh
theorem sort_fold (l : List ByteArray) : ∀ ss, Rises ss → Rises (l.foldl sortStep ss) ∧ ∀ x, x ∈ l.foldl sortStep ss ↔ x ∈ ss ∨ x ∈ l := by
  induction l with
  | nil => intro ss h; exact ⟨h, by simp⟩
  | cons a r ih =>
    intro ss h
    obtain ⟨h1, h2⟩ := sortStep_ok h a
    obtain ⟨h3, h4⟩ := ih _ h1
    refine ⟨h3, fun x => ?_⟩
    rw [List.foldl_cons, h4, h2]
    simp only [List.mem_cons]
    constructor
    · rintro ((h | h) | h)
      · exact .inl h
      · exact .inr (.inl h)
      · exact .inr (.inr h)
    · rintro (h | h | h)
      · exact .inl (.inl h)
      · exact .inl (.inr h)
      · exact .inr h
theorem sortB_rises (l : List ByteArray) : Rises (sortB l) := (sort_fold l [] (by simp [Rises])).1
theorem sortB_mem (l : List ByteArray) (x : ByteArray) : x ∈ sortB l ↔ x ∈ l := by
  have := (sort_fold l [] (by simp [Rises])).2 x
  unfold sortB
  rw [this]
  simp
/-- Two rows that rise and have the same texts are one. -/
theorem rises_eq : ∀ {a b : List ByteArray}, Rises a → Rises b → (∀ x, x ∈ a ↔ x ∈ b) → a = b
  | [], [], _, _, _ => rfl
  | [], y :: b, _, _, h => absurd ((h y).2 (by simp)) (by simp)
  | x :: a, [], _, _, h => absurd ((h x).1 (by simp)) (by simp)
  | x :: a, y :: b, ha, hb, h => by
    obtain ⟨a1, a2⟩ := List.pairwise_cons.1 ha
    obtain ⟨b1, b2⟩ := List.pairwise_cons.1 hb
    have hxy : x = y := by
      rcases List.mem_cons.1 ((h x).1 (by simp)) with e | e
      · exact e
      · rcases List.mem_cons.1 ((h y).2 (by simp)) with e2 | e2
        · exact e2.symm
        · have q := lessB_trans (a1 y e2) (b1 x e)
          rw [lessB_irrefl] at q; cases q
    subst hxy
    congr 1
    refine rises_eq a2 b2 (fun z => ?_)
    have hz := h z
    simp only [List.mem_cons] at hz
    constructor
    · intro hm
      rcases hz.1 (.inr hm) with e | e
      · subst e; have q := a1 z hm; rw [lessB_irrefl] at q; cases q
      · exact e
    · intro hm
      rcases hz.2 (.inr hm) with e | e
      · subst e; have q := b1 z hm; rw [lessB_irrefl] at q; cases q
      · exact e
theorem sortB_eq {a b : List ByteArray} (h : ∀ x, x ∈ a ↔ x ∈ b) : sortB a = sortB b :=
  rises_eq (sortB_rises a) (sortB_rises b) (fun x => by rw [sortB_mem, sortB_mem, h])
theorem sortB_id {a : List ByteArray} (h : Rises a) : sortB a = a := rises_eq (sortB_rises a) h (sortB_mem a)

theorem txts_row (l : List ByteArray) : TxtsRow l = l.map Value.string := by
  unfold TxtsRow TxtsCells
  induction l with
  | nil => rfl
  | cons a t ih => rw [List.flatMap_cons, ih]; rfl
theorem OwnTxts.toS {B : Nat} {w : World} {v : Value} {l : List ByteArray} (h : OwnTxts B w v l) : OwnS B w v l := by
  unfold OwnS; unfold OwnTxts at h; rw [txts_row] at h; exact h
theorem OwnS.toT {B : Nat} {w : World} {v : Value} {l : List ByteArray} (h : OwnS B w v l) : OwnTxts B w v l := by
  unfold OwnS at h; unfold OwnTxts; rw [txts_row]; exact h
end Go.Proofs.YtoopdcbgnccmiaaGreatDoor

namespace Go.Proofs.YtoopdcbgnccmiaaGreatDoor
open Go.ChangeShapes Go.WideShapes Go.ChangeAt Go.RowKit Go.Maps
set_option linter.unusedVariables false

def lookS (l : List Setting) (p : ByteArray) : Option Setting := l.find? fun s => s.path.toList == p.toList
def textOf (l : List Setting) (p : ByteArray) : ByteArray := match lookS l p with
  | some s => s.text
  | none => ⟨#[]⟩
def seenB (paths : List ByteArray) (p : ByteArray) : Bool := paths.any fun q => withinB p q
def chg (a b : List Setting) (paths : List ByteArray) (p : ByteArray) : Option Change := if seenB paths p && !((textOf a p).toList == (textOf b p).toList) then some ⟨p, textOf a p, textOf b p⟩ else none
def bothPaths (a b : List Setting) : List ByteArray := sortB (a.map Setting.path ++ b.map Setting.path)
def changesF (a b : List Setting) (paths : List ByteArray) : List Change := (bothPaths a b).filterMap (chg a b paths)
def longW (old late : List Layer) (paths : List ByteArray) : Bool := decide (4096 < old.length) || decide (4096 < late.length) || decide (4096 < paths.length)
def rightW (old late : List Layer) (paths : List ByteArray) : Bool := layersB nameOK old && layersB nameOK late && paths.all (pathB nameOK)
def watchL (old late : List Layer) (paths : List ByteArray) : List Change := if longW old late paths then [] else if rightW old late paths then changesF (laidF (overP old)) (laidF (overP late)) paths else []
def watchC (old late : List Layer) (paths : List ByteArray) : Int := if longW old late paths then 2 else if rightW old late paths then 0 else 1
theorem filterMap_len {α β : Type} (f : α → Option β) : ∀ l : List α, (l.filterMap f).length ≤ l.length
  | [] => by simp
  | x :: l => by
    have := filterMap_len f l
    rw [List.filterMap_cons]
    split
    · simp; omega
    · simp; omega
theorem sortStep_len (ss : List ByteArray) (t : ByteArray) : (sortStep ss t).length ≤ ss.length + 1 := by
  unfold sortStep
  split
  · omega
  · simp; omega
theorem sortFold_len : ∀ (l ss : List ByteArray), (l.foldl sortStep ss).length ≤ ss.length + l.length
  | [], ss => by simp
  | x :: l, ss => by
    have h1 := sortFold_len l (sortStep ss x)
    have h2 := sortStep_len ss x
    rw [List.foldl_cons, List.length_cons]
    omega
theorem sortB_len (l : List ByteArray) : (sortB l).length ≤ l.length := by
  have := sortFold_len l []
  unfold sortB
  simpa using this
theorem both_len (a b : List Setting) : (bothPaths a b).length ≤ a.length + b.length := by
  have := sortB_len (a.map Setting.path ++ b.map Setting.path)
  unfold bothPaths
  simpa using this
theorem watch_len (old late : List Layer) (paths : List ByteArray) : (watchL old late paths).length ≤ 1000000 := by
  unfold watchL
  split
  · simp
  · split
    · rename_i h
      unfold rightW at h
      simp only [Bool.and_eq_true] at h
      have h1 := laid_len h.1.1
      have h2 := laid_len h.1.2
      have h3 := both_len (laidF (overP old)) (laidF (overP late))
      have h4 := filterMap_len (chg (laidF (overP old)) (laidF (overP late)) paths) (bothPaths (laidF (overP old)) (laidF (overP late)))
      unfold changesF
      omega
    · simp
/-! Two rows as one. -/
theorem lookS_is {f : ByteArray → Option Setting} {l : List Setting} (h : IsOf f l) (p : ByteArray) : lookS l p = f p := by
  cases hf : f p with
  | none =>
    unfold lookS
    rw [List.find?_eq_none]
    intro s hs hp
    rw [beq_bytes, decide_eq_true_eq] at hp
    have := (h p s).2 ⟨hs, hp⟩
    rw [hf] at this; cases this
  | some s =>
    have h1 := (h p s).1 hf
    unfold lookS
    cases hl : l.find? (fun s => s.path.toList == p.toList) with
    | none =>
      rw [List.find?_eq_none] at hl
      have := hl s h1.1
      rw [h1.2] at this
      simp at this
    | some t =>
      have ht := List.find?_some hl
      rw [beq_bytes, decide_eq_true_eq] at ht
      have := (h p t).2 ⟨List.mem_of_find?_eq_some hl, ht⟩
      rw [hf] at this
      exact this.symm
theorem rises_of {l : List Setting} (h : SRises l) : IsOf (lookS l) l := by
  intro p s
  constructor
  · intro hs
    have h1 := List.find?_some hs
    rw [beq_bytes, decide_eq_true_eq] at h1
    exact ⟨List.mem_of_find?_eq_some hs, h1⟩
  · rintro ⟨h1, rfl⟩
    unfold lookS
    cases hl : l.find? (fun t => t.path.toList == s.path.toList) with
    | none =>
      rw [List.find?_eq_none] at hl
      have := hl s h1
      simp at this
    | some t =>
      have ht := List.find?_some hl
      rw [beq_bytes, decide_eq_true_eq] at ht
      obtain ⟨i, hi, rfl⟩ := List.getElem_of_mem h1
      obtain ⟨j, hj, rfl⟩ := List.getElem_of_mem (List.mem_of_find?_eq_some hl)
      rcases Nat.lt_trichotomy i j with q | q | q
      · have := List.pairwise_iff_getElem.1 h i j hi hj q
        rw [ht, lessB_irrefl] at this; cases this
      · subst q; rfl
      · have := List.pairwise_iff_getElem.1 h j i hj hi q
        rw [ht, lessB_irrefl] at this; cases this
/-- What stands at a path in the later row, or else in the elder one. -/
def eitherS (a b : List Setting) (p : ByteArray) : Option Setting := match lookS b p with
  | some s => some s
  | none => lookS a p
def unionS (a b : List Setting) : List Setting := (bothPaths a b).filterMap (eitherS a b)
theorem look_path {l : List Setting} {p : ByteArray} {s : Setting} (h : lookS l p = some s) : s.path = p ∧ s ∈ l := by
  have h1 := List.find?_some h
  rw [beq_bytes, decide_eq_true_eq] at h1
  exact ⟨h1, List.mem_of_find?_eq_some h⟩
theorem either_path {a b : List Setting} {p : ByteArray} {s : Setting} (h : eitherS a b p = some s) : s.path = p ∧ (s ∈ a ∨ s ∈ b) := by
  unfold eitherS at h
  cases hb : lookS b p with
  | some t => rw [hb] at h; cases h; exact ⟨(look_path hb).1, .inr (look_path hb).2⟩
  | none => rw [hb] at h; exact ⟨(look_path h).1, .inl (look_path h).2⟩
theorem both_mem (a b : List Setting) (p : ByteArray) : p ∈ bothPaths a b ↔ (∃ s ∈ a, s.path = p) ∨ ∃ s ∈ b, s.path = p := by
  unfold bothPaths
  rw [sortB_mem, List.mem_append, List.mem_map, List.mem_map]
theorem either_some {a b : List Setting} (ha : SRises a) (hb : SRises b) {p : ByteArray} (h : p ∈ bothPaths a b) : ∃ s, eitherS a b p = some s := by
  unfold eitherS
  cases hl : lookS b p with
  | some s => exact ⟨s, rfl⟩
  | none =>
    rcases (both_mem a b p).1 h with ⟨s, hs, rfl⟩ | ⟨s, hs, rfl⟩
    · exact ⟨s, (rises_of ha s.path s).2 ⟨hs, rfl⟩⟩
    · rw [(rises_of hb s.path s).2 ⟨hs, rfl⟩] at hl; cases hl
theorem union_of {a b : List Setting} (ha : SRises a) (hb : SRises b) : IsOf (eitherS a b) (unionS a b) := by
  intro p s
  unfold unionS
  rw [List.mem_filterMap]
  constructor
  · intro h
    have h1 := either_path h
    refine ⟨⟨p, (both_mem a b p).2 ?_, h⟩, h1.1⟩
    rcases h1.2 with q | q
    · exact .inl ⟨s, q, h1.1⟩
    · exact .inr ⟨s, q, h1.1⟩
  · rintro ⟨⟨q, _, hq⟩, rfl⟩
    rw [← (either_path hq).1] at hq
    exact hq
theorem filterMap_rises {g : ByteArray → Option Setting} (hg : ∀ p s, g p = some s → s.path = p) : ∀ l : List ByteArray, Rises l → SRises (l.filterMap g)
  | [], _ => List.Pairwise.nil
  | p :: l, h => by
    obtain ⟨h1, h2⟩ := List.pairwise_cons.1 h
    rw [List.filterMap_cons]
    have ih := filterMap_rises hg l h2
    cases hp : g p with
    | none => exact ih
    | some s =>
      refine List.pairwise_cons.2 ⟨fun t ht => ?_, ih⟩
      obtain ⟨q, hq, hqt⟩ := List.mem_filterMap.1 ht
      rw [hg p s hp, hg q t hqt]
      exact h1 q hq
theorem union_rises (a b : List Setting) : SRises (unionS a b) := filterMap_rises (fun p s h => (either_path h).1) _ (sortB_rises _)
theorem map_filterMap {g : ByteArray → Option Setting} (hg : ∀ p s, g p = some s → s.path = p) : ∀ l : List ByteArray, (∀ p ∈ l, ∃ s, g p = some s) → (l.filterMap g).map Setting.path = l
  | [], _ => rfl
  | p :: l, h => by
    obtain ⟨s, hs⟩ := h p (List.mem_cons_self ..)
    rw [List.filterMap_cons, hs, List.map_cons, hg p s hs, map_filterMap hg l (fun q hq => h q (List.mem_cons_of_mem _ hq))]
theorem union_paths {a b : List Setting} (ha : SRises a) (hb : SRises b) : (unionS a b).map Setting.path = bothPaths a b :=
  map_filterMap (fun p s h => (either_path h).1) _ (fun p hp => either_some ha hb hp)
/-- The changes, told along the row of both. -/
theorem changes_union {a b : List Setting} (ha : SRises a) (hb : SRises b) (paths : List ByteArray) : changesF a b paths = (unionS a b).filterMap (fun s => chg a b paths s.path) := by
  unfold changesF
  rw [← union_paths ha hb, List.filterMap_map]
  rfl
theorem union_len (a b : List Setting) : (unionS a b).length ≤ a.length + b.length := by
  have h1 := filterMap_len (eitherS a b) (bothPaths a b)
  have h2 := both_len a b
  unfold unionS
  omega
theorem union_mem {a b : List Setting} {s : Setting} (h : s ∈ unionS a b) : s ∈ a ∨ s ∈ b := by
  obtain ⟨p, _, hp⟩ := List.mem_filterMap.1 h
  exact (either_path hp).2
end Go.Proofs.YtoopdcbgnccmiaaGreatDoor
