/-
  What impl's lay does to a map of settings: its walk. Contracts of the library at this program. Rows of structs that the library sorts. Layers sorted by rank and name: impl.sortByTwo over them; slices.Clone. Layers copied and sorted: slices.SortFunc, impl.byTwo, impl.sortByTwo, slices.Clone over them. What impl's mergedOf makes of layers: its walk. Layers and the slices of their entries; what a Merge answers, plainly. Settings in order: impl's inOrder's comparison. Rows of impl's own settings: many appended. Settings in order: slices.SortFunc over them, impl's inOrder. No statement of the seat is proved here.
-/
import Derived.Test.YtdlopjimheaekaaGreatDoorZj6
import Derived.Deep.RegionHeld3
import Derived.Lib.SliceRun
namespace Go.Proofs.YtdlopjimheaekaaGreatDoor
open Go.ChangeShapes Go.WideShapes Go.ChangeAt Go.RowKit Go.Maps
set_option linter.unusedVariables false

theorem below_grown {w w' : World} (h : Below w.heap.size w w') : w.grownBy w' none := ⟨h.1, h.2, h.3, h.4, fun i hi _ => h.5 i hi⟩
theorem leftF_in {f : ByteArray → Option Setting} {out : List Setting} {e : Entry} {left : Lit → Bool} {x : ByteArray} {c : Setting} (h : IsOf f out) (hx : leftF f e left x = some c) : c ∈ out ∧ c.path = x := by
  unfold leftF at hx
  cases hf : f x with
  | none => rw [hf] at hx; cases hx
  | some s =>
    rw [hf] at hx
    simp only at hx
    split at hx
    · cases hx; exact (h x c).1 hf
    · cases hx
set_option maxRecDepth 100000 in
set_option maxHeartbeats 4000000 in
theorem implLay {w : World} {b n : Nat} {out : List Setting} (h : MapS w b n out) (hr : SRises out) (hsz : ∀ o ∈ out, o.path.size ≤ 1048576) (yp yt nm : ByteArray) (hyp : yp.size ≤ 1048576) (hn : n < 1000000) :
    Calls Tryz.prog 109 #[.map (some b), .agg #[.string yp, .string yt, .string nm]] w fun e w' => e = .returned (.tuple #[]) ∧ MapS w' b (n + 1) (layStep nm out ⟨yp, yt⟩) ∧ w.grownBy w' (some b) := by
  have hlt := h.lt
  obtain ⟨D0, f, hown, hrep, hof⟩ := h
  obtain ⟨w0, hw0⟩ : ∃ w0, w.alloc (.cells #[.string yp, .string yt, .string nm] 131) = w0 := ⟨_, rfl⟩
  have hg00 : w.grownBy w0 none := by rw [← hw0]; exact World.grownBy_alloc w _ none
  have hs00 : w0.heap.size = w.heap.size + 1 := by rw [← hw0]; simp
  have hbk : Blk w0 w.heap.size 131 #[.string yp, .string yt, .string nm] := by rw [← hw0]; exact heap_alloc_last w _
  have hown0 : w0.ownsMap Tryz.prog 9 heldS b n D0 := hown.kept hg00 (by simp)
  have HBK : Hid (Blk w0 w.heap.size 131 #[.string yp, .string yt, .string nm]) := hbk
  have HOF : Hid (IsOf f out) := hof
  have HSZ : Hid (∀ o ∈ out, o.path.size ≤ 1048576) := hsz
  have HST : Hid (Rep D0 (leftF f ⟨yp, yt⟩ (has D0))) := leftF_start hrep _
  have HR : Hid (SRises out) := hr
  have HG00 : Hid (w.grownBy w0 none) := hg00
  obtain ⟨gs, hgs⟩ : ∃ gs, w.heap.size = gs := ⟨_, rfl⟩
  rw [hgs] at HBK hs00
  have HS0 : Hid (w0.heap.size = gs + 1) := hs00
  clear hbk hof hsz hrep hr hg00 hown hs00
  go_enter Tryz.func109, Tryz.ntmps109
  go_upto_region 1 with fail
  go_wp2_with (first
    | (at_range; refine wpList_range_own _ rfl _ 95 rfl 9 131 law9 Tryz.underlying95 _ b n _ rfl hown0 ?_; intro w1 hrg0 hg0 hs0)
    | go_in)
  go_frame
  go_loopw [4] (fun _ wr => ∃ (left : Lit → Bool) (cnt : Nat) (D : DataW Value), wr.ranges Tryz.prog 9 heldS b w0.heap.size n D left cnt ∧ Rep D (leftF f ⟨yp, yt⟩ left) ∧ w0.grownBy wr (some b)) (fun _ wr => wr.rangeLeft b w0.heap.size)
  case atStart => exact ⟨_, _, _, hrg0, HST.out, hg0.but _⟩
  case round =>
    obtain ⟨left, cnt, D, hrg, hrp, hgw⟩ := hrel
    have hbkr : Blk wr gs 131 #[.string yp, .string yt, .string nm] := by
      have := hgw.block gs (by have := HS0.out; omega) (by simp; omega)
      unfold Blk
      rw [this]; exact HBK.out
    have HBR : Hid (Blk wr gs 131 #[.string yp, .string yt, .string nm]) := hbkr
    have HRP : Hid (Rep D (leftF f ⟨yp, yt⟩ left)) := hrp
    have HGW : Hid (w0.grownBy wr (some b)) := hgw
    clear hrp hgw hbkr hg0 hrg0
    go_wp2_with (first
      | (at_next; refine wpList_nextS _ rfl _ rfl b w0.heap.size n _ _ _ rfl hrg ?_ ?_)
      | go_in)
    · intro _ hl0
      have e0 := HBR.out.cell 0
      have e1 := HBR.out.cell 1
      have e2 := HBR.out.cell 2
      simp at e0 e1 e2
      have hownE := hrg.owns
      have hrpE := leftF_end HRP.out hl0
      cases ht : (yt.toList == [126])
      · have hkey : keyOf Tryz.prog 9 (.string yp) = some (textKey yp) := key9 (by simp [maxLen]; omega)
        go_wp2_with (first
          | (at_mapUpdate; go_must (refine wpList_mapUpdate_own _ rfl _ _ _ 95 rfl 9 131 law9 Tryz.underlying95 _ b n _ rfl hownE (by simp [maxLen]; omega) _ _ (textKey yp) rfl rfl hkey (.held (sVal ⟨yp, yt, nm⟩)) [] (heldS_mk ⟨yp, yt, nm⟩) ?_; intro w3 hown3 hg3)))
        go_end0
        refine ⟨rfl, ⟨_, _, hown3, hrpE.put hownE.isMap yp ⟨yp, yt, nm⟩, lay_put (e := ⟨yp, yt⟩) (nm := nm) HR.out HOF.out ht⟩, ?_⟩
        exact (HG00.out.but (some b)).andThen (HGW.out.andThen hg3 (fun j hj => .inr hj)) (fun j hj => .inr hj)
      · go_wp2_with fail
        go_end0
        refine ⟨rfl, ⟨_, _, hownE.mono (Nat.le_succ n), hrpE, lay_erase (e := ⟨yp, yt⟩) (nm := nm) HR.out HOF.out ht⟩, ?_⟩
        exact (HG00.out.but (some b)).andThen HGW.out (fun j hj => .inr hj)
    · intro x cp ct cf w2 cnt1 hlx hat hkey hrg1 hlt1 hg1 hs1 hen
      have hcx := HRP.out.some hat
      have hin := leftF_in HOF.out hcx
      have hcz := HSZ.out _ hin.1
      dsimp only at hcz
      have hgw1 := HGW.out.andThen hg1 (fun j hj => by cases hj; exact .inl (Nat.le_refl _))
      have hbk2 : Blk w2 gs 131 #[.string yp, .string yt, .string nm] := by
        have := hg1.block gs HBR.out.lt (by have := HS0.out; simp; omega)
        unfold Blk
        rw [this]; exact HBR.out
      have e0 : ∀ o, (w2.alloc o).cell? ⟨gs, 0, none⟩ = some (.string yp) := fun o => by
        have := (Blk.below hbk2 ((Below.refl _ w2).alloc (Nat.le_refl _) o)).cell 0
        simpa using this
      have cm := fun w => implMeets cp yp hcz hyp w
      have HAT : Hid (∀ z, D.atKey (textKey x) z = .held (sVal ⟨cp, ct, cf⟩)) := hat
      have HG1 : Hid (w0.grownBy w2 (some b)) := hgw1
      have HRG1 : Hid (w2.ranges Tryz.prog 9 heldS b w0.heap.size n D (fun z => left z && !z.sameKey (textKey x)) cnt1) := hrg1
      obtain ⟨H, hH⟩ : ∃ H, (withinB cp yp || withinB yp cp) = H := ⟨_, rfl⟩
      rw [hH] at cm
      have HH : Hid (hits ⟨cp, ct, cf⟩ ⟨yp, yt⟩ = H) := hH
      clear hat hgw1 hcx hin hH hbk2 hrg1 hs1
      cases H
      · go_wp2_with (first
          | (go_at_call 45; go_must (refine (cm _).mono ?_; rintro e w3 ⟨rfl, hb3⟩; have hg3 := below_grown (Below.trans ((Below.refl _ w2).alloc (Nat.le_refl _) _) (hb3.mono (by simp))))))
        have hrg3 := HRG1.out.kept hg3 (by simp) (by simp)
        refine ⟨⟨_, cnt1, D, hrg3, leftF_stay HRP.out HAT.out HH.out, HG1.out.andThen hg3 (fun j hj => by cases hj)⟩, ?_⟩
        rw [hrg3.left_eq, hrg.left_eq]; exact hlt1
      · go_wp2_with (first
          | (go_at_call 45; go_must (refine (cm _).mono ?_; rintro e w3 ⟨rfl, hb3⟩; have hg3 := below_grown (Below.trans ((Below.refl _ w2).alloc (Nat.le_refl _) _) (hb3.mono (by simp))); have hrg3 := HRG1.out.kept hg3 (by simp) (by simp)))
          | (at_delete; go_must (refine wpList_delete_ranges _ rfl _ _ 95 9 rfl 131 law9 Tryz.underlying95 _ b w0.heap.size n _ _ _ rfl hrg3 _ _ rfl hkey ?_; intro w4 cnt2 hrg4 hle hturn; go_frame)))
        rw [strike_twice] at hrg4
        go_roundw
        case rel => exact ⟨_, cnt2, _, hrg4, leftF_hit HRP.out HAT.out HH.out, (HG1.out.andThen hg3 (fun j hj => by cases hj)).andThen hturn.grown (fun j hj => .inr hj)⟩
        case measure => rw [hrg4.left_eq, hrg.left_eq]; omega
end Go.Proofs.YtdlopjimheaekaaGreatDoor



namespace Go.Proofs.YtdlopjimheaekaaGreatDoor
open Go.ChangeShapes Go.WideShapes Go.ChangeAt Go.RowKit
open Go.Sort (grow putRow putCells mapBlock onCells heap_grow_old ahead HoldsK flatK get_flatK size_flatK putRowK PermIn SortedIn SWO alloc_eq_grow grow_grow)
set_option linter.unusedVariables false

section
variable {α : Type} [Inhabited α]
set_option linter.unusedSectionVars false
set_option linter.unusedSimpArgs false
theorem flat_get {enc : α → List Value} {k : Nat} (hk : ∀ x, (enc x).length = k) (h0 : 0 < k) : ∀ (l : List α) (t : Nat) (h : t < l.length * k), (l.flatMap enc)[t]? = (enc (l[t / k]'(Nat.div_lt_of_lt_mul (by rwa [Nat.mul_comm] at h))))[t % k]? := by
  intro l
  induction l with
  | nil => intro t h; simp at h
  | cons a r ih =>
    intro t h
    rw [List.flatMap_cons]
    by_cases ht : t < k
    · rw [List.getElem?_append_left (by rw [hk]; exact ht)]
      have e1 : t / k = 0 := Nat.div_eq_of_lt ht
      have e2 : t % k = t := Nat.mod_eq_of_lt ht
      simp only [e1, e2, List.getElem_cons_zero]
    · rw [List.getElem?_append_right (by rw [hk]; omega), hk]
      have hr : t - k < r.length * k := by
        simp only [List.length_cons, Nat.add_mul, Nat.one_mul] at h
        omega
      rw [ih (t - k) hr]
      have e1 : t / k = (t - k) / k + 1 := by
        rw [show t = (t - k) + k by omega, Nat.add_div_right _ h0]
        simp
      have e2 : t % k = (t - k) % k := by
        conv => lhs; rw [show t = (t - k) + k by omega]
        simp
      simp only [e1, e2, List.getElem_cons_succ]
theorem flat_len {enc : α → List Value} {k : Nat} (hk : ∀ x, (enc x).length = k) (l : List α) : (l.flatMap enc).length = l.length * k := by
  induction l with
  | nil => simp
  | cons a r ih => simp only [List.flatMap_cons, List.length_append, List.length_cons, hk, ih, Nat.add_mul, Nat.one_mul]; omega
theorem flatK_list {enc : α → List Value} {k : Nat} (hk : ∀ x, (enc x).length = k) (h0 : 0 < k) (l : List α) : (flatK enc k l.toArray).toList = l.flatMap enc := by
  apply List.ext_getElem?
  intro t
  by_cases ht : t < l.length * k
  · have hd : t / k < l.length := Nat.div_lt_of_lt_mul (by rwa [Nat.mul_comm] at ht)
    rw [flat_get hk h0 l t ht]
    have hg := get_flatK enc k l.toArray t (by simpa using ht)
    have hs : t < (flatK enc k l.toArray).size := by rw [size_flatK]; simpa using ht
    rw [getElem!_pos _ t hs] at hg
    rw [Array.getElem?_toList, Array.getElem?_eq_getElem hs, hg]
    have hm : t % k < k := Nat.mod_lt _ h0
    have e1 : l.toArray[t / k]! = l[t / k] := by rw [getElem!_pos _ _ (by simpa using hd)]; simp
    rw [e1, List.getElem?_eq_getElem (by rw [hk]; exact hm), getElem!_pos _ _ (by rw [hk]; exact hm)]
  · rw [List.getElem?_eq_none (by rw [Array.length_toList, size_flatK]; simpa using ht), List.getElem?_eq_none (by rw [flat_len hk]; omega)]
theorem holdsK_of_block {enc : α → List Value} {k : Nat} (hk : ∀ x, (enc x).length = k) (h0 : 0 < k) {w : World} {g : Nat} {cur : Array Value} {e : TypeId} {l : List α} (hb : w.heap[g]? = some (.cells cur e (0, 0))) (ht : cur.toList.take (l.length * k) = l.flatMap enc) : HoldsK enc k w g 0 l.toArray := by
  intro j hj
  have hj' : j < l.length * k := by simpa [size_flatK] using hj
  refine ⟨?_, by simp [World.frozen?, hb]⟩
  have h1 : (cur.toList.take (l.length * k))[j]? = (flatK enc k l.toArray).toList[j]? := by rw [ht, flatK_list hk h0]
  rw [List.getElem?_take_of_lt hj'] at h1
  simp only [World.cell?, hb, Nat.zero_add]
  simp only [Option.isSome_none, Bool.false_eq_true, if_false]
  rw [← Array.getElem?_toList, h1, Array.getElem?_toList, Array.getElem?_eq_getElem hj, getElem!_pos (flatK enc k l.toArray) j hj]
  rfl
theorem heap_sortedK {enc : α → List Value} {k : Nat} {w : World} {g n : Nat} {os : Array Obj} {cur : Array Value} {e : TypeId} {fr : Nat × Nat} (d : Array α) (hb : w.heap[g]? = some (.cells cur e fr)) :
    (sortWorldK enc k w g 0 n d os).heap[g]? = some (.cells (putCells id 0 (flatK enc k d) cur) e fr) := by
  have hg : g < w.heap.size := (Array.getElem?_eq_some_iff.1 hb).1
  unfold sortWorldK putRowK
  rw [heap_grow_old _ _ (by simpa using hg)]
  simp [putRow, mapBlock, ahead, Array.getElem?_modify, hb, onCells]
theorem grownBy_sortedK {enc : α → List Value} {k : Nat} {w : World} {g n : Nat} {os : Array Obj} (d : Array α) : w.grownBy (sortWorldK enc k w g 0 n d os) (some g) := by
  refine ⟨rfl, rfl, rfl, by simp [sortWorldK, putRowK], fun i hi hne => ?_⟩
  unfold sortWorldK putRowK
  rw [heap_grow_old _ _ (by simpa using hi)]
  have : g ≠ i := fun e => hne (by rw [e])
  simp [putRow, mapBlock, ahead, Array.getElem?_modify, this]
theorem take_putK {enc : α → List Value} {k : Nat} (hk : ∀ x, (enc x).length = k) (h0 : 0 < k) (cur : Array Value) (l : List α) (h : l.length * k ≤ cur.size) : (putCells id 0 (flatK enc k l.toArray) cur).toList.take (l.length * k) = l.flatMap enc := by
  rw [← flatK_list hk h0]
  apply List.ext_getElem?
  intro j
  by_cases hj : j < l.length * k
  · have hs : j < (flatK enc k l.toArray).size := by rw [size_flatK]; simpa using hj
    rw [List.getElem?_take_of_lt hj, Array.getElem?_toList]
    simp only [putCells, Array.getElem?_mapIdx, Nat.zero_le, true_and, Nat.zero_add, hs, if_true, Nat.sub_zero]
    rw [Array.getElem?_eq_getElem (show j < cur.size by omega), Array.getElem?_toList, Array.getElem?_eq_getElem hs, getElem!_pos (flatK enc k l.toArray) j hs]
    rfl
  · rw [List.getElem?_take_eq_none (by omega), List.getElem?_eq_none (by rw [Array.length_toList, size_flatK]; simpa using hj)]
theorem ownsRow_sortedK {enc : α → List Value} {k : Nat} (hk : ∀ x, (enc x).length = k) (h0 : 0 < k) {w : World} {base g cap n m : Nat} {e : TypeId} {os : Array Obj} {cur : Array Value} {l : List α} (hl : l.length = m) (hbase : base ≤ g) (hb : w.heap[g]? = some (.cells cur e (0, 0)))
    (h1 : m ≤ cap) (h2 : cap ≤ maxLen) (h3 : cur.size = cap * k) : (sortWorldK enc k w g 0 n l.toArray os).ownsRow base e k (.slice (some ⟨g, 0, none⟩) m cap) m (l.flatMap enc) :=
  ⟨by rw [flat_len hk, hl], .inr ⟨g, cap, _, rfl, hbase, heap_sortedK _ hb, h1, h2, by simp [putCells, h3], by rw [← hl]; exact take_putK hk h0 cur l (by rw [h3, hl]; exact Nat.mul_le_mul_right k h1)⟩⟩
end

/-- Only blocks and draws have come. -/
def Grew (W w' : World) : Prop := ∃ q os', w' = grow (W.drewN q) os'
theorem Grew.refl (W : World) : Grew W W := ⟨0, #[], by simp [World.drewN]⟩
theorem Grew.alloc {W w' : World} (h : Grew W w') (o : Obj) : Grew W (w'.alloc o) := by
  obtain ⟨q, os, rfl⟩ := h
  exact ⟨q, os ++ #[o], by rw [alloc_eq_grow, grow_grow]⟩
theorem Grew.drew {W w' : World} (h : Grew W w') : Grew W w'.drew := by
  obtain ⟨q, os, rfl⟩ := h
  exact ⟨q + 1, os, by simp [World.drewN, World.drew, grow, Nat.add_assoc]⟩
theorem Grew.below {W w' : World} (h : Grew W w') : Below W.heap.size W w' := by
  obtain ⟨q, os, rfl⟩ := h
  refine ⟨rfl, rfl, rfl, by simp [grow, World.drewN], fun k hk => ?_⟩
  simp only [grow, World.drewN]
  exact Array.getElem?_append_left hk
theorem Grew.trans {a b c : World} (h : Grew a b) (k : Grew b c) : Grew a c := by
  obtain ⟨q, os, rfl⟩ := h
  obtain ⟨q', os', rfl⟩ := k
  exact ⟨q + q', os ++ os', by simp [World.drewN, grow, Nat.add_assoc, Array.append_assoc]⟩

theorem cell_lt' {w : World} {g j : Nat} {v : Value} (h : w.cell? ⟨g, j, none⟩ = some v) : g < w.heap.size := cell_lt h
theorem perm_of {α : Type} [Inhabited α] {l : List α} {d' : Array α} (hp : PermIn 0 l.toArray.size l.toArray d') : d'.toList.Perm l := by
  obtain ⟨h1, _, h3⟩ := hp
  rw [← h1] at h3
  conv at h3 => lhs; rw [Array.extract_size]
  rw [h1, Array.extract_size] at h3
  simpa using h3
theorem sorted_of {α : Type} [Inhabited α] {lt : α → α → Bool} {l : List α} {d' : Array α} (hp : PermIn 0 l.toArray.size l.toArray d') (hs : SortedIn lt 0 l.toArray.size d') : d'.toList.Pairwise fun x y => lt y x = false := by
  obtain ⟨h1, _, h3⟩ := hp
  rw [List.pairwise_iff_getElem]
  intro i j hi hj hij
  simp only [Array.length_toList] at hi hj
  have := hs i j (Nat.zero_le _) hij (by omega)
  rw [getElem!_pos d' j hj, getElem!_pos d' i hi] at this
  simpa using this
end Go.Proofs.YtdlopjimheaekaaGreatDoor

namespace Go.Proofs.YtdlopjimheaekaaGreatDoor
open Go.ChangeShapes Go.WideShapes Go.ChangeAt Go.RowKit Go.Sort
set_option linter.unusedVariables false

/-- How two texts stand: -1, 0 or 1. -/
def cmpT (x y : ByteArray) : Int := if lessB x y then -1 else if x = y then 0 else 1
set_option maxRecDepth 100000 in
theorem implNaN (x : ByteArray) (w : World) : Calls Tryz.prog 118 #[.string x] w fun e w' => e = .returned (.bool false) ∧ w' = w := by
  go_enter Tryz.func118, Tryz.ntmps118
  go_wp2
  go_ret
  exact ⟨by simp, rfl⟩
set_option maxRecDepth 100000 in
theorem implCmpS (x y : ByteArray) (w : World) : Calls Tryz.prog 149 #[.string x, .string y] w fun e w' => e = .returned (.int .i64 (cmpT x y)) ∧ w' = w := by
  have c1 := fun w => implNaN x w
  have c2 := fun w => implNaN y w
  unfold cmpT lessB
  have hxy : (x = y) = ((x.toList == y.toList) = true) := by rw [beq_bytes]; simp
  obtain ⟨L, hL⟩ : ∃ L, Go.Op.bytesLess x.toList y.toList = L := ⟨_, rfl⟩
  obtain ⟨E, hE⟩ : ∃ E, (x.toList == y.toList) = E := ⟨_, rfl⟩
  simp only [hxy]
  rw [hL, hE]
  cases L <;> cases E <;>
  · go_enter Tryz.func149, Tryz.ntmps149
    go_wp2_with (first
      | (go_at_call 118; go_must (first | (refine (c1 _).mono ?_; rintro e w1 ⟨rfl, rfl⟩) | (refine (c2 _).mono ?_; rintro e w1 ⟨rfl, rfl⟩))))
    go_ret
    exact ⟨rfl, rfl⟩
set_option maxRecDepth 100000 in
set_option maxHeartbeats 1000000 in
theorem implOr (a b : Int) (g : Nat) (w : World) (h0 : w.cell? ⟨g, 0, none⟩ = some (.int .i64 a)) (h1 : w.cell? ⟨g, 1, none⟩ = some (.int .i64 b)) :
    Calls Tryz.prog 147 #[.slice (some ⟨g, 0, none⟩) 2 2] w fun e w' => e = .returned (.int .i64 (if a = 0 then b else a)) ∧ w' = w := by
  by_cases ha : a = 0
  · rw [if_pos ha]
    subst ha
    by_cases hb : b = 0
    · subst hb
      go_enter Tryz.func147, Tryz.ntmps147
      go_wp2
      refine wp_loop_rounds 3 ?_
      rw [rounds_succ]
      go_wp2
      rw [rounds_succ]
      go_wp2
      rw [rounds_succ]
      go_wp2
      go_ret
      exact ⟨rfl, rfl⟩
    · have hb' : (b == 0) = false := by simp [hb]
      go_enter Tryz.func147, Tryz.ntmps147
      go_wp2
      refine wp_loop_rounds 2 ?_
      rw [rounds_succ]
      go_wp2
      rw [rounds_succ]
      go_wp2
      go_ret
      exact ⟨rfl, rfl⟩
  · rw [if_neg ha]
    have ha' : (a == 0) = false := by simp [ha]
    go_enter Tryz.func147, Tryz.ntmps147
    go_wp2
    refine wp_loop_rounds 1 ?_
    rw [rounds_succ]
    go_wp2
    go_ret
    exact ⟨rfl, rfl⟩
set_option maxRecDepth 100000 in
theorem implRankOf (nm : ByteArray) (r : Int) (a : Option Addr) (n c : Nat) (w : World) : Calls Tryz.prog 107 #[.agg #[.string nm, .int .i64 r, .slice a n c]] w fun e w' => e = .returned (.int .i64 r) ∧ w' = w.alloc (.cells #[.string nm, .int .i64 r, .slice a n c] 27) := by
  go_enter Tryz.func107, Tryz.ntmps107
  go_wp2_with fail
  go_ret
  exact ⟨rfl, rfl⟩
set_option maxRecDepth 100000 in
theorem implNameOf (nm : ByteArray) (r : Int) (a : Option Addr) (n c : Nat) (w : World) : Calls Tryz.prog 108 #[.agg #[.string nm, .int .i64 r, .slice a n c]] w fun e w' => e = .returned (.string nm) ∧ w' = w.alloc (.cells #[.string nm, .int .i64 r, .slice a n c] 27) := by
  go_enter Tryz.func108, Tryz.ntmps108
  go_wp2_with fail
  go_ret
  exact ⟨rfl, rfl⟩
/-- A layer whose entries are a slice. -/
structure LayS where
  v : LayV
  sl : ∃ a n c, v.nv = .slice a n c
def LayS.cells (x : LayS) : List Value := LayVsCells x.1
instance : Inhabited LayS := ⟨⟨⟨⟨⟨#[]⟩, 0, []⟩, .slice none 0 0⟩, none, 0, 0, rfl⟩⟩
/-- By rank, then by name. -/
def cmpL (x y : LayS) : Int := if Lib.compareInt x.1.x.rank y.1.x.rank = 0 then cmpT x.1.x.name y.1.x.name else Lib.compareInt x.1.x.rank y.1.x.rank
theorem ltL (x y : LayS) : ltOf cmpL x y = lessL x.1 y.1 := by
  unfold ltOf cmpL lessL cmpT Lib.compareInt lessB
  by_cases h1 : x.1.x.rank < y.1.x.rank
  · simp [h1]
  · by_cases h2 : y.1.x.rank < x.1.x.rank
    · have h3 : ¬ x.1.x.rank = y.1.x.rank := by omega
      simp [h1, h2, h3]
    · have h3 : x.1.x.rank = y.1.x.rank := by omega
      rw [h3]
      simp only [Int.lt_irrefl, if_false, if_true, decide_false, Bool.false_or, beq_self_eq_true, Bool.true_and]
      cases Go.Op.bytesLess x.1.x.name.toList y.1.x.name.toList
      · by_cases h4 : x.1.x.name = y.1.x.name <;> simp [h4]
      · simp
theorem lessL_neg {x y z : LayV} (h1 : lessL x y = false) (h2 : lessL y z = false) : lessL x z = false := by
  cases h : lessL x z
  · rfl
  · rw [Bool.eq_false_iff, Ne, lessL_iff] at h1 h2
    rw [lessL_iff] at h
    exfalso
    rcases h with h | ⟨ha, hb⟩
    · have a1 : ¬ x.x.rank < y.x.rank := fun q => h1 (.inl q)
      have a2 : ¬ y.x.rank < z.x.rank := fun q => h2 (.inl q)
      omega
    · have a1 : ¬ x.x.rank < y.x.rank := fun q => h1 (.inl q)
      have a2 : ¬ y.x.rank < z.x.rank := fun q => h2 (.inl q)
      have e1 : x.x.rank = y.x.rank := by omega
      have e2 : y.x.rank = z.x.rank := by omega
      by_cases en : x.x.name = y.x.name
      · exact h2 (.inr ⟨e2, en ▸ hb⟩)
      · rcases lessB_total en with q | q
        · exact h1 (.inr ⟨e1, q⟩)
        · exact h2 (.inr ⟨e2, lessB_trans q hb⟩)
theorem swoL : SWO (ltOf cmpL) where
  irrefl x := by rw [ltL]; exact Bool.eq_false_iff.2 (lessL_irrefl x.1)
  trans x y z h1 h2 := by rw [ltL] at *; exact lessL_trans h1 h2
  ntrans x y z h1 h2 := by rw [ltL] at *; exact lessL_neg h1 h2
theorem two_new (w : World) (a b : Int) (g : Nat) (hg : g = w.heap.size) : (w.alloc (.cells #[.int .i64 a, .int .i64 b] 3)).drew.cell? ⟨g, 0, none⟩ = some (.int .i64 a) ∧ (w.alloc (.cells #[.int .i64 a, .int .i64 b] 3)).drew.cell? ⟨g, 1, none⟩ = some (.int .i64 b) := by
  subst hg
  have h : Blk (w.alloc (.cells #[.int .i64 a, .int .i64 b] 3)) w.heap.size 3 #[.int .i64 a, .int .i64 b] := heap_alloc_last w _
  exact ⟨h.cell 0, h.cell 1⟩
set_option maxRecDepth 100000 in
set_option maxHeartbeats 4000000 in
theorem implCmpL (xn yn : ByteArray) (xr yr : Int) (xa ya : Option Addr) (xl xc yl yc : Nat) (g1 g2 : Nat) (W : World) (h1 : W.cell? ⟨g1, 0, none⟩ = some (.func (.func 107) #[] #[])) (h2 : W.cell? ⟨g2, 0, none⟩ = some (.func (.func 108) #[] #[])) :
    Calls Tryz.prog 146 #[.agg #[.string xn, .int .i64 xr, .slice xa xl xc], .agg #[.string yn, .int .i64 yr, .slice ya yl yc], .pointer (some ⟨g1, 0, none⟩), .pointer (some ⟨g2, 0, none⟩)] W fun e w' => e = .returned (.int .i64 (if Lib.compareInt xr yr = 0 then cmpT xn yn else Lib.compareInt xr yr)) ∧ Grew W w' := by
  obtain ⟨A, hA⟩ : ∃ A, Lib.compareInt xr yr = A := ⟨_, rfl⟩
  obtain ⟨Bv, hB⟩ : ∃ B, cmpT xn yn = B := ⟨_, rfl⟩
  have c77 := fun w => Tryz.cmp_Compare_int xr yr w
  have c78 := fun w => implCmpS xn yn w
  rw [hA] at c77 ⊢
  rw [hB] at c78 ⊢
  clear hA hB
  have c76 := fun g w h0 h1 => implOr A Bv g w h0 h1
  obtain ⟨R, hR⟩ : ∃ R, (if A = 0 then Bv else A) = R := ⟨_, rfl⟩
  rw [hR] at c76 ⊢
  clear hR
  have l1 : g1 < W.heap.size := cell_lt' h1
  have l2 : g2 < W.heap.size := cell_lt' h2
  have hbA : Below W.heap.size W ((W.alloc (.cells #[.string xn, .int .i64 xr, .slice xa xl xc] 27)).alloc (.cells #[.string yn, .int .i64 yr, .slice ya yl yc] 27)) := ((Below.refl _ W).alloc (Nat.le_refl _) _).alloc (by simp) _
  have b1 : Blk ((W.alloc (.cells #[.string xn, .int .i64 xr, .slice xa xl xc] 27)).alloc (.cells #[.string yn, .int .i64 yr, .slice ya yl yc] 27)) W.heap.size 27 #[.string xn, .int .i64 xr, .slice xa xl xc] := Blk.below (show Blk (W.alloc (.cells #[.string xn, .int .i64 xr, .slice xa xl xc] 27)) W.heap.size 27 #[.string xn, .int .i64 xr, .slice xa xl xc] from heap_alloc_last W _) ((Below.refl _ _).alloc (Nat.le_refl _) _)
  have b2 : Blk ((W.alloc (.cells #[.string xn, .int .i64 xr, .slice xa xl xc] 27)).alloc (.cells #[.string yn, .int .i64 yr, .slice ya yl yc] 27)) (W.heap.size + 1) 27 #[.string yn, .int .i64 yr, .slice ya yl yc] := by
    have := heap_alloc_last (W.alloc (.cells #[.string xn, .int .i64 xr, .slice xa xl xc] 27)) (.cells #[.string yn, .int .i64 yr, .slice ya yl yc] 27)
    rwa [World.size_alloc] at this
  have kp : ∀ w', Grew ((W.alloc (.cells #[.string xn, .int .i64 xr, .slice xa xl xc] 27)).alloc (.cells #[.string yn, .int .i64 yr, .slice ya yl yc] 27)) w' → w'.cell? ⟨g1, 0, none⟩ = some (.func (.func 107) #[] #[]) ∧ w'.cell? ⟨g2, 0, none⟩ = some (.func (.func 108) #[] #[]) ∧ w'.cell? ⟨W.heap.size, 0, none⟩ = some (.string xn) ∧ w'.cell? ⟨W.heap.size, 1, none⟩ = some (.int .i64 xr) ∧ w'.cell? ⟨W.heap.size, 2, none⟩ = some (.slice xa xl xc) ∧ w'.cell? ⟨W.heap.size + 1, 0, none⟩ = some (.string yn) ∧ w'.cell? ⟨W.heap.size + 1, 1, none⟩ = some (.int .i64 yr) ∧ w'.cell? ⟨W.heap.size + 1, 2, none⟩ = some (.slice ya yl yc) := fun w' hg => by
    have hB := hg.below
    have hC := good_below hbA hB
    have d1 := b1.below hB
    have d2 := b2.below hB
    exact ⟨(hC.cell (p := ⟨g1, 0, none⟩) l1).trans h1, (hC.cell (p := ⟨g2, 0, none⟩) l2).trans h2, d1.cell 0, d1.cell 1, d1.cell 2, d2.cell 0, d2.cell 1, d2.cell 2⟩
  have KP : Hid _ := kp
  have HG0 : Grew W ((W.alloc (.cells #[.string xn, .int .i64 xr, .slice xa xl xc] 27)).alloc (.cells #[.string yn, .int .i64 yr, .slice ya yl yc] 27)) := ((Grew.refl W).alloc _).alloc _
  clear kp b1 b2 hbA
  go_enter Tryz.func146, Tryz.ntmps146
  go_wp2_with fail
  go_region_held3 (fun w' => w'.cell? ⟨g1, 0, none⟩ = some (.func (.func 107) #[] #[]) ∧ w'.cell? ⟨g2, 0, none⟩ = some (.func (.func 108) #[] #[]) ∧ w'.cell? ⟨W.heap.size, 0, none⟩ = some (.string xn) ∧ w'.cell? ⟨W.heap.size, 1, none⟩ = some (.int .i64 xr) ∧ w'.cell? ⟨W.heap.size, 2, none⟩ = some (.slice xa xl xc) ∧ w'.cell? ⟨W.heap.size + 1, 0, none⟩ = some (.string yn) ∧ w'.cell? ⟨W.heap.size + 1, 1, none⟩ = some (.int .i64 yr) ∧ w'.cell? ⟨W.heap.size + 1, 2, none⟩ = some (.slice ya yl yc)) (first | (refine KP.out _ ?_; repeat (first | exact Grew.refl _ | apply Grew.alloc | apply Grew.drew))) (first
    | (go_at_call 107; refine (implRankOf _ _ _ _ _ _).mono ?_; rintro e w' ⟨rfl, rfl⟩)
    | (go_at_call 108; refine (implNameOf _ _ _ _ _ _).mono ?_; rintro e w' ⟨rfl, rfl⟩)
    | (go_at_call 148; refine (c77 _).mono ?_; rintro e w' ⟨rfl, rfl⟩)
    | (go_at_call 149; refine (c78 _).mono ?_; rintro e w' ⟨rfl, rfl⟩)
    | (go_at_call 147; refine (c76 _ _ (two_new _ A Bv _ (by simp)).1 (two_new _ A Bv _ (by simp)).2).mono ?_; rintro e w' ⟨rfl, rfl⟩))
  all_goals go_wp2_with fail
  all_goals go_ret
  all_goals refine ⟨rfl, HG0.trans ?_⟩
  all_goals repeat (first | exact Grew.refl _ | apply Grew.alloc | apply Grew.drew)
end Go.Proofs.YtdlopjimheaekaaGreatDoor

namespace Go.Proofs.YtdlopjimheaekaaGreatDoor
open Go.ChangeShapes Go.WideShapes Go.ChangeAt Go.RowKit
open Go.Sort (grow putRow putCells mapBlock onCells heap_grow_old ahead HoldsK flatK get_flatK size_flatK putRowK PermIn SortedIn SWO)
set_option linter.unusedVariables false

/-- What a sort leaves. -/
structure SortedL (l l' : List LayV) : Prop where
  perm : l'.Perm l
  rises : l'.Pairwise fun x y => lessL y x = false
def Slices (l : List LayV) : Prop := ∀ x ∈ l, ∃ a n c, x.nv = .slice a n c
def cmpFnL (g1 g2 : Nat) : Value := .func (.func 146) #[] #[.pointer (some ⟨g1, 0, none⟩), .pointer (some ⟨g2, 0, none⟩)]
/-- The two questions lie in blocks of their own. -/
def AsksL (w : World) (g1 g2 : Nat) : Prop := w.cell? ⟨g1, 0, none⟩ = some (.func (.func 107) #[] #[]) ∧ w.cell? ⟨g2, 0, none⟩ = some (.func (.func 108) #[] #[])
theorem lift_slices : ∀ l : List LayV, Slices l → ∃ L : List LayS, L.map (·.1) = l
  | [], _ => ⟨[], rfl⟩
  | x :: l, h => by
    obtain ⟨L, hL⟩ := lift_slices l (fun y hy => h y (List.mem_cons_of_mem _ hy))
    exact ⟨⟨x, h x (List.mem_cons_self ..)⟩ :: L, by rw [List.map_cons, hL]⟩
theorem rowS (l : List LayS) : l.flatMap LayS.cells = LayVsRow (l.map (·.1)) := by
  unfold LayVsRow LayS.cells
  rw [List.flatMap_map]
theorem implSortL {B : Nat} {w : World} {v : Value} {l : List LayV} (h : OwnLayVs B w v l) (hs : Slices l) (hl : l.length ≤ 1000000) {g1 g2 : Nat} (ha : AsksL w g1 g2) :
    Calls Tryz.prog 126 #[v, cmpFnL g1 g2] w fun e w' => e = .returned (.tuple #[]) ∧ ∃ l', SortedL l l' ∧ OwnLayVs B w' v l' ∧ w.grownBy w' v.ownBlock := by
  by_cases h0 : l = []
  · subst h0
    obtain ⟨a, cap, rfl, _⟩ := h.value
    refine (AnyF.slices_SortFunc_none { Tryz.sortLay with } a cap (cmpFnL g1 g2) w).mono ?_
    rintro e w' ⟨rfl, rfl⟩
    exact ⟨rfl, [], ⟨List.Perm.refl _, List.Pairwise.nil⟩, h, grown_refl _ _⟩
  · have hpos : 0 < l.length := by
      cases l with
      | nil => exact absurd rfl h0
      | cons a r => simp
    obtain ⟨av, cv, hvv, _, hcv⟩ := h.value
    rcases h.2 with ⟨_, hz⟩ | ⟨g, cap, cur, rfl, hB, hg, hn1, hn2, hn3, hn4⟩
    · omega
    obtain ⟨g', hg', _, _, hcell⟩ := hcv hpos
    simp only [Value.slice.injEq] at hvv
    obtain ⟨rfl, _, _⟩ := hvv
    simp only [Option.some.injEq, Addr.mk.injEq, and_true] at hg'
    subst hg'
    have c0 := (hcell 0 hpos).1
    have n1 : g1 ≠ g := fun e => by
      subst e
      have := ha.1
      simp only [Nat.zero_mul] at c0
      rw [c0] at this
      cases this
    have n2 : g2 ≠ g := fun e => by
      subst e
      have := ha.2
      simp only [Nat.zero_mul] at c0
      rw [c0] at this
      cases this
    obtain ⟨L, hL⟩ := lift_slices l hs
    subst hL
    rw [List.length_map] at hl hn1 hn4 hpos
    have hk : ∀ x : LayS, x.cells.length = 3 := fun _ => rfl
    have hH : HoldsK LayS.cells 3 w g 0 L.toArray := holdsK_of_block hk (by omega) hg (by rw [rowS]; exact hn4)
    have eg : ∀ args w, (callFunc 146 args).run Tryz.prog w = .ok (.enter 146 args) w := enters_of Tryz.func146 (by kernel_rfl) rfl
    have hcmp : CmpLays Tryz.prog 146 #[.pointer (some ⟨g1, 0, none⟩), .pointer (some ⟨g2, 0, none⟩)] LayS.cells 3 cmpL g 0 L.toArray.size w := by
      intro m os dk _ x y
      have hgr : w.grownBy (sortWorldK LayS.cells 3 w g 0 m dk os) (some g) := grownBy_sortedK dk
      obtain ⟨⟨⟨xn, xr, xe⟩, xv⟩, xa, xl, xc, hx⟩ := x
      obtain ⟨⟨⟨yn, yr, ye⟩, yv⟩, ya, yl, yc, hy⟩ := y
      dsimp only at hx hy
      subst hx hy
      exact implCmpL xn yn xr yr xa ya xl xc yl yc g1 g2 _ (hgr.cell ha.1 (by simp [n1])) (hgr.cell ha.2 (by simp [n2]))
    have hcon := AnyQ.slices_SortFunc Tryz.sortLay 3 Tryz.isAgg27 Tryz.sizeOf27 LayS.cells hk (fun x v hv => by
      obtain ⟨⟨⟨xn, xr, xe⟩, xv⟩, xa, xl, xc, hx⟩ := x
      dsimp only at hx
      subst hx
      simp [LayS.cells, LayVsCells] at hv
      rcases hv with rfl | rfl | rfl <;> rfl) cmpL swoL 146 #[.pointer (some ⟨g1, 0, none⟩), .pointer (some ⟨g2, 0, none⟩)] g 0 cap L.toArray w eg hcmp hH (Array.getElem?_eq_some_iff.1 hg).1 (by simp; omega)
    have e1 : (L.map (·.1)).length = L.toArray.size := by simp
    rw [e1]
    refine Calls.mono hcon ?_
    rintro e w' ⟨rfl, d', n, os, hp, hso, rfl⟩
    have hsize : d'.toList.length = L.length := by rw [Array.length_toList, hp.1]; simp
    refine ⟨rfl, d'.toList.map (·.1), ⟨(perm_of hp).map _, ?_⟩, ?_, grownBy_sortedK d'⟩
    · rw [List.pairwise_map]
      refine (sorted_of hp hso).imp ?_
      intro a b hab
      rw [ltL] at hab
      exact hab
    · have := ownsRow_sortedK (n := n) (os := os) hk (by omega) hsize hB hg hn1 hn2 hn3
      unfold OwnLayVs
      rw [List.length_map, hsize, ← rowS]
      simpa using this
set_option maxRecDepth 100000 in
theorem implByTwoL (w : World) : Calls Tryz.prog 127 #[.func (.func 107) #[] #[], .func (.func 108) #[] #[]] w fun e w' => (∃ g1 g2, e = .returned (cmpFnL g1 g2) ∧ AsksL w' g1 g2 ∧ w.heap.size ≤ g1 ∧ w.heap.size ≤ g2) ∧ Below w.heap.size w w' := by
  have hmf : ∀ (fn : Fn) (first cap : Array Value) (w : World), (Instr.makeFunc fn first cap).run Tryz.prog w = .ok (.func fn first cap) w := fun _ _ _ _ => rfl
  go_enter Tryz.func127, Tryz.ntmps127
  go_wp2_with fail
  go_ret
  have b1 : Blk ((w.alloc (.cells #[.func (.func 107) #[] #[]] 146)).alloc (.cells #[.func (.func 108) #[] #[]] 147)) w.heap.size 146 #[.func (.func 107) #[] #[]] := Blk.below (show Blk (w.alloc (.cells #[.func (.func 107) #[] #[]] 146)) w.heap.size 146 #[.func (.func 107) #[] #[]] from heap_alloc_last w _) ((Below.refl _ _).alloc (Nat.le_refl _) _)
  have b2 : Blk ((w.alloc (.cells #[.func (.func 107) #[] #[]] 146)).alloc (.cells #[.func (.func 108) #[] #[]] 147)) (w.heap.size + 1) 147 #[.func (.func 108) #[] #[]] := by
    have := heap_alloc_last (w.alloc (.cells #[.func (.func 107) #[] #[]] 146)) (.cells #[.func (.func 108) #[] #[]] 147)
    rwa [World.size_alloc] at this
  refine ⟨⟨w.heap.size, w.heap.size + 1, rfl, ⟨b1.cell 0, b2.cell 0⟩, by omega, by omega⟩, ((Below.refl _ w).alloc (Nat.le_refl _) _).alloc (by simp) _⟩
set_option maxRecDepth 100000 in
set_option maxHeartbeats 1000000 in
theorem implSortTwoL {B : Nat} {w : World} {v : Value} {l : List LayV} (h : OwnLayVs B w v l) (hs : Slices l) (hBw : B ≤ w.heap.size) (hl : l.length ≤ 1000000) :
    Calls Tryz.prog 106 #[v, .func (.func 107) #[] #[], .func (.func 108) #[] #[]] w fun e w' => e = .returned (.tuple #[]) ∧ (∃ l', SortedL l l' ∧ OwnLayVs B w' v l') ∧ Below B w w' := by
  obtain ⟨a, cap, hv, _⟩ := h.value
  have HO : Hid (OwnLayVs B w v l) := h
  have HS : Hid (Slices l) := hs
  subst hv
  clear h hs
  go_enter Tryz.func106, Tryz.ntmps106
  go_wp2_with (first
    | (go_at_call 127; go_must (refine (implByTwoL _).mono ?_; rintro e w1 ⟨⟨g1, g2, rfl, has, hg1, hg2⟩, hb1⟩; have cs := implSortL (OwnLayVs.below HO.out hb1) HS.out hl has; unfold cmpFnL at *))
    | (go_at_call 126; go_must (refine cs.mono ?_; rintro e w2 ⟨rfl, l2, hso, hop, hgr⟩)))
  go_end0
  exact ⟨rfl, ⟨l2, hso, hop⟩, (hb1.mono hBw).grown hgr (Nat.le_trans hBw hb1.size) (OwnLayVs.block HO.out)⟩
set_option maxRecDepth 100000 in
set_option maxHeartbeats 1000000 in
theorem implCloneL {S : Nat → Prop} {w : World} {v : Value} {l : List LayV} (h : LayVsAt S w v l) (hS : ∀ b, S b → b < w.heap.size) (hone : LayVsOne l) (hl : l.length ≤ 1000000) :
    Calls Tryz.prog 105 #[v] w fun e w' => (∃ p, e = .returned p ∧ OwnLayVs w.heap.size w' p l) ∧ Below w.heap.size w w' := by
  obtain ⟨_, a, cap, hv, hc⟩ := id h
  subst hv
  have HH : Hid (LayVsAt S w (.slice a l.length cap) l) := h
  have HO : Hid (LayVsOne l) := hone
  have HE : Hid (OwnLayVs w.heap.size (w.alloc (.cells #[] 27)) (.slice (some ⟨w.heap.size, 0, none⟩) 0 0) []) := OwnLayVs.empty w.heap.size w (Nat.le_refl _)
  have hnil := fun (w : World) (a : Option Addr) (n c : Nat) => Lib.run_eql_slice_nil (P := Tryz.prog) w 24 27 a n c 0 0 Tryz.underlying24
  cases a with
  | none =>
    have h0 : l = [] := by
      cases l with
      | nil => rfl
      | cons x t =>
        obtain ⟨b, off, hb, _⟩ := hc (by simp)
        cases hb
    subst h0
    clear hc h hone
    go_enter Tryz.func105, Tryz.ntmps105
    go_wp2_with fail
    go_ret
    exact ⟨⟨_, rfl, OwnLayVs.nil _ _⟩, Below.refl _ _⟩
  | some ad =>
    have HK : Hid (LayVsAt S (w.alloc (.cells #[] 27)) (.slice (some ad) l.length cap) l) := h.keep (cells_below hS ((Below.refl _ w).alloc (Nat.le_refl _) _))
    clear hc h hone
    go_enter Tryz.func105, Tryz.ntmps105
    go_wp2_with (at_builtin; go_must (refine wpList_appendLayVs rfl (.tmp 5) (.tmp 6) rfl w.heap.size (.slice (some ⟨w.heap.size, 0, none⟩) 0 0) [] rfl HE.out (.slice (some ad) l.length cap) l rfl HK.out (by simp <;> omega) (by simp) HO.out ?_; intro v4 w4 hown4 hB4 hgr4 hnil4))
    go_ret
    exact ⟨⟨_, rfl, by simpa using hown4⟩, ((Below.refl _ w).alloc (Nat.le_refl _) _).trans hB4⟩
end Go.Proofs.YtdlopjimheaekaaGreatDoor

namespace Go.Proofs.YtdlopjimheaekaaGreatDoor
open Go.ChangeShapes Go.WideShapes Go.ChangeAt Go.RowKit
set_option linter.unusedVariables false

/-- A layer's entries lie there, and are short. -/
def LaySm (S : Nat → Prop) (w : World) (x : LayV) : Prop := EntrysAt S w x.nv x.x.entries ∧ x.x.entries.length ≤ 100 ∧ ∀ e ∈ x.x.entries, e.path.size ≤ 205
theorem laySteps_rises (nm : ByteArray) : ∀ (es : List Entry) (out : List Setting), SRises out → SRises (es.foldl (layStep nm) out)
  | [], out, h => h
  | e :: es, out, h => laySteps_rises nm es _ (layStep_ok h).1
theorem laidFold_rises : ∀ (l : List Layer) (out : List Setting), SRises out → SRises (l.foldl layLayer out)
  | [], out, h => h
  | x :: l, out, h => laidFold_rises l _ (laySteps_rises x.name x.entries out h)
theorem laid_rises (l : List Layer) : SRises (laidF l) := laidFold_rises l [] List.Pairwise.nil
set_option maxRecDepth 100000 in
set_option maxHeartbeats 8000000 in
theorem implMerged {S : Nat → Prop} {lv : List LayV} {v : Value} {w : World} (hS : ∀ b, S b → b < w.heap.size) (h : LayVsAt S w v lv) (hone : LayVsOne lv) (hsl : Slices lv) (hsm : ∀ x ∈ lv, LaySm S w x) (hnm : Named lv) (hl : lv.length ≤ 20) :
    Calls Tryz.prog 87 #[v] w fun e w' => (∃ b n, e = .returned (.map (some b)) ∧ MapS w' b n (laidF ((overF lv).map (·.x))) ∧ w.heap.size ≤ b ∧ n ≤ 2000) ∧ Below w.heap.size w w' := by
  have hmm := @run_makeMap Tryz.prog
  have cc := implCloneL h hS hone (by omega)
  have hcs := fun (w1 : World) (p : Value) (hb1 : Below w.heap.size w w1) (ho : OwnLayVs w.heap.size w1 p lv) => implSortTwoL ho hsl hb1.size (by omega)
  have hov := fun (l' : List LayV) (hs : SortedL lv l') => over_is hnm hs.perm hs.rises
  have hsm2 : ∀ x ∈ overF lv, LaySm S w x := fun x hx => hsm x (over_mem hx)
  have hll := over_len lv
  have HOV : Hid (∀ (l' : List LayV), SortedL lv l' → l' = overF lv) := hov
  obtain ⟨LV, hLV⟩ : ∃ LV, overF lv = LV := ⟨_, rfl⟩
  rw [hLV] at HOV hsm2 hll ⊢
  obtain ⟨a, cap, hv⟩ := h.shape
  subst hv
  have HS : Hid (∀ b, S b → b < w.heap.size) := hS
  have HSM : Hid (∀ x ∈ LV, LaySm S w x) := hsm2
  have HCS : Hid (∀ (w1 : World) (p : Value) (hb1 : Below w.heap.size w w1) (ho : OwnLayVs w.heap.size w1 p lv), Calls Tryz.prog 106 #[p, .func (.func 107) #[] #[], .func (.func 108) #[] #[]] w1 fun e w' => e = .returned (.tuple #[]) ∧ (∃ l', SortedL lv l' ∧ OwnLayVs w.heap.size w' p l') ∧ Below w.heap.size w1 w') := hcs
  have hL20 : (LV.length : Int) ≤ 20 := by omega
  have hL20n : LV.length ≤ 20 := by omega
  unfold laidF
  obtain ⟨F, hF⟩ : ∃ F, (LV.map (·.x)).foldl layLayer [] = F := ⟨_, rfl⟩
  have HF : Hid ((LV.map (·.x)).foldl layLayer [] = F) := hF
  rw [hF]
  have HLE : Hid (LV.length = lv.length) := hll
  clear hF hS h hone hsm hsm2 hll hLV hcs hov hsl hnm
  go_enter Tryz.func87, Tryz.ntmps87
  go_upto_region 3 with (first
    | (go_at_call 105; go_must (refine cc.mono ?_; rintro e w1 ⟨⟨p, rfl, hown1⟩, hb1⟩; have cs := HCS.out w1 p hb1 hown1; obtain ⟨pa, pc, hp, -, -⟩ := hown1.value; subst hp))
    | (go_at_call 106; go_must (refine cs.mono ?_; rintro e w2 ⟨rfl, ⟨l2, hso, hown2⟩, hb2⟩)))
  have hl2 := HOV.out l2 hso
  subst hl2
  have hbw2 : Below w.heap.size w w2 := hb1.trans hb2
  obtain ⟨_, _, hve, -, hpc⟩ := hown2.value
  simp only [Value.slice.injEq] at hve
  obtain ⟨rfl, hle, rfl⟩ := hve
  rw [hle]
  have HPC : Hid (0 < l2.length → ∃ g, pa = some ⟨g, 0, none⟩ ∧ w.heap.size ≤ g ∧ g < w2.heap.size ∧ ∀ j (hj : j < l2.length), w2.cell? ⟨g, j * 3, none⟩ = some (.string l2[j].x.name) ∧ w2.cell? ⟨g, j * 3 + 1, none⟩ = some (.int .i64 l2[j].x.rank) ∧ w2.cell? ⟨g, j * 3 + 2, none⟩ = some (l2[j].nv)) := hpc
  have HBW2 : Hid (Below w.heap.size w w2) := hbw2
  have HMD : Hid (MapS (w2.alloc (.map #[] 0)) w2.heap.size 0 []) := MapS.made w2
  clear hpc hown2 cc cs hb1 hb2 hso hown1 hbw2 hle HLE HOV HCS
  go_wp2_with fail
  go_loopw [16] (fun i16 wr => ∃ (k n : Nat) (out : List Setting), i16 = .int .i64 (k : Int) ∧ k ≤ l2.length ∧ n ≤ k * 100 ∧ MapS wr w2.heap.size n out ∧ SRises out ∧ (∀ o ∈ out, o.path.size ≤ 205) ∧ ((l2.drop k).map (·.x)).foldl layLayer out = F ∧ Below w2.heap.size w2 wr) (fun i16 _ => l2.length - (intOf i16).toNat)
  case atStart => exact ⟨0, 0, [], rfl, by omega, by omega, HMD.out, List.Pairwise.nil, fun x hx => (by cases hx), HF.out, (Below.refl _ w2).alloc (Nat.le_refl _) _⟩
  case round =>
    obtain ⟨k, n, out, rfl, hk, hn, hmp, hri, hsml, hfold, hb⟩ := hrel
    have HMP : Hid (MapS wr w2.heap.size n out) := hmp
    have HRI : Hid (SRises out) := hri
    have HFO : Hid (((l2.drop k).map (·.x)).foldl layLayer out = F) := hfold
    have HSL : Hid (∀ o ∈ out, o.path.size ≤ 205) := hsml
    have HBL : Hid (Below w2.heap.size w2 wr) := hb
    have hbs := hb.size
    have hmlt := hmp.lt
    clear hfold hsml hmp hri
    by_cases hkn : k < l2.length
    · have hkn' : (k : Int) < (l2.length : Int) := by omega
      obtain ⟨gl, rfl, -, hgl, hcell⟩ := HPC.out (by omega)
      obtain ⟨c0, c1, c2⟩ := hcell k hkn
      have hnx : ((l2.drop (k + 1)).map (·.x)).foldl layLayer (layLayer out l2[k].x) = F := by
        have := HFO.out
        rw [List.drop_eq_getElem_cons hkn, List.map_cons, List.foldl_cons] at this
        exact this
      have hxs := HSM.out l2[k] (List.getElem_mem hkn)
      obtain ⟨x, hx⟩ : ∃ x, l2[k] = x := ⟨_, rfl⟩
      rw [hx] at c0 c1 c2 hnx hxs
      obtain ⟨⟨xn, xr, es⟩, xv⟩ := x
      obtain ⟨hes, hel, hep⟩ := hxs
      dsimp only at c0 c1 c2 hes hel hep
      obtain ⟨ea, ec, hxv⟩ := hes.shape
      subst hxv
      unfold layLayer at hnx
      dsimp only at hnx
      obtain ⟨G, hG⟩ : ∃ G, es.foldl (layStep xn) out = G := ⟨_, rfl⟩
      have HG : Hid (es.foldl (layStep xn) out = G) := hG
      have HNX : Hid (((l2.drop (k + 1)).map (·.x)).foldl layLayer G = F) := (show ((l2.drop (k + 1)).map (·.x)).foldl layLayer G = F by rw [← hG]; exact hnx)
      have HES : Hid (EntrysAt S w (.slice ea es.length ec) es) := hes
      have HEP : Hid (∀ e ∈ es, e.path.size ≤ 205) := hep
      have hel' : (es.length : Int) ≤ 100 := by omega
      have d0 := (hb.cell (p := ⟨gl, k * 3, none⟩) hgl).trans c0
      have d1 := (hb.cell (p := ⟨gl, k * 3 + 1, none⟩) hgl).trans c1
      have d2 := (hb.cell (p := ⟨gl, k * 3 + 2, none⟩) hgl).trans c2
      have hbkA : Blk (wr.alloc (.cells #[.string xn, .int .i64 xr, .slice ea es.length ec] 27)) wr.heap.size 27 #[.string xn, .int .i64 xr, .slice ea es.length ec] := heap_alloc_last wr _
      have hgA : wr.grownBy (wr.alloc (.cells #[.string xn, .int .i64 xr, .slice ea es.length ec] 27)) none := World.grownBy_alloc wr _ none
      have hbwA : Below w2.heap.size w2 (wr.alloc (.cells #[.string xn, .int .i64 xr, .slice ea es.length ec] 27)) := hb.alloc hbs _
      obtain ⟨gx, hgx⟩ : ∃ gx, wr.heap.size = gx := ⟨_, rfl⟩
      rw [hgx] at hbkA
      clear hnx hG hx hcell c0 c1 c2 hes hep HFO
      go_upto_region 7 with fail
      obtain ⟨wA, hwA⟩ : ∃ wA, wr.alloc (.cells #[.string xn, .int .i64 xr, .slice ea es.length ec] 27) = wA := ⟨_, rfl⟩
      rw [hwA] at hbkA hgA hbwA ⊢
      have HBA : Hid (Blk wA gx 27 #[.string xn, .int .i64 xr, .slice ea es.length ec]) := hbkA
      have HBWA : Hid (Below w2.heap.size w2 wA) := hbwA
      have HMA : Hid (MapS wA w2.heap.size n out) := HMP.out.kept hgA (by simp)
      have e2 := hbkA.cell 2
      simp at e2
      have hne : gx ≠ w2.heap.size := by omega
      clear hbkA hbwA hgA hwA d0 d1 d2 hb hgx
      go_wp2_with fail
      go_loopw [23] (fun i23 wx => ∃ (m n2 : Nat) (ou : List Setting), i23 = .int .i64 (m : Int) ∧ m ≤ es.length ∧ n2 ≤ k * 100 + m ∧ MapS wx w2.heap.size n2 ou ∧ SRises ou ∧ (∀ o ∈ ou, o.path.size ≤ 205) ∧ (es.drop m).foldl (layStep xn) ou = G ∧ wA.grownBy wx (some w2.heap.size) ∧ Below w2.heap.size w2 wx) (fun i23 _ => es.length - (intOf i23).toNat)
      case atStart => exact ⟨0, n, out, rfl, by omega, by omega, HMA.out, HRI.out, HSL.out, HG.out, ⟨rfl, rfl, rfl, Nat.le_refl _, fun _ _ _ => rfl⟩, HBWA.out⟩
      case round =>
        obtain ⟨m, n2, ou, rfl, hm, hn2, hmp2, hri2, hsml2, hfold2, hgw2, hb2⟩ := hrel
        have HMP2 : Hid (MapS wr w2.heap.size n2 ou) := hmp2
        have HRI2 : Hid (SRises ou) := hri2
        have HFO2 : Hid ((es.drop m).foldl (layStep xn) ou = G) := hfold2
        have HSL2 : Hid (∀ o ∈ ou, o.path.size ≤ 205) := hsml2
        have HGW2 : Hid (wA.grownBy wr (some w2.heap.size)) := hgw2
        have HB2 : Hid (Below w2.heap.size w2 wr) := hb2
        have hbs2 := hb2.size
        clear hfold2 hsml2 hmp2 hri2
        by_cases hmn : m < es.length
        · have hmn' : (m : Int) < (es.length : Int) := by omega
          obtain ⟨_, ea', ec', huv, huc⟩ := HES.out
          simp only [Value.slice.injEq] at huv
          obtain ⟨rfl, -, rfl⟩ := huv
          obtain ⟨eb, eo, rfl, heS, hecell⟩ := huc (by omega)
          have hew := HS.out eb heS
          obtain ⟨p0, p1⟩ := hecell m hmn
          have hbw := HBW2.out.trans (HB2.out.mono HBW2.out.size)
          have q0 := (hbw.cell (p := ⟨eb, eo + m * 2, none⟩) hew).trans p0
          have q1 := (hbw.cell (p := ⟨eb, eo + m * 2 + 1, none⟩) hew).trans p1
          have hnx2 : (es.drop (m + 1)).foldl (layStep xn) (layStep xn ou es[m]) = G := by
            have := HFO2.out
            rw [List.drop_eq_getElem_cons hmn, List.foldl_cons] at this
            exact this
          have hyp := HEP.out es[m] (List.getElem_mem hmn)
          obtain ⟨y, hy⟩ : ∃ y, es[m] = y := ⟨_, rfl⟩
          rw [hy] at q0 q1 hnx2 hyp
          obtain ⟨yp, yt⟩ := y
          dsimp only at q0 q1 hyp
          have HNX2 : Hid ((es.drop (m + 1)).foldl (layStep xn) (layStep xn ou ⟨yp, yt⟩) = G) := hnx2
          have hbkx : Blk wr gx 27 #[.string xn, .int .i64 xr, .slice (some ⟨eb, eo, none⟩) es.length ec] := by
            have := hgw2.block gx HBA.out.lt (by simp; exact hne)
            unfold Blk
            rw [this]; exact HBA.out
          have e0 : ∀ o, (wr.alloc o).cell? ⟨gx, 0, none⟩ = some (.string xn) := fun o => by
            have := (Blk.below hbkx ((Below.refl _ wr).alloc (Nat.le_refl _) o)).cell 0
            simpa using this
          have cl := fun o => implLay (w := wr.alloc o) (HMP2.out.kept (World.grownBy_alloc wr o none) (by simp)) HRI2.out (fun o ho => Nat.le_trans (HSL2.out o ho) (by omega)) yp yt xn (by omega) (by omega)
          have hyn : (newS ⟨yp, yt⟩ xn).path.size ≤ 205 := hyp
          have HMEM : Hid (∀ o ∈ layStep xn ou ⟨yp, yt⟩, o.path.size ≤ 205) := layStep_mem (P := fun o => o.path.size ≤ 205) HSL2.out hyn
          have HRN : Hid (SRises (layStep xn ou ⟨yp, yt⟩)) := (layStep_ok HRI2.out).1
          clear hnx2 hy p0 p1 hecell huc HFO2 hbw hbkx hyn
          go_wp2_with (go_at_call 109; go_must (refine (cl _).mono ?_; rintro e w5 ⟨rfl, hm5, hg5⟩; have hgA5 := (World.grownBy_alloc wr (.cells #[.string yp, .string yt] 73) (some w2.heap.size)).andThen hg5 (fun j hj => .inr hj)))
          refine ⟨⟨m + 1, n2 + 1, layStep xn ou ⟨yp, yt⟩, by go_num, by omega, by omega, hm5, HRN.out, HMEM.out, HNX2.out, HGW2.out.andThen hgA5 (fun j hj => .inr hj), HB2.out.grown hgA5 hbs2 (fun j hj => by cases hj; exact Nat.le_refl _)⟩, by simp [intOf]; omega⟩
        · obtain rfl : m = es.length := by omega
          have hmn' : ¬ ((es.length : Int) < (es.length : Int)) := by omega
          have hG := HFO2.out
          simp at hG
          have HNX3 : Hid (((l2.drop (k + 1)).map (·.x)).foldl layLayer ou = F) := (show ((l2.drop (k + 1)).map (·.x)).foldl layLayer ou = F by rw [hG]; exact HNX.out)
          clear hG
          go_wp2_with fail
          exact ⟨⟨k + 1, n2, ou, by go_num, by omega, by omega, HMP2.out, HRI2.out, HSL2.out, HNX3.out, HB2.out⟩, by simp [intOf]; omega⟩
    · obtain rfl : k = l2.length := by omega
      have hkn' : ¬ ((l2.length : Int) < (l2.length : Int)) := by omega
      have hfin := HFO.out
      simp at hfin
      subst hfin
      go_wp2_with fail
      go_ret
      exact ⟨⟨_, rfl, n, HMP.out, HBW2.out.size, by omega⟩, HBW2.out.trans (HBL.out.mono HBW2.out.size)⟩
end Go.Proofs.YtdlopjimheaekaaGreatDoor

namespace Go.Proofs.YtdlopjimheaekaaGreatDoor
open Go.ChangeShapes Go.WideShapes Go.ChangeAt Go.RowKit
set_option linter.unusedVariables false

def bare (y : LayV) : LayV := ⟨y.x, .nilFunc⟩
theorem lessL_bare (x y : LayV) : lessL (bare x) (bare y) = lessL x y := rfl
theorem posUp_bare (out : List LayV) (y : LayV) : ∀ k, posUp (out.map bare) (bare y) k = posUp out y k
  | 0 => rfl
  | k + 1 => by
    unfold posUp
    rw [List.getElem?_map]
    cases out[k]? with
    | none => rfl
    | some z => simp only [Option.map_some, lessL_bare, posUp_bare out y k]
theorem overStep_bare (out : List LayV) (y : LayV) : overStep (out.map bare) (bare y) = (overStep out y).map bare := by
  unfold overStep posN
  rw [List.length_map, posUp_bare, List.map_append, List.map_append, List.map_take, List.map_drop]
  rfl
theorem overFold_bare : ∀ (lv out : List LayV), (lv.map bare).foldl overStep (out.map bare) = (lv.foldl overStep out).map bare
  | [], out => rfl
  | y :: lv, out => by rw [List.map_cons, List.foldl_cons, List.foldl_cons, overStep_bare, overFold_bare lv]
/-- Layers in the order in which they are laid over one another. -/
def overP (l : List Layer) : List Layer := (overF (l.map fun x => ⟨x, .nilFunc⟩)).map (·.x)
theorem over_plain (lv : List LayV) : (overF lv).map (·.x) = overP (lv.map (·.x)) := by
  unfold overP
  have e : (lv.map (·.x)).map (fun x => (⟨x, .nilFunc⟩ : LayV)) = lv.map bare := by rw [List.map_map]; rfl
  rw [e]
  have h : overF (lv.map bare) = (overF lv).map bare := overFold_bare lv []
  rw [h, List.map_map]
  rfl
/-- The layers that lie there, each with the slice of its entries. -/
theorem layers_lv {S : Nat → Prop} {w : World} {v : Value} {l : List Layer} (h : LayersAt S w v l) : ∃ lv : List LayV, lv.map (·.x) = l ∧ LayVsAt S w v lv ∧ ∀ y ∈ lv, EntrysAt S w y.nv y.x.entries := by
  obtain ⟨hl, a, cap, hv, hc⟩ := h
  by_cases h0 : 0 < l.length
  · obtain ⟨b, off, rfl, hS, hcell⟩ := hc h0
    have hlv : ((l.mapIdx fun i x => (⟨x, (w.cell? ⟨b, off + i * 3 + 2, none⟩).getD .nilFunc⟩ : LayV)).map (·.x)) = l := by
      apply List.ext_getElem
      · simp
      · intro i h1 h2; simp
    refine ⟨l.mapIdx fun i x => ⟨x, (w.cell? ⟨b, off + i * 3 + 2, none⟩).getD .nilFunc⟩, hlv, ⟨by simpa using hl, _, cap, by simpa using hv, fun _ => ⟨b, off, rfl, hS, fun i hi => ?_⟩⟩, fun y hy => ?_⟩
    · have hi' : i < l.length := by simpa using hi
      obtain ⟨c0, c1, nv, t1, t2⟩ := hcell i hi'
      simp only [List.getElem_mapIdx]
      exact ⟨c0, c1, by rw [t1]; rfl⟩
    · obtain ⟨i, hi, rfl⟩ := List.getElem_of_mem hy
      have hi' : i < l.length := by simpa using hi
      obtain ⟨c0, c1, nv, t1, t2⟩ := hcell i hi'
      simp only [List.getElem_mapIdx, t1, Option.getD_some]
      exact t2
  · have hl0 : l = [] := List.length_eq_zero_iff.1 (by omega)
    subst hl0
    exact ⟨[], rfl, ⟨by simp, a, cap, hv, fun h => absurd h (by simp)⟩, fun y hy => by cases hy⟩
theorem dup_apart {l : List ByteArray} (h : dupFrom l [] = false) : l.Pairwise fun x y => x ≠ y := by
  rw [List.pairwise_iff_getElem]
  intro i j hi hj hij e
  have : dupFrom l [] = true := (dup_iff l []).2 ⟨j, hj, by
    unfold hasB
    rw [List.any_eq_true]
    exact ⟨l[i], by rw [List.nil_append, List.mem_take_iff_getElem]; exact ⟨i, by omega, rfl⟩, by rw [e]; simp⟩⟩
  rw [h] at this
  cases this
theorem layers_fine {l : List Layer} (h : layersB nameOK l = true) : l.length ≤ 20 ∧ (l.map Layer.name).Pairwise (fun x y => x ≠ y) ∧ ∀ x ∈ l, x.entries.length ≤ 100 ∧ ∀ e ∈ x.entries, e.path.size ≤ 205 := by
  have h20 : l.length ≤ 20 := by
    unfold layersB at h
    simp only [Bool.and_eq_true, decide_eq_true_eq] at h
    exact h.1
  rw [layers_split nameOK l h20] at h
  simp only [Bool.and_eq_true, Bool.not_eq_true'] at h
  refine ⟨h20, dup_apart h.2.2, fun x hx => ?_⟩
  have hx2 := List.all_eq_true.1 h.1 x hx
  simp only [Bool.and_eq_true, decide_eq_true_eq] at hx2
  refine ⟨hx2.1, fun e he => ?_⟩
  have he2 := hx2.2
  rw [entries_split] at he2
  simp only [Bool.and_eq_true] at he2
  have hp := List.all_eq_true.1 he2.2.1 e.path (List.mem_map.2 ⟨e, he, rfl⟩)
  unfold pathB at hp
  simp only [Bool.and_eq_true, decide_eq_true_eq] at hp
  exact hp.1.1
/-- What a Merge answers. -/
def mergeF (l : List Layer) : List Setting × Int := if 4096 < l.length then ([], 2) else if layersB nameOK l then (laidF (overP l), 0) else ([], 1)
theorem laySteps_len (nm : ByteArray) : ∀ (es : List Entry) (out : List Setting), (es.foldl (layStep nm) out).length ≤ out.length + es.length
  | [], out => by simp
  | e :: es, out => by
    have h1 := laySteps_len nm es (layStep nm out e)
    have h2 := layStep_len (nm := nm) (out := out) (e := e)
    rw [List.foldl_cons, List.length_cons]
    omega
theorem laidFold_len : ∀ (l : List Layer) (out : List Setting), (∀ x ∈ l, x.entries.length ≤ 100) → (l.foldl layLayer out).length ≤ out.length + l.length * 100
  | [], out, _ => by simp
  | x :: l, out, h => by
    have h1 := laidFold_len l (layLayer out x) (fun y hy => h y (List.mem_cons_of_mem _ hy))
    have h2 := laySteps_len x.name x.entries out
    have h3 := h x (List.mem_cons_self ..)
    rw [List.foldl_cons, List.length_cons]
    unfold layLayer at h1
    unfold layLayer
    omega
theorem overP_mem {l : List Layer} {x : Layer} (h : x ∈ overP l) : x ∈ l := by
  unfold overP at h
  obtain ⟨y, hy, rfl⟩ := List.mem_map.1 h
  obtain ⟨z, hz, rfl⟩ := List.mem_map.1 (over_mem hy)
  exact hz
theorem overP_len (l : List Layer) : (overP l).length = l.length := by
  unfold overP
  rw [List.length_map, over_len, List.length_map]
theorem laid_len {l : List Layer} (h : layersB nameOK l = true) : (laidF (overP l)).length ≤ 2000 := by
  obtain ⟨h1, _, h3⟩ := layers_fine h
  have := laidFold_len (overP l) [] (fun x hx => (h3 x (overP_mem hx)).1)
  unfold laidF
  rw [overP_len] at this
  simp at this
  omega
theorem merge_len (l : List Layer) : (mergeF l).1.length ≤ 1000000 := by
  unfold mergeF
  split
  · simp
  · split
    · have := laid_len (by assumption); simp only; omega
    · simp
end Go.Proofs.YtdlopjimheaekaaGreatDoor

namespace Go.Proofs.YtdlopjimheaekaaGreatDoor
open Go.ChangeShapes Go.WideShapes Go.ChangeAt Go.RowKit Go.Maps
open Go.Sort (grow putRow putCells mapBlock onCells heap_grow_old ahead HoldsK flatK get_flatK size_flatK putRowK PermIn SortedIn SWO)
set_option linter.unusedVariables false

set_option maxRecDepth 100000 in
theorem implAt (p : ByteArray) (w : World) : Calls Tryz.prog 221 #[.agg #[.string p]] w fun e w' => e = .returned (.string p) ∧ w' = w.alloc (.cells #[.string p] 84) := by
  go_enter Tryz.func221, Tryz.ntmps221
  go_wp2_with fail
  go_ret
  exact ⟨rfl, rfl⟩
theorem atOf (p t f : ByteArray) (w : World) : (method 334 131 (.agg #[.string p, .string t, .string f]) "loop.example/g00045/impl.at").run Tryz.prog w = .ok (221, .agg #[.string p]) w := by kernel_rfl
set_option maxRecDepth 100000 in
set_option maxHeartbeats 4000000 in
theorem implCmpSt (xp xt xf yp yt yf : ByteArray) (W : World) :
    Calls Tryz.prog 111 #[.agg #[.string xp, .string xt, .string xf], .agg #[.string yp, .string yt, .string yf]] W fun e w' => e = .returned (.int .i64 (Lib.compareBytes xp.data.toList yp.data.toList)) ∧ Grew W w' := by
  have hm := atOf
  obtain ⟨R, hR⟩ : ∃ R, Lib.compareBytes xp.data.toList yp.data.toList = R := ⟨_, rfl⟩
  have cc := fun w => Tryz.strings_Compare xp yp w
  rw [hR] at cc ⊢
  clear hR
  have hbA : Below W.heap.size W ((W.alloc (.cells #[.string xp, .string xt, .string xf] 131)).alloc (.cells #[.string yp, .string yt, .string yf] 131)) := ((Below.refl _ W).alloc (Nat.le_refl _) _).alloc (by simp) _
  have b1 : Blk ((W.alloc (.cells #[.string xp, .string xt, .string xf] 131)).alloc (.cells #[.string yp, .string yt, .string yf] 131)) W.heap.size 131 #[.string xp, .string xt, .string xf] := Blk.below (show Blk (W.alloc (.cells #[.string xp, .string xt, .string xf] 131)) W.heap.size 131 #[.string xp, .string xt, .string xf] from heap_alloc_last W _) ((Below.refl _ _).alloc (Nat.le_refl _) _)
  have b2 : Blk ((W.alloc (.cells #[.string xp, .string xt, .string xf] 131)).alloc (.cells #[.string yp, .string yt, .string yf] 131)) (W.heap.size + 1) 131 #[.string yp, .string yt, .string yf] := by
    have := heap_alloc_last (W.alloc (.cells #[.string xp, .string xt, .string xf] 131)) (.cells #[.string yp, .string yt, .string yf] 131)
    rwa [World.size_alloc] at this
  have kp : ∀ w', Grew ((W.alloc (.cells #[.string xp, .string xt, .string xf] 131)).alloc (.cells #[.string yp, .string yt, .string yf] 131)) w' → w'.cell? ⟨W.heap.size, 0, none⟩ = some (.string xp) ∧ w'.cell? ⟨W.heap.size, 1, none⟩ = some (.string xt) ∧ w'.cell? ⟨W.heap.size, 2, none⟩ = some (.string xf) ∧ w'.cell? ⟨W.heap.size + 1, 0, none⟩ = some (.string yp) ∧ w'.cell? ⟨W.heap.size + 1, 1, none⟩ = some (.string yt) ∧ w'.cell? ⟨W.heap.size + 1, 2, none⟩ = some (.string yf) := fun w' hg => by
    have hB := hg.below
    have d1 := b1.below hB
    have d2 := b2.below hB
    exact ⟨d1.cell 0, d1.cell 1, d1.cell 2, d2.cell 0, d2.cell 1, d2.cell 2⟩
  have KP : Hid _ := kp
  have HG0 : Grew W ((W.alloc (.cells #[.string xp, .string xt, .string xf] 131)).alloc (.cells #[.string yp, .string yt, .string yf] 131)) := ((Grew.refl W).alloc _).alloc _
  clear kp b1 b2 hbA
  go_enter Tryz.func111, Tryz.ntmps111
  go_wp2_with fail
  go_region_held3 (fun w' => w'.cell? ⟨W.heap.size, 0, none⟩ = some (.string xp) ∧ w'.cell? ⟨W.heap.size, 1, none⟩ = some (.string xt) ∧ w'.cell? ⟨W.heap.size, 2, none⟩ = some (.string xf) ∧ w'.cell? ⟨W.heap.size + 1, 0, none⟩ = some (.string yp) ∧ w'.cell? ⟨W.heap.size + 1, 1, none⟩ = some (.string yt) ∧ w'.cell? ⟨W.heap.size + 1, 2, none⟩ = some (.string yf)) (first | (refine KP.out _ ?_; repeat (first | exact Grew.refl _ | apply Grew.alloc | apply Grew.drew))) (first
    | (go_at_call 221; refine (implAt _ _).mono ?_; rintro e w' ⟨rfl, rfl⟩)
    | (go_at_call 112; refine (cc _).mono ?_; rintro e w' ⟨rfl, rfl⟩))
  all_goals go_wp2_with fail
  all_goals go_ret
  all_goals refine ⟨rfl, HG0.trans ?_⟩
  all_goals repeat (first | exact Grew.refl _ | apply Grew.alloc | apply Grew.drew)
end Go.Proofs.YtdlopjimheaekaaGreatDoor

namespace Go.Proofs.YtdlopjimheaekaaGreatDoor
open Go.ChangeShapes Go.WideShapes Go.ChangeAt Go.RowKit
set_option linter.unusedVariables false
set_option linter.unusedSimpArgs false

/-- The slice v reads in w, out of blocks of S, as these. -/
def StgsAt (S : Nat → Prop) (w : World) (v : Value) (l : List Setting) : Prop := l.length ≤ maxLen ∧ ∃ a cap, v = .slice a l.length cap ∧ (0 < l.length → ∃ b off, a = some ⟨b, off, none⟩ ∧ S b ∧
  ∀ i (h : i < l.length), w.cell? ⟨b, off + i * 3, none⟩ = some (.string l[i].path) ∧ w.cell? ⟨b, off + i * 3 + 1, none⟩ = some (.string l[i].text) ∧ w.cell? ⟨b, off + i * 3 + 2, none⟩ = some (.string l[i].from'))
theorem StgsAt.keep {S : Nat → Prop} {w w' : World} {v : Value} {l : List Setting} (h : StgsAt S w v l) (hk : ∀ b i, S b → w'.cell? ⟨b, i, none⟩ = w.cell? ⟨b, i, none⟩) : StgsAt S w' v l := by
  obtain ⟨hl, a, cap, hv, h⟩ := h
  refine ⟨hl, a, cap, hv, fun h0 => ?_⟩
  obtain ⟨b, off, ha, hbB, hc⟩ := h h0
  refine ⟨b, off, ha, hbB, fun i hi => ?_⟩
  obtain ⟨c0, c1, c2⟩ := hc i hi
  exact ⟨(hk _ _ hbB).trans c0, (hk _ _ hbB).trans c1, (hk _ _ hbB).trans c2⟩
theorem StgsAt.mono {S S' : Nat → Prop} {w : World} {v : Value} {l : List Setting} (h : StgsAt S w v l) (hS : ∀ b, S b → S' b) : StgsAt S' w v l := by
  obtain ⟨hl, a, cap, hv, h⟩ := h
  refine ⟨hl, a, cap, hv, fun h0 => ?_⟩
  obtain ⟨b, off, ha, hbB, hc⟩ := h h0
  refine ⟨b, off, ha, hS b hbB, fun i hi => ?_⟩
  obtain ⟨c0, c1, c2⟩ := hc i hi
  exact ⟨c0, c1, c2⟩
theorem StgsAt.shape {S : Nat → Prop} {w : World} {v : Value} {l : List Setting} (h : StgsAt S w v l) : ∃ a c, v = .slice a l.length c := by
  obtain ⟨_, a, c, hv, _⟩ := h
  exact ⟨a, c, hv⟩
def StgsCells (x : Setting) : List Value := [.string x.path, .string x.text, .string x.from']
def StgsRow (l : List Setting) : List Value := l.flatMap StgsCells
theorem StgsRow_length (l : List Setting) : (StgsRow l).length = l.length * 3 := by
  induction l with
  | nil => rfl
  | cons a t ih => simp only [StgsRow, List.flatMap_cons, List.length_append, List.length_cons] at ih ⊢; rw [ih]; simp [StgsCells] <;> omega
theorem StgsRow_append (l k : List Setting) : StgsRow (l ++ k) = StgsRow l ++ StgsRow k := by simp [StgsRow]
theorem StgsRow_one {l : List Setting} {u : Value} (hu : u ∈ StgsRow l) : u.oneCell' = true := by
  obtain ⟨x, _, hx⟩ := List.mem_flatMap.1 hu
  simp only [StgsCells, List.mem_cons, List.mem_nil_iff, or_false] at hx
  rcases hx with rfl | rfl | rfl <;> rfl
theorem StgsRow_at (l : List Setting) (k : Nat) (hk : k < l.length) : (StgsRow l)[k * 3]? = some (.string l[k].path) ∧ (StgsRow l)[k * 3 + 1]? = some (.string l[k].text) ∧ (StgsRow l)[k * 3 + 2]? = some (.string l[k].from') := by
  induction l generalizing k with
  | nil => simp at hk
  | cons a t ih =>
    have hc : StgsRow (a :: t) = StgsCells a ++ StgsRow t := by simp [StgsRow]
    rw [hc]
    cases k with
    | zero => simp [StgsCells]
    | succ k =>
      rw [List.getElem?_append_right (by simp [StgsCells] <;> omega), List.getElem?_append_right (by simp [StgsCells] <;> omega), List.getElem?_append_right (by simp [StgsCells] <;> omega)]
      have e0 : (k + 1) * 3 - (StgsCells a).length = k * 3 := by simp [StgsCells] <;> omega
      have e1 : (k + 1) * 3 + 1 - (StgsCells a).length = k * 3 + 1 := by simp [StgsCells] <;> omega
      have e2 : (k + 1) * 3 + 2 - (StgsCells a).length = k * 3 + 2 := by simp [StgsCells] <;> omega
      rw [e0, e1, e2]
      simpa using ih k (by simpa using hk)
/-- A row of one's own. -/
def OwnStgs (B : Nat) (w : World) (v : Value) (l : List Setting) : Prop := w.ownsRow B 131 3 v l.length (StgsRow l)
theorem OwnStgs.below {B : Nat} {w w' : World} {v : Value} {l : List Setting} (h : OwnStgs B w v l) (hb : Below w.heap.size w w') : OwnStgs B w' v l := by
  obtain ⟨hl, h⟩ := h
  refine ⟨hl, ?_⟩
  rcases h with h | ⟨g, cap, cur, hv, hB, hg, h1, h2, h3, h4⟩
  · exact .inl h
  · refine .inr ⟨g, cap, cur, hv, hB, ?_, h1, h2, h3, h4⟩
    rw [hb.block g (Array.getElem?_eq_some_iff.1 hg).1]; exact hg
theorem OwnStgs.mono {B B' : Nat} {w : World} {v : Value} {l : List Setting} (h : OwnStgs B w v l) (hB : B' ≤ B) : OwnStgs B' w v l := by
  obtain ⟨hl, h⟩ := h
  refine ⟨hl, ?_⟩
  rcases h with h | ⟨g, cap, cur, hv, hg, h1⟩
  · exact .inl h
  · exact .inr ⟨g, cap, cur, hv, Nat.le_trans hB hg, h1⟩
theorem OwnStgs.value {B : Nat} {w : World} {v : Value} {l : List Setting} (h : OwnStgs B w v l) :
    ∃ a cap, v = .slice a l.length cap ∧ l.length ≤ maxLen ∧ (0 < l.length → ∃ g, a = some ⟨g, 0, none⟩ ∧ B ≤ g ∧ g < w.heap.size ∧ ∀ j (hj : j < l.length), w.cell? ⟨g, j * 3, none⟩ = some (.string l[j].path) ∧ w.cell? ⟨g, j * 3 + 1, none⟩ = some (.string l[j].text) ∧ w.cell? ⟨g, j * 3 + 2, none⟩ = some (.string l[j].from')) := by
  rcases h.2 with ⟨rfl, h0⟩ | ⟨g, cap, cur, rfl, hB, hg, h1, h2, h3, h4⟩
  · exact ⟨none, 0, by rw [h0], by omega, fun h => by omega⟩
  · refine ⟨_, cap, rfl, by omega, fun _ => ⟨g, rfl, hB, (Array.getElem?_eq_some_iff.1 hg).1, fun j hj => ?_⟩⟩
    simp only [World.cell?, hg]
    have h5 := StgsRow_at l j hj
    rw [← h4, List.getElem?_take, List.getElem?_take, List.getElem?_take, if_pos (by omega), if_pos (by omega), if_pos (by omega)] at h5
    simpa using h5
theorem OwnStgs.at {B : Nat} {w : World} {v : Value} {l : List Setting} (h : OwnStgs B w v l) : StgsAt (fun b => B ≤ b ∧ b < w.heap.size) w v l := by
  obtain ⟨a, cap, hv, hl, hc⟩ := h.value
  refine ⟨hl, a, cap, hv, fun h0 => ?_⟩
  obtain ⟨g, rfl, hB, hg, hcell⟩ := hc h0
  refine ⟨g, 0, rfl, ⟨hB, hg⟩, fun i hi => ?_⟩
  simpa using hcell i hi
theorem OwnStgs.out {B : Nat} {S : Nat → Prop} {w w' : World} {v : Value} {l : List Setting} (h : OwnStgs B w v l) (ho : OutS S w w') (hS : ∀ b, S b → b < B) : OwnStgs B w' v l := by
  obtain ⟨hl, h⟩ := h
  refine ⟨hl, ?_⟩
  rcases h with h | ⟨g, cap, cur, hv, hB, hg, h1⟩
  · exact .inl h
  · refine .inr ⟨g, cap, cur, hv, hB, ?_, h1⟩
    rw [ho.block g (Array.getElem?_eq_some_iff.1 hg).1 (fun hs => by have := hS g hs; omega)]; exact hg
theorem OwnStgs.blk {B b : Nat} {w : World} {v : Value} {l : List Setting} (h : OwnStgs B w v l) (hb : BlkOf v b) : B ≤ b := by
  rcases h.2 with ⟨rfl, _⟩ | ⟨g, cap, cur, rfl, hB, _⟩
  · obtain ⟨_, _, h⟩ := hb; simp at h
  · rw [hb.eq]; exact hB
theorem OwnStgs.block {B : Nat} {w : World} {v : Value} {l : List Setting} (h : OwnStgs B w v l) : ∀ k, v.ownBlock = some k → B ≤ k := by
  intro k hk
  rcases h.2 with ⟨rfl, _⟩ | ⟨g, cap, cur, rfl, hB, _⟩
  · simp [Value.ownBlock] at hk
  · simp [Value.ownBlock] at hk; omega
theorem OwnStgs.kept {B : Nat} {w w' : World} {v : Value} {l : List Setting} {row : Option Nat} (h : OwnStgs B w v l) (hg : w.grownBy w' row) (hne : v.ownBlock = none ∨ v.ownBlock ≠ row) : OwnStgs B w' v l :=
  World.ownsRow.kept h hg hne
theorem OwnStgs.empty (B : Nat) (w : World) (hB : B ≤ w.heap.size) : OwnStgs B (w.alloc (.cells #[] 131)) (.slice (some ⟨w.heap.size, 0, none⟩) 0 0) [] :=
  ⟨rfl, .inr ⟨w.heap.size, 0, #[], rfl, hB, heap_alloc_last w _, Nat.le_refl _, Nat.zero_le _, rfl, rfl⟩⟩
theorem OwnStgs.nil (B : Nat) (w : World) : OwnStgs B w (.slice none 0 0) [] := ⟨rfl, .inl ⟨rfl, rfl⟩⟩
/-- A row of one that is built. -/
theorem StgsAt.new (w : World) (x0 : ByteArray) (x1 : ByteArray) (x2 : ByteArray) : StgsAt (fun b => b = w.heap.size) (w.alloc (.cells #[.string x0, .string x1, .string x2] 131)) (.slice (some ⟨w.heap.size, 0, none⟩) 1 1) [⟨x0, x1, x2⟩] := by
  refine ⟨by simp [maxLen], _, 1, rfl, fun _ => ⟨w.heap.size, 0, rfl, rfl, fun i hi => ?_⟩⟩
  have hi0 : i = 0 := by simpa using hi
  subst hi0
  have hb : Blk (w.alloc (.cells #[.string x0, .string x1, .string x2] 131)) w.heap.size 131 #[.string x0, .string x1, .string x2] := heap_alloc_last w _
  exact ⟨hb.cell 0, hb.cell 1, hb.cell 2⟩
theorem StgsAt.news {S : Nat → Prop} {w : World} {b off len cap : Nat} {ys : List Setting} (h : StgsAt S w (.slice (some ⟨b, off, none⟩) len cap) ys) : ∀ j u, (StgsRow ys)[j]? = some u → w.cell? ((⟨b, off, none⟩ : Addr).add j) = some u := by
  intro j u hj
  have hlt : j < ys.length * 3 := by
    have := (List.getElem?_eq_some_iff.1 hj).1
    rwa [StgsRow_length] at this
  obtain ⟨_, a, c, hv, hc⟩ := h
  obtain ⟨b', off', ha, _, hcell⟩ := hc (by omega)
  simp only [Value.slice.injEq] at hv
  obtain ⟨rfl, _, _⟩ := hv
  simp only [Option.some.injEq, Addr.mk.injEq] at ha
  obtain ⟨rfl, rfl, _⟩ := ha
  have hk : j / 3 < ys.length := by omega
  have hcc := hcell (j / 3) hk
  have hrr := StgsRow_at ys (j / 3) hk
  rw [addr_at]
  obtain ⟨c0, c1, c2⟩ := hcc
  obtain ⟨r0, r1, r2⟩ := hrr
  have h3 : j % 3 = 0 ∨ j % 3 = 1 ∨ j % 3 = 2 := by omega
  rcases h3 with h3 | h3 | h3
  · have e : j = j / 3 * 3 := by omega
    rw [e] at hj
    rw [r0] at hj
    rw [show off + j = off + j / 3 * 3 by omega, c0, ← hj]
  · have e : j = j / 3 * 3 + 1 := by omega
    rw [e] at hj
    rw [r1] at hj
    rw [show off + j = off + j / 3 * 3 + 1 by omega, c1, ← hj]
  · have e : j = j / 3 * 3 + 2 := by omega
    rw [e] at hj
    rw [r2] at hj
    rw [show off + j = off + j / 3 * 3 + 2 by omega, c2, ← hj]
theorem wpList_appendStgs {ops : Array Oper} {rest : List Oper} {o : Oper} {a : Act} {w : World} {Q : Exit → Act → World → Prop} (hgd : o.guard = none) (s x : Operand)
    (ho : o.op = .call { callee := .builtin .append, args := #[s, x], argTypes := #[128, 128] })
    (B : Nat) (v : Value) (l : List Setting) (hs : a.eval s = v) (hown : OwnStgs B w v l) {S : Nat → Prop} (u : Value) (ys : List Setting) (hx : a.eval x = u) (hsrc : StgsAt S w u ys)
    (hsz : l.length + ys.length ≤ 1000000) (hB : B ≤ w.heap.size)
    (h : ∀ v' w', OwnStgs B w' v' (l ++ ys) → Below B w w' → w.grownBy w' v.ownBlock → (v' = .slice none 0 0 → v = .slice none 0 0) → wpList Tryz.prog ops Q rest (a.put o.dst v') w') : wpList Tryz.prog ops Q (o :: rest) a w := by
  obtain ⟨i, hii, hz0, hz1, hz2⟩ := info_of (t := 131) (z := .agg #[.string ⟨#[]⟩, .string ⟨#[]⟩, .string ⟨#[]⟩]) (n := 3) (b := 48) (by kernel_rfl)
  obtain ⟨_, ao, c, hv, hc⟩ := id hsrc
  by_cases h0 : 0 < ys.length
  · obtain ⟨b, off, rfl, _, _⟩ := hc h0
    subst hv
    refine wpList_append_own w hgd s x 128 ho B 131 i (.agg #[.string ⟨#[]⟩, .string ⟨#[]⟩, .string ⟨#[]⟩]) 3 48 Tryz.underlying128 hii hz0 hz1 hz2 rfl (by decide) v l.length (StgsRow l) hs hown ⟨b, off, none⟩ ys.length c (StgsRow ys) hx (StgsRow_length ys) hsrc.news (fun u hu => StgsRow_one hu) ?_ ?_ hB ?_
    · unfold maxLen; omega
    · omega
    · intro v' w' h1 h2 h3
      have h4 : OwnStgs B w' v' (l ++ ys) := by
        unfold OwnStgs
        rw [StgsRow_append, List.length_append]
        exact h1
      have h5 := (Below.refl _ w).grown h2 hB (OwnStgs.block hown)
      exact h v' w' h4 h5 h2 (fun e => (h3.1 e).1)
  · have hy : ys = [] := List.length_eq_zero_iff.1 (by omega)
    subst hy
    subst hv
    have hrun : (Builtin.append_ #[128, 128] o.type #[v, .slice ao 0 c]).run Tryz.prog w = .ok v w := run_append_zero Tryz.underlying128 hii v _ _ hown ao c
    refine wpList_plain hgd fun K hK => ?_
    unfold Oper.wp
    simp only [List.length_nil] at hx
    simp [execOp, ho, resolve, invoke, builtin, hs, hx, hrun, Result.andThen]
    exact hK _ _ (h v w (by simpa using hown) (Below.refl _ _) (grown_refl _ _) id)
theorem step_appendStgs {ops : Array Oper} {o : Oper} {a : Act} {w : World} {K : Act → World → Prop} {Q : Exit → Act → World → Prop} {E : Prop}
    (hg : o.guard = none) (s x : Operand) (ho : o.op = Op.call { callee := Callee.builtin Builtin.append, args := #[s, x], argTypes := #[128, 128] })
    (B : Nat) (v : Value) (l : List Setting) (hs : a.eval s = v) (hown : OwnStgs B w v l) {S : Nat → Prop} (u : Value) (ys : List Setting) (hx : a.eval x = u) (hsrc : StgsAt S w u ys)
    (hsz : l.length + ys.length ≤ 1000000) (hB : B ≤ w.heap.size)
    (hK : ∀ va vn vc w', OwnStgs B w' (.slice va vn vc) (l ++ ys) → Below B w w' → w.grownBy w' v.ownBlock → (Value.slice va vn vc = .slice none 0 0 → v = .slice none 0 0) → K (a.put o.dst (.slice va vn vc)) w') :
    if Region.wanted o (yielded ops a.tmps) = true then Oper.wp Tryz.prog o a w K Q else E := by
  have hw : Region.wanted o (yielded ops a.tmps) = true := by simp [Region.wanted, hg]
  rw [if_pos hw]
  obtain ⟨i, hii, hz0, hz1, hz2⟩ := info_of (t := 131) (z := .agg #[.string ⟨#[]⟩, .string ⟨#[]⟩, .string ⟨#[]⟩]) (n := 3) (b := 48) (by kernel_rfl)
  obtain ⟨_, ao, c, hv, hc⟩ := id hsrc
  by_cases h0 : 0 < ys.length
  · obtain ⟨b, off, rfl, _, _⟩ := hc h0
    subst hv
    refine wp_append_own w  s x 128 ho B 131 i (.agg #[.string ⟨#[]⟩, .string ⟨#[]⟩, .string ⟨#[]⟩]) 3 48 Tryz.underlying128 hii hz0 hz1 hz2 rfl (by decide) v l.length (StgsRow l) hs hown ⟨b, off, none⟩ ys.length c (StgsRow ys) hx (StgsRow_length ys) hsrc.news (fun u hu => StgsRow_one hu) ?_ ?_ hB ?_
    · unfold maxLen; omega
    · omega
    · intro v' w' h1 h2 h3
      have h4 : OwnStgs B w' v' (l ++ ys) := by
        unfold OwnStgs
        rw [StgsRow_append, List.length_append]
        exact h1
      have h5 := (Below.refl _ w).grown h2 hB (OwnStgs.block hown)
      rcases h4.2 with ⟨rfl, _⟩ | ⟨g, cap, cur, rfl, _⟩
      · exact hK _ _ _ w' h4 h5 h2 (fun e => (h3.1 e).1)
      · exact hK _ _ _ w' h4 h5 h2 (fun e => (h3.1 e).1)
  · have hy : ys = [] := List.length_eq_zero_iff.1 (by omega)
    subst hy
    subst hv
    have hrun : (Builtin.append_ #[128, 128] o.type #[v, .slice ao 0 c]).run Tryz.prog w = .ok v w := run_append_zero Tryz.underlying128 hii v _ _ hown ao c
    unfold Oper.wp
    simp only [List.length_nil] at hx
    simp [execOp, ho, resolve, invoke, builtin, hs, hx, hrun, Result.andThen]
    obtain ⟨va, vc, hvv, _⟩ := hown.value
    subst hvv
    exact hK _ _ _ w (by simpa using hown) (Below.refl _ _) (grown_refl _ _) id
end Go.Proofs.YtdlopjimheaekaaGreatDoor

namespace Go.Proofs.YtdlopjimheaekaaGreatDoor
open Go.ChangeShapes Go.WideShapes Go.ChangeAt Go.RowKit Go.Maps
open Go.Sort (grow putRow putCells mapBlock onCells heap_grow_old ahead HoldsK flatK get_flatK size_flatK putRowK PermIn SortedIn SWO)
set_option linter.unusedVariables false

instance : Inhabited Setting := ⟨⟨⟨#[]⟩, ⟨#[]⟩, ⟨#[]⟩⟩⟩
def cmpSt (x y : Setting) : Int := Lib.compareBytes x.path.data.toList y.path.data.toList
theorem cmpB : ∀ (l m : List UInt8), Lib.compareBytes l m < 0 ↔ l < m
  | [], [] => by simp [Lib.compareBytes]
  | [], b :: bs => by simp [Lib.compareBytes]
  | a :: xs, [] => by simp [Lib.compareBytes]
  | a :: xs, b :: bs => by
    unfold Lib.compareBytes
    rw [List.cons_lt_cons_iff]
    by_cases h1 : a < b
    · simp [h1]
    · rw [if_neg h1]
      by_cases h2 : b < a
      · rw [if_pos h2]
        have h3 : ¬ a = b := fun e => by subst e; exact absurd h2 (UInt8.lt_irrefl _)
        simp [h1, h3]
      · rw [if_neg h2, cmpB xs bs]
        have h3 : a = b := UInt8.le_antisymm (UInt8.not_lt.1 h2) (UInt8.not_lt.1 h1)
        simp [h3]
theorem ltSt (x y : Setting) : ltOf cmpSt x y = lessB x.path y.path := by
  unfold ltOf cmpSt
  rw [lessB_eq, Bool.eq_iff_iff, decide_eq_true_eq, decide_eq_true_eq, cmpB]
theorem lessB_neg {x y z : ByteArray} (h1 : lessB x y = false) (h2 : lessB y z = false) : lessB x z = false := by
  cases h : lessB x z
  · rfl
  · by_cases e : x = y
    · subst e; rw [h] at h2; cases h2
    · rcases lessB_total e with q | q
      · rw [q] at h1; cases h1
      · rw [lessB_trans q h] at h2; cases h2
theorem swoSt : SWO (ltOf cmpSt) where
  irrefl x := by rw [ltSt]; exact lessB_irrefl x.path
  trans x y z h1 h2 := by rw [ltSt] at *; exact lessB_trans h1 h2
  ntrans x y z h1 h2 := by rw [ltSt] at *; exact lessB_neg h1 h2
/-- What a sort leaves. -/
structure SortedS (l l' : List Setting) : Prop where
  perm : l'.Perm l
  rises : l'.Pairwise fun x y => lessB y.path x.path = false
theorem implSortSt {B : Nat} {w : World} {v : Value} {l : List Setting} (h : OwnStgs B w v l) (hl : l.length ≤ 1000000) :
    Calls Tryz.prog 110 #[v, .func (.func 111) #[] #[]] w fun e w' => e = .returned (.tuple #[]) ∧ ∃ l', SortedS l l' ∧ OwnStgs B w' v l' ∧ w.grownBy w' v.ownBlock := by
  by_cases h0 : l = []
  · subst h0
    obtain ⟨a, cap, rfl, _⟩ := h.value
    refine (AnyF.slices_SortFunc_none { Tryz.sortSet with } a cap _ w).mono ?_
    rintro e w' ⟨rfl, rfl⟩
    exact ⟨rfl, [], ⟨List.Perm.refl _, List.Pairwise.nil⟩, h, grown_refl _ _⟩
  · have hpos : 0 < l.length := by
      cases l with
      | nil => exact absurd rfl h0
      | cons a r => simp
    rcases h.2 with ⟨_, hz⟩ | ⟨g, cap, cur, rfl, hB, hg, hn1, hn2, hn3, hn4⟩
    · omega
    have hk : ∀ x : Setting, (StgsCells x).length = 3 := fun _ => rfl
    have hH : HoldsK StgsCells 3 w g 0 l.toArray := holdsK_of_block hk (by omega) hg hn4
    have eg : ∀ args w, (callFunc 111 args).run Tryz.prog w = .ok (.enter 111 args) w := enters_of Tryz.func111 (by kernel_rfl) rfl
    have hcmp : CmpLays Tryz.prog 111 #[] StgsCells 3 cmpSt g 0 l.toArray.size w := by
      intro m os dk _ x y
      obtain ⟨xp, xt, xf⟩ := x
      obtain ⟨yp, yt, yf⟩ := y
      exact implCmpSt xp xt xf yp yt yf _
    have hcon := AnyQ.slices_SortFunc Tryz.sortSet 3 Tryz.isAgg131 Tryz.sizeOf131 StgsCells hk (fun x v hv => by
      simp [StgsCells] at hv
      rcases hv with rfl | rfl | rfl <;> rfl) cmpSt swoSt 111 #[] g 0 cap l.toArray w eg hcmp hH (Array.getElem?_eq_some_iff.1 hg).1 (by simp; omega)
    have e1 : l.length = l.toArray.size := by simp
    rw [e1]
    refine Calls.mono hcon ?_
    rintro e w' ⟨rfl, d', n, os, hp, hso, rfl⟩
    have hsize : d'.toList.length = l.length := by rw [Array.length_toList, hp.1]; simp
    refine ⟨rfl, d'.toList, ⟨perm_of hp, ?_⟩, ?_, grownBy_sortedK d'⟩
    · refine (sorted_of hp hso).imp ?_
      intro a b hab
      rw [ltSt] at hab
      exact hab
    · have := ownsRow_sortedK (n := n) (os := os) hk (by omega) hsize hB hg hn1 hn2 hn3
      unfold OwnStgs StgsRow
      rw [hsize]
      simpa using this
theorem StgsAt.newAt (w : World) (x y z : ByteArray) (g : Nat) (hg : w.heap.size = g) : StgsAt (fun b => b = g) (w.alloc (.cells #[.string x, .string y, .string z] 131)) (.slice (some ⟨g, 0, none⟩) 1 1) [⟨x, y, z⟩] := by
  subst hg; exact StgsAt.new w x y z
/-- What has been told so far: those of the settings that are no longer to come. -/
def Told (out acc : List Setting) (left : Lit → Bool) : Prop := (∀ s, s ∈ acc ↔ s ∈ out ∧ left (textKey s.path) = false) ∧ acc.Pairwise fun x y => x.path ≠ y.path
theorem Told.start {D : DataW Value} {f : ByteArray → Option Setting} {out : List Setting} (h : Rep D f) (ho : IsOf f out) : Told out [] (has D) := by
  refine ⟨fun s => ⟨fun hs => (by cases hs), ?_⟩, List.Pairwise.nil⟩
  rintro ⟨h1, h2⟩
  rw [h.has, (ho s.path s).2 ⟨h1, rfl⟩] at h2
  cases h2
theorem Told.step {f : ByteArray → Option Setting} {out acc : List Setting} {left : Lit → Bool} {x : ByteArray} {c : Setting} (h : Told out acc left) (ho : IsOf f out) (hx : f x = some c) (hl : left (textKey x) = true) : Told out (acc ++ [c]) (fun z => left z && !z.sameKey (textKey x)) := by
  obtain ⟨hc, hp⟩ := (ho x c).1 hx
  subst hp
  refine ⟨fun s => ?_, ?_⟩
  · rw [List.mem_append, h.1, List.mem_singleton]
    simp only [same_text]
    constructor
    · rintro (⟨h1, h2⟩ | rfl)
      · exact ⟨h1, by rw [h2]; rfl⟩
      · exact ⟨hc, by simp⟩
    · rintro ⟨h1, h2⟩
      by_cases e : s.path = c.path
      · right
        have := (ho c.path s).2 ⟨h1, e⟩
        rw [hx] at this
        cases this
        rfl
      · left
        refine ⟨h1, ?_⟩
        simpa [e] using h2
  · rw [List.pairwise_append]
    refine ⟨h.2, by simp, fun a ha b hb e => ?_⟩
    simp at hb
    subst hb
    have := ((h.1 a).1 ha).2
    rw [e, hl] at this
    cases this
theorem Told.end {out acc l : List Setting} {left : Lit → Bool} (h : Told out acc left) (hl : ∀ k, left k = false) (hr : SRises out) (hs : SortedS acc l) : l = out := by
  have hn : l.Pairwise fun x y => x.path ≠ y.path := (hs.perm.pairwise_iff (fun {_ _} h => Ne.symm h)).2 h.2
  refine SRises.eq ?_ hr (fun x => ?_)
  · unfold SRises
    rw [List.pairwise_iff_getElem]
    intro i j hi hj hij
    rcases lessB_total (List.pairwise_iff_getElem.1 hn i j hi hj hij) with q | q
    · exact q
    · rw [List.pairwise_iff_getElem.1 hs.rises i j hi hj hij] at q; cases q
  · rw [hs.perm.mem_iff, h.1, hl]
    simp
set_option maxRecDepth 100000 in
set_option maxHeartbeats 4000000 in
theorem implInOrder {w : World} {b n : Nat} {out : List Setting} (h : MapS w b n out) (hr : SRises out) (hn : n ≤ 4000) :
    Calls Tryz.prog 88 #[.map (some b)] w fun e w' => (∃ p, e = .returned p ∧ OwnStgs w.heap.size w' p out) ∧ Below w.heap.size w w' := by
  have hlt := h.lt
  obtain ⟨D, f, hown, hrep, hof⟩ := h
  have hsize := hown.size_le
  have HOF : Hid (IsOf f out) := hof
  have HREP : Hid (Rep D f) := hrep
  have HST : Hid (Told out [] (has D)) := Told.start hrep hof
  have HR : Hid (SRises out) := hr
  clear hof hrep hr
  go_enter Tryz.func88, Tryz.ntmps88
  go_wp2_with (first
    | (at_range; refine wpList_range_own _ rfl _ 94 rfl 9 131 law9 Tryz.underlying94 _ b n _ rfl hown ?_; intro w0 hrg0 hg0 hs0)
    | go_in)
  go_frame
  have hb0 : Below w.heap.size w w0 := (Below.refl _ w).grown hg0 (Nat.le_refl _) (fun j hj => by cases hj)
  go_loopw [3] (fun i3 wr => ∃ (left : Lit → Bool) (cnt : Nat) (aa : Option Addr) (ac : Nat) (acc : List Setting), i3 = .slice aa acc.length ac ∧ wr.ranges Tryz.prog 9 heldS b w.heap.size n D left cnt ∧ Told out acc left ∧ acc.length + cnt ≤ n ∧ OwnStgs (w.heap.size + 1) wr (.slice aa acc.length ac) acc ∧ Below w.heap.size w wr) (fun _ wr => wr.rangeLeft b w.heap.size)
  case atStart => exact ⟨_, _, none, 0, [], rfl, hrg0, HST.out, by simpa using hsize, OwnStgs.nil _ _, hb0⟩
  case round =>
    obtain ⟨left, cnt, aa, ac, acc, rfl, hrg, htold, hac, hoa, hb⟩ := hrel
    have HTO : Hid (Told out acc left) := htold
    have HOA : Hid (OwnStgs (w.heap.size + 1) wr (.slice aa acc.length ac) acc) := hoa
    have hbs := hrg.lt
    have hacn : acc.length ≤ 4000 := by omega
    clear htold hoa hg0 hrg0
    go_wp2_with (first
      | (at_next; refine wpList_nextS _ rfl _ rfl b w.heap.size n _ _ _ rfl hrg ?_ ?_)
      | go_in)
    · intro _ hl0
      have cs := implSortSt HOA.out (by omega)
      go_wp2_with (go_at_call 110; go_must (refine cs.mono ?_; rintro e w2 ⟨rfl, l2, hso, hop, hgr⟩))
      have hl2 := HTO.out.end hl0 HR.out hso
      subst hl2
      go_ret
      exact ⟨⟨_, rfl, OwnStgs.mono hop (Nat.le_succ _)⟩, hb.grown hgr hb.size (fun j hj => Nat.le_trans (Nat.le_succ _) (OwnStgs.block HOA.out j hj))⟩
    · intro x cp ct cf w2 cnt1 hlx hat hkey hrg1 hlt1 hg1 hs1 hen
      have hcx := HREP.out.some hat
      have HT2 : Hid (Told out (acc ++ [⟨cp, ct, cf⟩]) (fun z => left z && !z.sameKey (textKey x))) := HTO.out.step HOF.out hcx hlx
      have hb2 : Below w.heap.size w w2 := hb.grown hg1 hb.size (fun j hj => by cases hj; exact Nat.le_refl _)
      have hoa2 : OwnStgs (w.heap.size + 1) w2 (.slice aa acc.length ac) acc := HOA.out.kept hg1 (.inr (fun e => by
        have := OwnStgs.block HOA.out w.heap.size e
        omega))
      have HOA2 : Hid (OwnStgs (w.heap.size + 1) w2 (.slice aa acc.length ac) acc) := hoa2
      have HRG1 : Hid (w2.ranges Tryz.prog 9 heldS b w.heap.size n D (fun z => left z && !z.sameKey (textKey x)) cnt1) := hrg1
      have hw2s : w.heap.size + 1 ≤ w2.heap.size := by have := hrg1.lt; omega
      have hbk : ∀ o, Below w2.heap.size w2 ((w2.alloc (.cells #[.string cp, .string ct, .string cf] 131)).alloc o) := fun o => ((Below.refl _ w2).alloc (Nat.le_refl _) _).alloc (by simp) _
      clear hat hcx hoa2 hrg1 hs1
      go_wp2_with (at_builtin; go_must (refine wpList_appendStgs rfl (.tmp 12) (.tmp 14) rfl (w.heap.size + 1) (.slice aa acc.length ac) acc rfl (OwnStgs.below HOA2.out (hbk _)) _ [⟨cp, ct, cf⟩] rfl (StgsAt.newAt _ cp ct cf _ (by simp)) (by simp <;> omega) (by simp only [World.size_alloc]; omega) ?_; intro v9 w9 hown9 hB9 hgr9 hnil9; obtain ⟨a9, c9, e9, -⟩ := hown9.value; subst e9))
      have hnb : ∀ j, (Value.slice aa acc.length ac).ownBlock = some j → w.heap.size + 1 ≤ j := OwnStgs.block HOA2.out
      have hrg9 : w9.ranges Tryz.prog 9 heldS b w.heap.size n D (fun z => left z && !z.sameKey (textKey x)) cnt1 := ((HRG1.out.alloc _).alloc _).kept hgr9 (fun e => by have := hnb b e.symm; omega) (fun e => by have := hnb _ e.symm; omega)
      refine ⟨⟨_, cnt1, a9, c9, acc ++ [⟨cp, ct, cf⟩], by simp, hrg9, HT2.out, by simp; omega, hown9, ?_⟩, ?_⟩
      · exact ((hb2.alloc hb2.size _).alloc (by simp; omega) _).grown hgr9 (by simp; omega) (fun j hj => Nat.le_trans (Nat.le_succ _) (hnb j hj))
      · rw [hrg9.left_eq, hrg.left_eq]; exact hlt1
end Go.Proofs.YtdlopjimheaekaaGreatDoor
