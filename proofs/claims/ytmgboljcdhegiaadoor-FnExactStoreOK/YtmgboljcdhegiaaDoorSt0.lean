/-
  Stores as plain data; how large they are. No statement of the seat is proved here.
-/
import Derived.Test.YtmgboljcdhegiaaDoorRows
import Derived.WalkKit
import Derived.ProofKit
import Derived.OpenShut
import Derived.WalkSpells
import Derived.Below
import Derived.BigQuiet
import Derived.BigRegion
import Derived.Laws.MakeOwn
namespace Go.Proofs.YtmgboljcdhegiaaDoor
open Go.ChangeShapes Go.WideShapes Go.ChangeAt Go.RowKit
set_option linter.unusedVariables false

/-- The block g holds just these cells. -/
def Blk (w : World) (g : Nat) (ty : TypeId) (cs : Array Value) : Prop := w.heap[g]? = some (.cells cs ty (0, 0))
theorem Blk.lt {w : World} {g : Nat} {ty : TypeId} {cs : Array Value} (h : Blk w g ty cs) : g < w.heap.size := (Array.getElem?_eq_some_iff.1 h).1
theorem Blk.cell {w : World} {g : Nat} {ty : TypeId} {cs : Array Value} (h : Blk w g ty cs) (i : Nat) : w.cell? ⟨g, i, none⟩ = cs[i]? := by
  simp only [World.cell?]; rw [show w.heap[g]? = _ from h]; rfl
theorem Blk.fro {w : World} {g : Nat} {ty : TypeId} {cs : Array Value} (h : Blk w g ty cs) (i : Nat) : w.frozen? ⟨g, i, none⟩ = false := by
  simp only [World.frozen?]; rw [show w.heap[g]? = _ from h]; simp
theorem Blk.set {w : World} {g : Nat} {ty : TypeId} {cs : Array Value} (h : Blk w g ty cs) (i : Nat) (v : Value) : Blk (w.setCell ⟨g, i, none⟩ v) g ty (cs.setIfInBounds i v) := by
  unfold Blk at *
  simp only [World.setCell, Array.getElem?_modify, if_true, h]
  rfl
theorem Blk.below {w w' : World} {g : Nat} {ty : TypeId} {cs : Array Value} (h : Blk w g ty cs) (hb : Below w.heap.size w w') : Blk w' g ty cs := by
  unfold Blk at *; rw [hb.block g (Blk.lt h)]; exact h
theorem good_below {w W W' : World} (h : Below w.heap.size w W) (hb : Below W.heap.size W W') : Below w.heap.size w W' := h.trans (hb.mono h.size)

/-- A need, and a release, as plain data. -/
structure Imp where
  name : ByteArray
  mn : Int
  mx : Int
structure Rel where
  name : ByteArray
  ver : Int
  needs : List Imp

/-- The slice v reads in w, out of blocks of S, as the needs l. -/
def ImpsAt (S : Nat → Prop) (w : World) (v : Value) (l : List Imp) : Prop := l.length ≤ maxLen ∧ ∃ a cap, v = .slice a l.length cap ∧ (0 < l.length → ∃ b off, a = some ⟨b, off, none⟩ ∧ S b ∧
  ∀ i (h : i < l.length), w.cell? ⟨b, off + i * 3, none⟩ = some (.string l[i].name) ∧ w.cell? ⟨b, off + i * 3 + 1, none⟩ = some (.int .i64 l[i].mn) ∧ w.cell? ⟨b, off + i * 3 + 2, none⟩ = some (.int .i64 l[i].mx))
theorem ImpsAt.keep {S : Nat → Prop} {w w' : World} {v : Value} {l : List Imp} (h : ImpsAt S w v l) (hk : ∀ b i, S b → w'.cell? ⟨b, i, none⟩ = w.cell? ⟨b, i, none⟩) : ImpsAt S w' v l := by
  obtain ⟨hl, a, cap, hv, h⟩ := h
  refine ⟨hl, a, cap, hv, fun h0 => ?_⟩
  obtain ⟨b, off, ha, hbB, hc⟩ := h h0
  refine ⟨b, off, ha, hbB, fun i hi => ?_⟩
  obtain ⟨c1, c2, c3⟩ := hc i hi
  exact ⟨(hk _ _ hbB).trans c1, (hk _ _ hbB).trans c2, (hk _ _ hbB).trans c3⟩
theorem ImpsAt.mono {S S' : Nat → Prop} {w : World} {v : Value} {l : List Imp} (h : ImpsAt S w v l) (hS : ∀ b, S b → S' b) : ImpsAt S' w v l := by
  obtain ⟨hl, a, cap, hv, h⟩ := h
  refine ⟨hl, a, cap, hv, fun h0 => ?_⟩
  obtain ⟨b, off, ha, hbB, hc⟩ := h h0
  exact ⟨b, off, ha, hS b hbB, hc⟩
theorem cells_below {S : Nat → Prop} {w w' : World} (hS : ∀ b, S b → b < w.heap.size) (hb : Below w.heap.size w w') : ∀ b i, S b → w'.cell? ⟨b, i, none⟩ = w.cell? ⟨b, i, none⟩ := fun b i h => hb.cell (hS b h)
/-- The slice v reads in w, out of blocks of S, as the releases l. -/
def RelsAt (S : Nat → Prop) (w : World) (v : Value) (l : List Rel) : Prop := l.length ≤ maxLen ∧ ∃ a cap, v = .slice a l.length cap ∧ (0 < l.length → ∃ b off, a = some ⟨b, off, none⟩ ∧ S b ∧
  ∀ i (h : i < l.length), w.cell? ⟨b, off + i * 3, none⟩ = some (.string l[i].name) ∧ w.cell? ⟨b, off + i * 3 + 1, none⟩ = some (.int .i64 l[i].ver) ∧ ∃ nv, w.cell? ⟨b, off + i * 3 + 2, none⟩ = some nv ∧ ImpsAt S w nv l[i].needs)
theorem RelsAt.keep {S : Nat → Prop} {w w' : World} {v : Value} {l : List Rel} (h : RelsAt S w v l) (hk : ∀ b i, S b → w'.cell? ⟨b, i, none⟩ = w.cell? ⟨b, i, none⟩) : RelsAt S w' v l := by
  obtain ⟨hl, a, cap, hv, h⟩ := h
  refine ⟨hl, a, cap, hv, fun h0 => ?_⟩
  obtain ⟨b, off, ha, hbB, hc⟩ := h h0
  refine ⟨b, off, ha, hbB, fun i hi => ?_⟩
  obtain ⟨c1, c2, nv, c3, c4⟩ := hc i hi
  exact ⟨(hk _ _ hbB).trans c1, (hk _ _ hbB).trans c2, nv, (hk _ _ hbB).trans c3, c4.keep hk⟩

/-! ### How large what came in is -/
def ImpOK (left : Int) (x : Imp) : Prop := (x.name.size : Int) ≤ left
set_option maxRecDepth 100000 in
theorem szImport (x : Imp) (left : Int) (h0 : 0 ≤ left) (h1 : left ≤ 1048576) (hx : x.name.size ≤ maxLen) (w : World) :
    Calls Tryd.prog 27 #[.agg #[.string x.name, .int .i64 x.mn, .int .i64 x.mx], .int .i64 left] w fun e w' => (∃ r : Int, e = .returned (.int .i64 r) ∧ (r = -1 ∨ (0 ≤ r ∧ r ≤ left ∧ ImpOK left x))) ∧ Below w.heap.size w w' := by
  have hm : (x.name.size : Int) ≤ 9223372036854775807 := by simp [maxLen] at hx; omega
  unfold ImpOK
  obtain ⟨nm, mn, mx⟩ := x
  dsimp only at hx hm ⊢
  by_cases hn : left - (nm.size : Int) < 0
  · go_enter Tryd.func27, Tryd.ntmps27
    go_wp2_with fail
    go_ret
    exact ⟨⟨-1, rfl, .inl rfl⟩, (Below.refl _ w).alloc (Nat.le_refl _) _⟩
  · go_enter Tryd.func27, Tryd.ntmps27
    go_wp2_with fail
    go_ret
    exact ⟨⟨_, rfl, .inr ⟨by omega, by omega, by omega⟩⟩, (Below.refl _ w).alloc (Nat.le_refl _) _⟩

set_option maxRecDepth 100000 in
set_option maxHeartbeats 400000 in
theorem szImportS {S : Nat → Prop} {l : List Imp} {v : Value} {w : World} (hS : ∀ b, S b → b < w.heap.size) (h : ImpsAt S w v l) (hx : ∀ x ∈ l, x.name.size ≤ maxLen) (left : Int) (h0 : 0 ≤ left) (h1 : left ≤ 1048576) :
    Calls Tryd.prog 15 #[v, .int .i64 left] w fun e w' => (∃ r : Int, e = .returned (.int .i64 r) ∧ (r = -1 ∨ (0 ≤ r ∧ r ≤ left ∧ (l.length : Int) ≤ left ∧ ∀ x ∈ l, ImpOK left x))) ∧ Below w.heap.size w w' := by
  have HH : Hid (ImpsAt S w v l) := h
  have HX : Hid (∀ x ∈ l, x.name.size ≤ maxLen) := hx
  obtain ⟨hlm, a, cap, rfl, hc⟩ := h
  have hlm' : (l.length : Int) ≤ 9223372036854775807 := by simp [maxLen] at hlm; omega
  clear hx hlm
  by_cases hn : left - (l.length : Int) < 0
  · clear hc
    go_enter Tryd.func15, Tryd.ntmps15
    go_wp2_with fail
    go_ret
    exact ⟨⟨-1, rfl, .inl rfl⟩, Below.refl _ _⟩
  · have HC : Hid _ := hc
    clear hc
    go_enter Tryd.func15, Tryd.ntmps15
    go_wp2_with fail
    go_loopw [1, 5] (fun i1 i5 wr => ∃ (k : Nat) (r : Int), i5 = .int .i64 (k : Int) ∧ i1 = .int .i64 r ∧ k ≤ l.length ∧ 0 ≤ r ∧ r ≤ left ∧ (∀ i (h : i < l.length), i < k → ImpOK left l[i]) ∧ Below w.heap.size w wr) (fun _ i5 _ => l.length - (intOf i5).toNat)
    case atStart => exact ⟨0, _, rfl, rfl, by omega, by omega, by omega, fun i _ h => by omega, Below.refl _ _⟩
    case round =>
      obtain ⟨k, r, rfl, rfl, hk, hr0, hr1, hall, hb⟩ := hrel
      have HA : Hid _ := hall
      clear hall
      by_cases hkn : k < l.length
      · have hkn' : (k : Int) < (l.length : Int) := by omega
        obtain ⟨b, off, rfl, hbB, hcell⟩ := HC.out (by omega)
        obtain ⟨c1, c2, c3⟩ := hcell k hkn
        have hbw : b < w.heap.size := hS b hbB
        have d1 := (hb.cell (p := ⟨b, off + k * 3, none⟩) hbw).trans c1
        have d2 := (hb.cell (p := ⟨b, off + k * 3 + 1, none⟩) hbw).trans c2
        have d3 := (hb.cell (p := ⟨b, off + k * 3 + 2, none⟩) hbw).trans c3
        have cs := fun w => szImport l[k] r hr0 (by omega) (HX.out _ (List.getElem_mem hkn)) w
        obtain ⟨x, hxk⟩ : ∃ x, l[k] = x := ⟨_, rfl⟩
        rw [hxk] at d1 d2 d3 cs
        have HXK : Hid (l[k] = x) := hxk
        clear hxk c1 c2 c3 hcell
        obtain ⟨nm, mn, mx⟩ := x
        dsimp only at d1 d2 d3 cs
        go_wp2_with (go_at_call 27; go_must (refine (cs _).mono ?_; rintro e w1 ⟨⟨r1, rfl, hr⟩, hb1⟩))
        · go_ret
          exact ⟨⟨-1, rfl, .inl rfl⟩, good_below hb hb1⟩
        · have hr2 : 0 ≤ r1 := by omega
          have hr3 : r1 ≤ r ∧ ImpOK r ⟨nm, mn, mx⟩ := hr.elim (fun h => by omega) (fun h => h.2)
          refine ⟨⟨k + 1, r1, rfl, rfl, by omega, hr2, by omega, fun i hi hik => ?_, good_below hb hb1⟩, by simp [intOf]; omega⟩
          by_cases hik2 : i < k
          · exact HA.out i hi hik2
          · obtain rfl : i = k := by omega
            rw [HXK.out]
            have := hr3.2
            unfold ImpOK at this ⊢
            omega
      · have hkn' : ¬ ((k : Int) < (l.length : Int)) := by omega
        go_wp2_with fail
        go_ret
        refine ⟨⟨r, rfl, .inr ⟨hr0, hr1, by omega, fun x hx => ?_⟩⟩, hb⟩
        obtain ⟨i, hi, rfl⟩ := List.getElem_of_mem hx
        exact HA.out i hi (by omega)

def RelOK (left : Int) (x : Rel) : Prop := (x.name.size : Int) ≤ left ∧ (x.needs.length : Int) ≤ left ∧ ∀ y ∈ x.needs, ImpOK left y
theorem ImpOK.mono {a b : Int} {x : Imp} (h : ImpOK a x) (hab : a ≤ b) : ImpOK b x := by unfold ImpOK at *; omega
theorem RelOK.mono {a b : Int} {x : Rel} (h : RelOK a x) (hab : a ≤ b) : RelOK b x := ⟨by have := h.1; omega, by have := h.2.1; omega, fun y hy => (h.2.2 y hy).mono hab⟩
/-- What a release's texts are at most, of themselves. -/
def RelFit (x : Rel) : Prop := x.name.size ≤ maxLen ∧ ∀ y ∈ x.needs, y.name.size ≤ maxLen

set_option maxRecDepth 100000 in
theorem szRelease {S : Nat → Prop} (x : Rel) (nv : Value) (w : World) (hS : ∀ b, S b → b < w.heap.size) (h : ImpsAt S w nv x.needs) (hf : RelFit x) (left : Int) (h0 : 0 ≤ left) (h1 : left ≤ 1048576) :
    Calls Tryd.prog 9 #[.agg #[.string x.name, .int .i64 x.ver, nv], .int .i64 left] w fun e w' => (∃ r : Int, e = .returned (.int .i64 r) ∧ (r = -1 ∨ (0 ≤ r ∧ r ≤ left ∧ RelOK left x))) ∧ Below w.heap.size w w' := by
  have hm : (x.name.size : Int) ≤ 9223372036854775807 := by have := hf.1; simp [maxLen] at this; omega
  have hw1 : ∀ o, Below w.heap.size w (w.alloc o) := fun o => (Below.refl _ w).alloc (Nat.le_refl _) _
  by_cases hn : left - (x.name.size : Int) < 0
  · clear h
    obtain ⟨nm, ve, ns⟩ := x
    dsimp only at hn hm ⊢
    go_enter Tryd.func9, Tryd.ntmps9
    go_wp2_with fail
    go_ret
    exact ⟨⟨-1, rfl, .inl rfl⟩, hw1 _⟩
  · have cs := fun o => szImportS (w := w.alloc o) (fun b hb => Nat.lt_of_lt_of_le (hS b hb) (hw1 o).size) (h.keep (cells_below hS (hw1 o))) hf.2 (left - (x.name.size : Int)) (by omega) (by omega)
    obtain ⟨nm, ve, ns⟩ := x
    dsimp only at hn hm cs ⊢
    clear h
    go_enter Tryd.func9, Tryd.ntmps9
    go_wp2_with (go_at_call 15; go_must (refine (cs _).mono ?_; rintro e w1 ⟨⟨r1, rfl, hr⟩, hb1⟩))
    · go_ret
      exact ⟨⟨-1, rfl, .inl rfl⟩, good_below (hw1 _) hb1⟩
    · go_ret
      have hr2 : 0 ≤ r1 := by omega
      rcases hr with h | ⟨_, h2, h3, h4⟩
      · omega
      · exact ⟨⟨r1, rfl, .inr ⟨hr2, by omega, by show (nm.size : Int) ≤ left; omega, by show (ns.length : Int) ≤ left; omega, fun y hy => (h4 y hy).mono (by omega)⟩⟩, good_below (hw1 _) hb1⟩

set_option maxRecDepth 100000 in
set_option maxHeartbeats 400000 in
theorem szReleaseS {S : Nat → Prop} {l : List Rel} {v : Value} {w : World} (hS : ∀ b, S b → b < w.heap.size) (h : RelsAt S w v l) (hx : ∀ x ∈ l, RelFit x) (left : Int) (h0 : 0 ≤ left) (h1 : left ≤ 1048576) :
    Calls Tryd.prog 4 #[v, .int .i64 left] w fun e w' => (∃ r : Int, e = .returned (.int .i64 r) ∧ (r = -1 ∨ (0 ≤ r ∧ r ≤ left ∧ (l.length : Int) ≤ left ∧ ∀ x ∈ l, RelOK left x))) ∧ Below w.heap.size w w' := by
  have HX : Hid (∀ x ∈ l, RelFit x) := hx
  obtain ⟨hlm, a, cap, rfl, hc⟩ := h
  have hlm' : (l.length : Int) ≤ 9223372036854775807 := by simp [maxLen] at hlm; omega
  clear hx hlm
  by_cases hn : left - (l.length : Int) < 0
  · clear hc
    go_enter Tryd.func4, Tryd.ntmps4
    go_wp2_with fail
    go_ret
    exact ⟨⟨-1, rfl, .inl rfl⟩, Below.refl _ _⟩
  · have HC : Hid _ := hc
    clear hc
    go_enter Tryd.func4, Tryd.ntmps4
    go_wp2_with fail
    go_loopw [1, 5] (fun i1 i5 wr => ∃ (k : Nat) (r : Int), i5 = .int .i64 (k : Int) ∧ i1 = .int .i64 r ∧ k ≤ l.length ∧ 0 ≤ r ∧ r ≤ left ∧ (∀ i (h : i < l.length), i < k → RelOK left l[i]) ∧ Below w.heap.size w wr) (fun _ i5 _ => l.length - (intOf i5).toNat)
    case atStart => exact ⟨0, _, rfl, rfl, by omega, by omega, by omega, fun i _ h => by omega, Below.refl _ _⟩
    case round =>
      obtain ⟨k, r, rfl, rfl, hk, hr0, hr1, hall, hb⟩ := hrel
      have HA : Hid _ := hall
      clear hall
      by_cases hkn : k < l.length
      · have hkn' : (k : Int) < (l.length : Int) := by omega
        obtain ⟨b, off, rfl, hbB, hcell⟩ := HC.out (by omega)
        obtain ⟨c1, c2, nv, c3, c4⟩ := hcell k hkn
        have hbw : b < w.heap.size := hS b hbB
        have d1 := (hb.cell (p := ⟨b, off + k * 3, none⟩) hbw).trans c1
        have d2 := (hb.cell (p := ⟨b, off + k * 3 + 1, none⟩) hbw).trans c2
        have d3 := (hb.cell (p := ⟨b, off + k * 3 + 2, none⟩) hbw).trans c3
        have cs := szRelease l[k] nv wr (fun b hbb => Nat.lt_of_lt_of_le (hS b hbb) hb.size) (c4.keep (cells_below hS hb)) (HX.out _ (List.getElem_mem hkn)) r hr0 (by omega)
        obtain ⟨x, hxk⟩ : ∃ x, l[k] = x := ⟨_, rfl⟩
        rw [hxk] at d1 d2 cs
        have HXK : Hid (l[k] = x) := hxk
        clear hxk c1 c2 c3 c4 hcell
        obtain ⟨nm, ve, ns⟩ := x
        dsimp only at d1 d2 d3 cs
        go_wp2_with (go_at_call 9; go_must (refine cs.mono ?_; rintro e w1 ⟨⟨r1, rfl, hr⟩, hb1⟩))
        · go_ret
          exact ⟨⟨-1, rfl, .inl rfl⟩, good_below hb hb1⟩
        · have hr2 : 0 ≤ r1 := by omega
          have hr3 : r1 ≤ r ∧ RelOK r ⟨nm, ve, ns⟩ := hr.elim (fun h => by omega) (fun h => h.2)
          refine ⟨⟨k + 1, r1, rfl, rfl, by omega, hr2, by omega, fun i hi hik => ?_, good_below hb hb1⟩, by simp [intOf]; omega⟩
          by_cases hik2 : i < k
          · exact HA.out i hi hik2
          · obtain rfl : i = k := by omega
            rw [HXK.out]
            exact hr3.2.mono hr1
      · have hkn' : ¬ ((k : Int) < (l.length : Int)) := by omega
        go_wp2_with fail
        go_ret
        refine ⟨⟨r, rfl, .inr ⟨hr0, hr1, by omega, fun x hx => ?_⟩⟩, hb⟩
        obtain ⟨i, hi, rfl⟩ := List.getElem_of_mem hx
        exact HA.out i hi (by omega)
end Go.Proofs.YtmgboljcdhegiaaDoor
