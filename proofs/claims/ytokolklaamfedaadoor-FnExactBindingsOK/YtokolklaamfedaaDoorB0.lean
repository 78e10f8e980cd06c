/-
  Bindings as plain data; how large they are. No statement of the seat is proved here.
-/
import Derived.Test.YtokolklaamfedaaDoorRows
import Derived.WalkKit
import Derived.ProofKit
import Derived.OpenShut
import Derived.WalkSpells
import Derived.Below
import Derived.BigQuiet
import Derived.BigRegion
import Derived.Laws.MakeOwn
import Derived.Lib.OthersKept
import Derived.Deep.RegionLaw
import Derived.Deep.WholeRow
namespace Go.Proofs.YtokolklaamfedaaDoor
open Go.ChangeShapes Go.WideShapes Go.ChangeAt Go.RowKit
set_option linter.unusedVariables false

/-- The block g holds just these cells. -/
def Blk (w : World) (g : Nat) (ty : TypeId) (cs : Array Value) : Prop := w.heap[g]? = some (.cells cs ty (0, 0))
theorem Blk.lt {w : World} {g : Nat} {ty : TypeId} {cs : Array Value} (h : Blk w g ty cs) : g < w.heap.size := (Array.getElem?_eq_some_iff.1 h).1
theorem Blk.cell {w : World} {g : Nat} {ty : TypeId} {cs : Array Value} (h : Blk w g ty cs) (i : Nat) : w.cell? ⟨g, i, none⟩ = cs[i]? := by
  simp only [World.cell?]; rw [show w.heap[g]? = _ from h]; rfl
theorem Blk.fro {w : World} {g : Nat} {ty : TypeId} {cs : Array Value} (h : Blk w g ty cs) (i : Nat) : w.frozen? ⟨g, i, none⟩ = false := by
  simp only [World.frozen?]; rw [show w.heap[g]? = _ from h]; simp
theorem Blk.set {w : World} {g : Nat} {ty : TypeId} {cs : Array Value} (h : Blk w g ty cs) (i : Nat) (v : Value) : Blk (w.setCell ⟨g, i, none⟩ v) g ty (cs.setIfInBounds i v) := by
  unfold Blk at *
  simp only [World.setCell, Array.getElem?_modify, if_true, h]
  rfl
theorem Blk.below {w w' : World} {g : Nat} {ty : TypeId} {cs : Array Value} (h : Blk w g ty cs) (hb : Below w.heap.size w w') : Blk w' g ty cs := by
  unfold Blk at *; rw [hb.block g (Blk.lt h)]; exact h
theorem good_below {w W W' : World} (h : Below w.heap.size w W) (hb : Below W.heap.size W W') : Below w.heap.size w W' := h.trans (hb.mono h.size)

/-- A want, and a binding, as plain data. -/
structure Wnt where
  key : ByteArray
  tag : ByteArray
  mode : Int
structure Bnd where
  name : ByteArray
  key : ByteArray
  tag : ByteArray
  scope : Int
  needs : List Wnt
  cond : ByteArray
  rank : Int
  wraps : Bool

/-- The slice v reads in w, out of blocks of S, as the wants l. -/
def WntsAt (S : Nat → Prop) (w : World) (v : Value) (l : List Wnt) : Prop := l.length ≤ maxLen ∧ ∃ a cap, v = .slice a l.length cap ∧ (0 < l.length → ∃ b off, a = some ⟨b, off, none⟩ ∧ S b ∧
  ∀ i (h : i < l.length), w.cell? ⟨b, off + i * 3, none⟩ = some (.string l[i].key) ∧ w.cell? ⟨b, off + i * 3 + 1, none⟩ = some (.string l[i].tag) ∧ w.cell? ⟨b, off + i * 3 + 2, none⟩ = some (.int .i64 l[i].mode))
theorem WntsAt.keep {S : Nat → Prop} {w w' : World} {v : Value} {l : List Wnt} (h : WntsAt S w v l) (hk : ∀ b i, S b → w'.cell? ⟨b, i, none⟩ = w.cell? ⟨b, i, none⟩) : WntsAt S w' v l := by
  obtain ⟨hl, a, cap, hv, h⟩ := h
  refine ⟨hl, a, cap, hv, fun h0 => ?_⟩
  obtain ⟨b, off, ha, hbB, hc⟩ := h h0
  refine ⟨b, off, ha, hbB, fun i hi => ?_⟩
  obtain ⟨c1, c2, c3⟩ := hc i hi
  exact ⟨(hk _ _ hbB).trans c1, (hk _ _ hbB).trans c2, (hk _ _ hbB).trans c3⟩
theorem WntsAt.mono {S S' : Nat → Prop} {w : World} {v : Value} {l : List Wnt} (h : WntsAt S w v l) (hS : ∀ b, S b → S' b) : WntsAt S' w v l := by
  obtain ⟨hl, a, cap, hv, h⟩ := h
  refine ⟨hl, a, cap, hv, fun h0 => ?_⟩
  obtain ⟨b, off, ha, hbB, hc⟩ := h h0
  exact ⟨b, off, ha, hS b hbB, hc⟩
theorem WntsAt.shape {S : Nat → Prop} {w : World} {v : Value} {l : List Wnt} (h : WntsAt S w v l) : ∃ a c, v = .slice a l.length c := by
  obtain ⟨_, a, c, hv, _⟩ := h
  exact ⟨a, c, hv⟩
theorem cells_below {S : Nat → Prop} {w w' : World} (hS : ∀ b, S b → b < w.heap.size) (hb : Below w.heap.size w w') : ∀ b i, S b → w'.cell? ⟨b, i, none⟩ = w.cell? ⟨b, i, none⟩ := fun b i h => hb.cell (hS b h)
/-- The eight cells from b, off on are the binding x, its needs out of blocks of S. -/
def BndAt (S : Nat → Prop) (w : World) (b off : Nat) (x : Bnd) : Prop :=
  w.cell? ⟨b, off, none⟩ = some (.string x.name) ∧ w.cell? ⟨b, off + 1, none⟩ = some (.string x.key) ∧ w.cell? ⟨b, off + 2, none⟩ = some (.string x.tag) ∧ w.cell? ⟨b, off + 3, none⟩ = some (.int .i64 x.scope) ∧
  w.cell? ⟨b, off + 5, none⟩ = some (.string x.cond) ∧ w.cell? ⟨b, off + 6, none⟩ = some (.int .i64 x.rank) ∧ w.cell? ⟨b, off + 7, none⟩ = some (.bool x.wraps) ∧ ∃ nv, w.cell? ⟨b, off + 4, none⟩ = some nv ∧ WntsAt S w nv x.needs
theorem BndAt.keep {S : Nat → Prop} {w w' : World} {b off : Nat} {x : Bnd} (h : BndAt S w b off x) (hb : S b) (hk : ∀ b i, S b → w'.cell? ⟨b, i, none⟩ = w.cell? ⟨b, i, none⟩) : BndAt S w' b off x := by
  obtain ⟨c0, c1, c2, c3, c5, c6, c7, nv, c4, hn⟩ := h
  exact ⟨(hk _ _ hb).trans c0, (hk _ _ hb).trans c1, (hk _ _ hb).trans c2, (hk _ _ hb).trans c3, (hk _ _ hb).trans c5, (hk _ _ hb).trans c6, (hk _ _ hb).trans c7, nv, (hk _ _ hb).trans c4, hn.keep hk⟩
/-- The slice v reads in w, out of blocks of S, as the bindings l. -/
def BndsAt (S : Nat → Prop) (w : World) (v : Value) (l : List Bnd) : Prop := l.length ≤ maxLen ∧ ∃ a cap, v = .slice a l.length cap ∧ (0 < l.length → ∃ b off, a = some ⟨b, off, none⟩ ∧ S b ∧
  ∀ i (h : i < l.length), BndAt S w b (off + i * 8) l[i])
theorem BndsAt.keep {S : Nat → Prop} {w w' : World} {v : Value} {l : List Bnd} (h : BndsAt S w v l) (hk : ∀ b i, S b → w'.cell? ⟨b, i, none⟩ = w.cell? ⟨b, i, none⟩) : BndsAt S w' v l := by
  obtain ⟨hl, a, cap, hv, h⟩ := h
  refine ⟨hl, a, cap, hv, fun h0 => ?_⟩
  obtain ⟨b, off, ha, hbB, hc⟩ := h h0
  exact ⟨b, off, ha, hbB, fun i hi => (hc i hi).keep hbB hk⟩
theorem BndsAt.shape {S : Nat → Prop} {w : World} {v : Value} {l : List Bnd} (h : BndsAt S w v l) : ∃ a c, v = .slice a l.length c := by
  obtain ⟨_, a, c, hv, _⟩ := h
  exact ⟨a, c, hv⟩

/-! ### How large what came in is -/
def WntFit (x : Wnt) : Prop := x.key.size ≤ maxLen ∧ x.tag.size ≤ maxLen
set_option maxRecDepth 100000 in
theorem szWant (x : Wnt) (left : Int) (h0 : 0 ≤ left) (h1 : left ≤ 1048576) (hx : WntFit x) (w : World) :
    Calls Tryd.prog 28 #[.agg #[.string x.key, .string x.tag, .int .i64 x.mode], .int .i64 left] w fun e w' => (∃ r : Int, e = .returned (.int .i64 r) ∧ (r = -1 ∨ (0 ≤ r ∧ r ≤ left))) ∧ Below w.heap.size w w' := by
  have hm : (x.key.size : Int) ≤ 9223372036854775807 := by have := hx.1; simp [maxLen] at this; omega
  have hm2 : (x.tag.size : Int) ≤ 9223372036854775807 := by have := hx.2; simp [maxLen] at this; omega
  obtain ⟨nm, mn, mx⟩ := x
  dsimp only at hm hm2 ⊢
  clear hx
  by_cases hn : left - (nm.size : Int) < 0
  · go_enter Tryd.func28, Tryd.ntmps28
    go_wp2_with fail
    go_ret
    exact ⟨⟨-1, rfl, .inl rfl⟩, (Below.refl _ w).alloc (Nat.le_refl _) _⟩
  · by_cases hn2 : left - (nm.size : Int) - (mn.size : Int) < 0
    · go_enter Tryd.func28, Tryd.ntmps28
      go_wp2_with fail
      go_ret
      exact ⟨⟨-1, rfl, .inl rfl⟩, (Below.refl _ w).alloc (Nat.le_refl _) _⟩
    · go_enter Tryd.func28, Tryd.ntmps28
      go_wp2_with fail
      go_ret
      exact ⟨⟨_, rfl, .inr ⟨by omega, by omega⟩⟩, (Below.refl _ w).alloc (Nat.le_refl _) _⟩

set_option maxRecDepth 100000 in
set_option maxHeartbeats 400000 in
theorem szWantS {S : Nat → Prop} {l : List Wnt} {v : Value} {w : World} (hS : ∀ b, S b → b < w.heap.size) (h : WntsAt S w v l) (hx : ∀ x ∈ l, WntFit x) (left : Int) (h0 : 0 ≤ left) (h1 : left ≤ 1048576) :
    Calls Tryd.prog 18 #[v, .int .i64 left] w fun e w' => (∃ r : Int, e = .returned (.int .i64 r) ∧ (r = -1 ∨ (0 ≤ r ∧ r ≤ left ∧ (l.length : Int) ≤ left))) ∧ Below w.heap.size w w' := by
  have HX : Hid (∀ x ∈ l, WntFit x) := hx
  obtain ⟨hlm, a, cap, rfl, hc⟩ := h
  have hlm' : (l.length : Int) ≤ 9223372036854775807 := by simp [maxLen] at hlm; omega
  clear hx hlm
  by_cases hn : left - (l.length : Int) < 0
  · clear hc
    go_enter Tryd.func18, Tryd.ntmps18
    go_wp2_with fail
    go_ret
    exact ⟨⟨-1, rfl, .inl rfl⟩, Below.refl _ _⟩
  · have HC : Hid _ := hc
    clear hc
    go_enter Tryd.func18, Tryd.ntmps18
    go_wp2_with fail
    go_loopw [1, 5] (fun i1 i5 wr => ∃ (k : Nat) (r : Int), i5 = .int .i64 (k : Int) ∧ i1 = .int .i64 r ∧ k ≤ l.length ∧ 0 ≤ r ∧ r ≤ left ∧ Below w.heap.size w wr) (fun _ i5 _ => l.length - (intOf i5).toNat)
    case atStart => exact ⟨0, _, rfl, rfl, by omega, by omega, by omega, Below.refl _ _⟩
    case round =>
      obtain ⟨k, r, rfl, rfl, hk, hr0, hr1, hb⟩ := hrel
      by_cases hkn : k < l.length
      · have hkn' : (k : Int) < (l.length : Int) := by omega
        obtain ⟨b, off, rfl, hbB, hcell⟩ := HC.out (by omega)
        obtain ⟨c1, c2, c3⟩ := hcell k hkn
        have hbw : b < w.heap.size := hS b hbB
        have d1 := (hb.cell (p := ⟨b, off + k * 3, none⟩) hbw).trans c1
        have d2 := (hb.cell (p := ⟨b, off + k * 3 + 1, none⟩) hbw).trans c2
        have d3 := (hb.cell (p := ⟨b, off + k * 3 + 2, none⟩) hbw).trans c3
        have cs := fun w => szWant l[k] r hr0 (by omega) (HX.out _ (List.getElem_mem hkn)) w
        obtain ⟨x, hxk⟩ : ∃ x, l[k] = x := ⟨_, rfl⟩
        rw [hxk] at d1 d2 d3 cs
        clear hxk c1 c2 c3 hcell
        obtain ⟨nm, mn, mx⟩ := x
        dsimp only at d1 d2 d3 cs
        go_wp2_with (go_at_call 28; go_must (refine (cs _).mono ?_; rintro e w1 ⟨⟨r1, rfl, hr⟩, hb1⟩))
        · go_ret
          exact ⟨⟨-1, rfl, .inl rfl⟩, good_below hb hb1⟩
        · have hr2 : 0 ≤ r1 := by omega
          have hr3 : r1 ≤ r := hr.elim (fun h => by omega) (fun h => h.2)
          exact ⟨⟨k + 1, r1, rfl, rfl, by omega, hr2, by omega, good_below hb hb1⟩, by simp [intOf]; omega⟩
      · have hkn' : ¬ ((k : Int) < (l.length : Int)) := by omega
        go_wp2_with fail
        go_ret
        exact ⟨⟨r, rfl, .inr ⟨hr0, hr1, by omega⟩⟩, hb⟩

def BndOK (left : Int) (x : Bnd) : Prop := (x.name.size : Int) ≤ left ∧ (x.needs.length : Int) ≤ left ∧ (x.cond.size : Int) ≤ left
theorem BndOK.mono {a b : Int} {x : Bnd} (h : BndOK a x) (hab : a ≤ b) : BndOK b x := ⟨by have := h.1; omega, by have := h.2.1; omega, by have := h.2.2; omega⟩
/-- What a binding's texts are at most, of themselves. -/
def BndFit (x : Bnd) : Prop := x.name.size ≤ maxLen ∧ x.key.size ≤ maxLen ∧ x.tag.size ≤ maxLen ∧ x.cond.size ≤ maxLen ∧ ∀ y ∈ x.needs, WntFit y

set_option maxRecDepth 100000 in
set_option maxHeartbeats 1000000 in
theorem szBinding {S : Nat → Prop} (x : Bnd) (nv : Value) (w : World) (hS : ∀ b, S b → b < w.heap.size) (h : WntsAt S w nv x.needs) (hf : BndFit x) (left : Int) (h0 : 0 ≤ left) (h1 : left ≤ 1048576) :
    Calls Tryd.prog 9 #[.agg #[.string x.name, .string x.key, .string x.tag, .int .i64 x.scope, nv, .string x.cond, .int .i64 x.rank, .bool x.wraps], .int .i64 left] w fun e w' => (∃ r : Int, e = .returned (.int .i64 r) ∧ (r = -1 ∨ (0 ≤ r ∧ r ≤ left ∧ BndOK left x))) ∧ Below w.heap.size w w' := by
  obtain ⟨f1, f2, f3, f4, f5⟩ := hf
  have hm1 : (x.name.size : Int) ≤ 9223372036854775807 := by simp [maxLen] at f1; omega
  have hm2 : (x.key.size : Int) ≤ 9223372036854775807 := by simp [maxLen] at f2; omega
  have hm3 : (x.tag.size : Int) ≤ 9223372036854775807 := by simp [maxLen] at f3; omega
  have hm4 : (x.cond.size : Int) ≤ 9223372036854775807 := by simp [maxLen] at f4; omega
  have hw1 : ∀ o, Below w.heap.size w (w.alloc o) := fun o => (Below.refl _ w).alloc (Nat.le_refl _) _
  have cs := fun o (r : Int) (hr0 : 0 ≤ r) (hr1 : r ≤ 1048576) => szWantS (w := w.alloc o) (fun b hb => Nat.lt_of_lt_of_le (hS b hb) (hw1 o).size) (h.keep (cells_below hS (hw1 o))) f5 r hr0 hr1
  obtain ⟨na, nc, rfl⟩ := h.shape
  unfold BndOK
  obtain ⟨nm, ky, tg, sc, ns, cd, rk, wr⟩ := x
  dsimp only at hm1 hm2 hm3 hm4 cs ⊢
  clear h f1 f2 f3 f4 f5
  by_cases e1 : left - (nm.size : Int) < 0
  · go_enter Tryd.func9, Tryd.ntmps9
    go_wp2_with fail
    go_ret
    exact ⟨⟨-1, rfl, .inl rfl⟩, hw1 _⟩
  by_cases e2 : left - (nm.size : Int) - (ky.size : Int) < 0
  · go_enter Tryd.func9, Tryd.ntmps9
    go_wp2_with fail
    go_ret
    exact ⟨⟨-1, rfl, .inl rfl⟩, hw1 _⟩
  by_cases e3 : left - (nm.size : Int) - (ky.size : Int) - (tg.size : Int) < 0
  · go_enter Tryd.func9, Tryd.ntmps9
    go_wp2_with fail
    go_ret
    exact ⟨⟨-1, rfl, .inl rfl⟩, hw1 _⟩
  have cs' := fun o => cs o (left - (nm.size : Int) - (ky.size : Int) - (tg.size : Int)) (by omega) (by omega)
  clear cs
  have hk : ∀ W o, Below (w.alloc o).heap.size (w.alloc o) W → W.heap[w.heap.size]? = some o := fun W o hb => (hb.block _ (by simp)).trans (heap_alloc_last w o)
  go_enter Tryd.func9, Tryd.ntmps9
  go_wp2_with (go_at_call 18; go_must (refine (cs' _).mono ?_; rintro e w1 ⟨⟨r1, rfl, hr⟩, hb1⟩; have hk1 : Blk w1 w.heap.size 32 #[.string nm, .string ky, .string tg, .int .i64 sc, .slice na ns.length nc, .string cd, .int .i64 rk, .bool wr] := hk w1 _ hb1; have e5 := hk1.cell 5; simp at e5))
  all_goals
    go_ret
    first
      | exact ⟨⟨-1, rfl, .inl rfl⟩, good_below (hw1 _) hb1⟩
      | (refine ⟨⟨_, rfl, ?_⟩, good_below (hw1 _) hb1⟩
         rcases hr with hr | ⟨q1, q2, q3⟩
         · exact .inl (by omega)
         · exact .inr ⟨by omega, by omega, by omega, by omega, by omega⟩)

set_option maxRecDepth 100000 in
set_option maxHeartbeats 400000 in
theorem szBindingS {S : Nat → Prop} {l : List Bnd} {v : Value} {w : World} (hS : ∀ b, S b → b < w.heap.size) (h : BndsAt S w v l) (hx : ∀ x ∈ l, BndFit x) (left : Int) (h0 : 0 ≤ left) (h1 : left ≤ 1048576) :
    Calls Tryd.prog 4 #[v, .int .i64 left] w fun e w' => (∃ r : Int, e = .returned (.int .i64 r) ∧ (r = -1 ∨ (0 ≤ r ∧ r ≤ left ∧ (l.length : Int) ≤ left ∧ ∀ x ∈ l, BndOK left x))) ∧ Below w.heap.size w w' := by
  have HX : Hid (∀ x ∈ l, BndFit x) := hx
  obtain ⟨hlm, a, cap, rfl, hc⟩ := h
  have hlm' : (l.length : Int) ≤ 9223372036854775807 := by simp [maxLen] at hlm; omega
  clear hx hlm
  by_cases hn : left - (l.length : Int) < 0
  · clear hc
    go_enter Tryd.func4, Tryd.ntmps4
    go_wp2_with fail
    go_ret
    exact ⟨⟨-1, rfl, .inl rfl⟩, Below.refl _ _⟩
  · have HC : Hid _ := hc
    clear hc
    go_enter Tryd.func4, Tryd.ntmps4
    go_wp2_with fail
    go_loopw [1, 5] (fun i1 i5 wr => ∃ (k : Nat) (r : Int), i5 = .int .i64 (k : Int) ∧ i1 = .int .i64 r ∧ k ≤ l.length ∧ 0 ≤ r ∧ r ≤ left ∧ (∀ i (h : i < l.length), i < k → BndOK left l[i]) ∧ Below w.heap.size w wr) (fun _ i5 _ => l.length - (intOf i5).toNat)
    case atStart => exact ⟨0, _, rfl, rfl, by omega, by omega, by omega, fun i _ h => by omega, Below.refl _ _⟩
    case round =>
      obtain ⟨k, r, rfl, rfl, hk, hr0, hr1, hall, hb⟩ := hrel
      have HA : Hid _ := hall
      clear hall
      by_cases hkn : k < l.length
      · have hkn' : (k : Int) < (l.length : Int) := by omega
        obtain ⟨b, off, rfl, hbB, hcell⟩ := HC.out (by omega)
        obtain ⟨d0, d1, d2, d3, d5, d6, d7, nv, d4, c4⟩ := (hcell k hkn).keep hbB (cells_below hS hb)
        have cs := szBinding l[k] nv wr (fun b hbb => Nat.lt_of_lt_of_le (hS b hbb) hb.size) c4 (HX.out _ (List.getElem_mem hkn)) r hr0 (by omega)
        obtain ⟨x, hxk⟩ : ∃ x, l[k] = x := ⟨_, rfl⟩
        rw [hxk] at d0 d1 d2 d3 d5 d6 d7 cs
        have HXK : Hid (l[k] = x) := hxk
        clear hxk c4 hcell
        obtain ⟨nm, ky, tg, sc, ns, cd, rk, wp⟩ := x
        dsimp only at d0 d1 d2 d3 d5 d6 d7 cs
        go_wp2_with (go_at_call 9; go_must (refine cs.mono ?_; rintro e w1 ⟨⟨r1, rfl, hr⟩, hb1⟩))
        · go_ret
          exact ⟨⟨-1, rfl, .inl rfl⟩, good_below hb hb1⟩
        · have hr2 : 0 ≤ r1 := by omega
          have hr3 : r1 ≤ r ∧ BndOK r ⟨nm, ky, tg, sc, ns, cd, rk, wp⟩ := hr.elim (fun h => by omega) (fun h => h.2)
          refine ⟨⟨k + 1, r1, rfl, rfl, by omega, hr2, by omega, fun i hi hik => ?_, good_below hb hb1⟩, by simp [intOf]; omega⟩
          by_cases hik2 : i < k
          · exact HA.out i hi hik2
          · obtain rfl : i = k := by omega
            rw [HXK.out]
            exact hr3.2.mono hr1
      · have hkn' : ¬ ((k : Int) < (l.length : Int)) := by omega
        go_wp2_with fail
        go_ret
        refine ⟨⟨r, rfl, .inr ⟨hr0, hr1, by omega, fun x hx => ?_⟩⟩, hb⟩
        obtain ⟨i, hi, rfl⟩ := List.getElem_of_mem hx
        exact HA.out i hi (by omega)
end Go.Proofs.YtokolklaamfedaaDoor
