/-
  Steps, messages, texts, numbers and commands as plain data; how large they are. What came in is copied. Rows are held against each other. Tools: rows of bytes that a call owns: append, the conversions from and to a string, as steps of a walk. Rows are marked, and held again. Copies are marked: which blocks are touched. What came in is opened. Copies of steps have room for what they hold; what a SagaOK answers. No statement of the seat is proved here.
-/
import Derived.Test.YtdheogonghcokaaGreatDoorRows
import Derived.WalkKit
import Derived.ProofKit
import Derived.OpenShut
import Derived.WalkSpells
import Derived.Below
import Derived.BigQuiet
import Derived.BigRegion
import Derived.Laws.MakeOwn
import Derived.Lib.OthersKept
import Derived.Deep.RegionLaw
import Derived.Deep.WholeRow
import Derived.Deep.QuietTactic
import Derived.Lib.ConvBytes
import Derived.Laws.IdiomStrings
import Derived.Laws.BytesArg
import Derived.Deep.SlicePairs
import Derived.Deep.Cut
namespace Go.Proofs.YtdheogonghcokaaGreatDoor
open Go.ChangeShapes Go.WideShapes Go.ChangeAt Go.RowKit
set_option linter.unusedVariables false
set_option linter.unusedSimpArgs false

/-- The block g holds just these cells. -/
def Blk (w : World) (g : Nat) (ty : TypeId) (cs : Array Value) : Prop := w.heap[g]? = some (.cells cs ty (0, 0))
theorem Blk.lt {w : World} {g : Nat} {ty : TypeId} {cs : Array Value} (h : Blk w g ty cs) : g < w.heap.size := (Array.getElem?_eq_some_iff.1 h).1
theorem Blk.cell {w : World} {g : Nat} {ty : TypeId} {cs : Array Value} (h : Blk w g ty cs) (i : Nat) : w.cell? ⟨g, i, none⟩ = cs[i]? := by
  simp only [World.cell?]; rw [show w.heap[g]? = _ from h]; rfl
theorem Blk.fro {w : World} {g : Nat} {ty : TypeId} {cs : Array Value} (h : Blk w g ty cs) (i : Nat) : w.frozen? ⟨g, i, none⟩ = false := by
  simp only [World.frozen?]; rw [show w.heap[g]? = _ from h]; simp
theorem Blk.set {w : World} {g : Nat} {ty : TypeId} {cs : Array Value} (h : Blk w g ty cs) (i : Nat) (v : Value) : Blk (w.setCell ⟨g, i, none⟩ v) g ty (cs.setIfInBounds i v) := by
  unfold Blk at *
  simp only [World.setCell, Array.getElem?_modify, if_true, h]
  rfl
theorem Blk.below {w w' : World} {g : Nat} {ty : TypeId} {cs : Array Value} (h : Blk w g ty cs) (hb : Below w.heap.size w w') : Blk w' g ty cs := by
  unfold Blk at *; rw [hb.block g (Blk.lt h)]; exact h
theorem Blk.other {w : World} {g g' : Nat} {ty : TypeId} {cs : Array Value} (h : Blk w g ty cs) (hne : g ≠ g') (i : Nat) (v : Value) : Blk (w.setCell ⟨g', i, none⟩ v) g ty cs := by
  unfold Blk at *
  rw [Below.heap_setCell _ _ _ _ hne]; exact h
theorem good_below {w W W' : World} (h : Below w.heap.size w W) (hb : Below W.heap.size W W') : Below w.heap.size w W' := h.trans (hb.mono h.size)
theorem cells_below {S : Nat → Prop} {w w' : World} (hS : ∀ b, S b → b < w.heap.size) (hb : Below w.heap.size w w') : ∀ b i, S b → w'.cell? ⟨b, i, none⟩ = w.cell? ⟨b, i, none⟩ := fun b i h => hb.cell (hS b h)

theorem bel_drewN {B : Nat} {w0 w : World} (h : Below B w0 w) (n : Nat) : Below B w0 (w.drewN n) := by
  exact ⟨h.os, h.tape, h.output, h.size, h.block⟩
/-- The slice v reads in w, out of blocks of S, as these. -/
def TxtsAt (S : Nat → Prop) (w : World) (v : Value) (l : List ByteArray) : Prop := l.length ≤ maxLen ∧ ∃ a cap, v = .slice a l.length cap ∧ (0 < l.length → ∃ b off, a = some ⟨b, off, none⟩ ∧ S b ∧
  ∀ i (h : i < l.length), w.cell? ⟨b, off + i, none⟩ = some (.string l[i]))
theorem TxtsAt.keep {S : Nat → Prop} {w w' : World} {v : Value} {l : List ByteArray} (h : TxtsAt S w v l) (hk : ∀ b i, S b → w'.cell? ⟨b, i, none⟩ = w.cell? ⟨b, i, none⟩) : TxtsAt S w' v l := by
  obtain ⟨hl, a, cap, hv, h⟩ := h
  refine ⟨hl, a, cap, hv, fun h0 => ?_⟩
  obtain ⟨b, off, ha, hbB, hc⟩ := h h0
  refine ⟨b, off, ha, hbB, fun i hi => ?_⟩
  have c0 := hc i hi
  exact (hk _ _ hbB).trans c0
theorem TxtsAt.mono {S S' : Nat → Prop} {w : World} {v : Value} {l : List ByteArray} (h : TxtsAt S w v l) (hS : ∀ b, S b → S' b) : TxtsAt S' w v l := by
  obtain ⟨hl, a, cap, hv, h⟩ := h
  refine ⟨hl, a, cap, hv, fun h0 => ?_⟩
  obtain ⟨b, off, ha, hbB, hc⟩ := h h0
  refine ⟨b, off, ha, hS b hbB, fun i hi => ?_⟩
  have c0 := hc i hi
  exact c0
theorem TxtsAt.shape {S : Nat → Prop} {w : World} {v : Value} {l : List ByteArray} (h : TxtsAt S w v l) : ∃ a c, v = .slice a l.length c := by
  obtain ⟨_, a, c, hv, _⟩ := h
  exact ⟨a, c, hv⟩
def TxtsOK (left : Int) (x : ByteArray) : Prop := (x.size : Int) ≤ left
def TxtsFit (x : ByteArray) : Prop := x.size ≤ maxLen
theorem TxtsOK.mono {a b : Int} {x : ByteArray} (h : TxtsOK a x) (hab : a ≤ b) : TxtsOK b x := by
  unfold TxtsOK at *
  have h0 := h
  exact by omega
set_option maxRecDepth 100000 in
set_option maxHeartbeats 400000 in
theorem szStringS {S : Nat → Prop} {l : List ByteArray} {v : Value} {w : World} (hS : ∀ b, S b → b < w.heap.size) (h : TxtsAt S w v l) (hx : ∀ x ∈ l, TxtsFit x) (left : Int) (h0 : 0 ≤ left) (h1 : left ≤ 1048576) :
    Calls Tryz.prog 5 #[v, .int .i64 left] w fun e w' => (∃ r : Int, e = .returned (.int .i64 r) ∧ (r = -1 ∨ (0 ≤ r ∧ r ≤ left ∧ (l.length : Int) ≤ left ∧ ∀ x ∈ l, TxtsOK left x))) ∧ Below w.heap.size w w' := by
  have HX : Hid (∀ x ∈ l, TxtsFit x) := hx
  obtain ⟨hlm, a, cap, rfl, hc⟩ := h
  have hlm' : (l.length : Int) ≤ 9223372036854775807 := by simp [maxLen] at hlm; omega
  clear hx hlm
  by_cases hn : left - (l.length : Int) < 0
  · clear hc
    go_enter Tryz.func5, Tryz.ntmps5
    go_wp2_with fail
    go_ret
    exact ⟨⟨-1, rfl, .inl rfl⟩, Below.refl _ _⟩
  · have HC : Hid _ := hc
    clear hc
    go_enter Tryz.func5, Tryz.ntmps5
    go_wp2_with fail
    go_loopw [1, 5] (fun i1 i5 wr => ∃ (k : Nat) (r : Int), i5 = .int .i64 (k : Int) ∧ i1 = .int .i64 r ∧ k ≤ l.length ∧ 0 ≤ r ∧ r ≤ left ∧ (∀ i (h : i < l.length), i < k → TxtsOK left l[i]) ∧ Below w.heap.size w wr) (fun _ i5 _ => l.length - (intOf i5).toNat)
    case atStart => exact ⟨0, _, rfl, rfl, by omega, by omega, by omega, fun i _ h => by omega, Below.refl _ _⟩
    case round =>
      obtain ⟨k, r, rfl, rfl, hk, hr0, hr1, hall, hb⟩ := hrel
      have HA : Hid _ := hall
      clear hall
      by_cases hkn : k < l.length
      · have hkn' : (k : Int) < (l.length : Int) := by omega
        obtain ⟨b, off, rfl, hbB, hcell⟩ := HC.out (by omega)
        have c0 := hcell k hkn
        have hbw : b < w.heap.size := hS b hbB
        have d0 := (hb.cell (p := ⟨b, off + k, none⟩) hbw).trans c0
        have hfx := HX.out _ (List.getElem_mem hkn)
        unfold TxtsFit at hfx
        obtain ⟨x, hxk⟩ : ∃ x, l[k] = x := ⟨_, rfl⟩
        rw [hxk] at d0 hfx
        have HXK : Hid (l[k] = x) := hxk
        have hm : (x.size : Int) ≤ 9223372036854775807 := by simp [maxLen] at hfx; omega
        clear hxk c0 hcell hfx
        by_cases hng : r - (x.size : Int) < 0
        · go_wp2_with fail
          go_ret
          exact ⟨⟨-1, rfl, .inl rfl⟩, hb⟩
        · go_wp2_with fail
          refine ⟨⟨k + 1, r - (x.size : Int), rfl, rfl, by omega, by omega, by omega, fun i hi hik => ?_, hb⟩, by simp [intOf]; omega⟩
          by_cases hik2 : i < k
          · exact HA.out i hi hik2
          · obtain rfl : i = k := by omega
            rw [HXK.out]
            unfold TxtsOK
            omega
      · have hkn' : ¬ ((k : Int) < (l.length : Int)) := by omega
        go_wp2_with fail
        go_ret
        refine ⟨⟨r, rfl, .inr ⟨hr0, hr1, by omega, fun x hx => ?_⟩⟩, hb⟩
        obtain ⟨i, hi, rfl⟩ := List.getElem_of_mem hx
        exact HA.out i hi (by omega)
structure Step where
  name : ByteArray
  needs : List ByteArray
  undo : Bool
  tries : Int
/-- The slice v reads in w, out of blocks of S, as these. -/
def StepsAt (S : Nat → Prop) (w : World) (v : Value) (l : List Step) : Prop := l.length ≤ maxLen ∧ ∃ a cap, v = .slice a l.length cap ∧ (0 < l.length → ∃ b off, a = some ⟨b, off, none⟩ ∧ S b ∧
  ∀ i (h : i < l.length), w.cell? ⟨b, off + i * 4, none⟩ = some (.string l[i].name) ∧ w.cell? ⟨b, off + i * 4 + 2, none⟩ = some (.bool l[i].undo) ∧ w.cell? ⟨b, off + i * 4 + 3, none⟩ = some (.int .i64 l[i].tries) ∧ ∃ nv, w.cell? ⟨b, off + i * 4 + 1, none⟩ = some nv ∧ TxtsAt S w nv l[i].needs)
theorem StepsAt.keep {S : Nat → Prop} {w w' : World} {v : Value} {l : List Step} (h : StepsAt S w v l) (hk : ∀ b i, S b → w'.cell? ⟨b, i, none⟩ = w.cell? ⟨b, i, none⟩) : StepsAt S w' v l := by
  obtain ⟨hl, a, cap, hv, h⟩ := h
  refine ⟨hl, a, cap, hv, fun h0 => ?_⟩
  obtain ⟨b, off, ha, hbB, hc⟩ := h h0
  refine ⟨b, off, ha, hbB, fun i hi => ?_⟩
  obtain ⟨c0, c2, c3, nv, d1, d2⟩ := hc i hi
  exact ⟨(hk _ _ hbB).trans c0, (hk _ _ hbB).trans c2, (hk _ _ hbB).trans c3, nv, (hk _ _ hbB).trans d1, d2.keep hk⟩
theorem StepsAt.mono {S S' : Nat → Prop} {w : World} {v : Value} {l : List Step} (h : StepsAt S w v l) (hS : ∀ b, S b → S' b) : StepsAt S' w v l := by
  obtain ⟨hl, a, cap, hv, h⟩ := h
  refine ⟨hl, a, cap, hv, fun h0 => ?_⟩
  obtain ⟨b, off, ha, hbB, hc⟩ := h h0
  refine ⟨b, off, ha, hS b hbB, fun i hi => ?_⟩
  obtain ⟨c0, c2, c3, nv, d1, d2⟩ := hc i hi
  exact ⟨c0, c2, c3, nv, d1, d2.mono hS⟩
theorem StepsAt.shape {S : Nat → Prop} {w : World} {v : Value} {l : List Step} (h : StepsAt S w v l) : ∃ a c, v = .slice a l.length c := by
  obtain ⟨_, a, c, hv, _⟩ := h
  exact ⟨a, c, hv⟩
def StepsOK (left : Int) (x : Step) : Prop := (x.name.size : Int) ≤ left ∧ (x.needs.length : Int) ≤ left ∧ ∀ y ∈ x.needs, TxtsOK left y
def StepsFit (x : Step) : Prop := x.name.size ≤ maxLen ∧ ∀ y ∈ x.needs, TxtsFit y
theorem StepsOK.mono {a b : Int} {x : Step} (h : StepsOK a x) (hab : a ≤ b) : StepsOK b x := by
  unfold StepsOK at *
  obtain ⟨h0, h1, h2⟩ := h
  exact ⟨by omega, by omega, fun y hy => (h2 y hy).mono hab⟩
set_option maxRecDepth 100000 in
theorem szSagaStep {S : Nat → Prop} (x : Step) (nv : Value) (w : World) (hS : ∀ b, S b → b < w.heap.size) (h : TxtsAt S w nv x.needs) (hf : StepsFit x) (left : Int) (h0 : 0 ≤ left) (h1 : left ≤ 1048576) :
    Calls Tryz.prog 15 #[.agg #[.string x.name, nv, .bool x.undo, .int .i64 x.tries], .int .i64 left] w fun e w' => (∃ r : Int, e = .returned (.int .i64 r) ∧ (r = -1 ∨ (0 ≤ r ∧ r ≤ left ∧ StepsOK left x))) ∧ Below w.heap.size w w' := by
  have hw1 : ∀ o, Below w.heap.size w (w.alloc o) := fun o => (Below.refl _ w).alloc (Nat.le_refl _) _
  unfold StepsFit at hf
  obtain ⟨z0, zz⟩ := hf
  have m0 : (x.name.size : Int) ≤ 9223372036854775807 := by have := z0; simp [maxLen] at this; omega
  have cs := fun o left' (h0' : 0 ≤ left') (h1' : left' ≤ 1048576) => szStringS (w := w.alloc o) (fun b hb => Nat.lt_of_lt_of_le (hS b hb) (hw1 o).size) (h.keep (cells_below hS (hw1 o))) zz left' h0' h1'
  unfold StepsOK
  obtain ⟨x0, x1, x2, x3⟩ := x
  dsimp only at cs m0 ⊢
  clear h zz z0
  by_cases n0 : left - (x0.size : Int) < 0
  · clear cs
    go_enter Tryz.func15, Tryz.ntmps15
    go_wp2_with fail
    go_ret
    exact ⟨⟨-1, rfl, .inl rfl⟩, hw1 _⟩
  have cs' := fun o => cs o (left - (x0.size : Int)) (by omega) (by omega)
  clear cs
  go_enter Tryz.func15, Tryz.ntmps15
  go_wp2_with (go_at_call 5; go_must (refine (cs' _).mono ?_; rintro e w1 ⟨⟨r1, rfl, hr⟩, hb1⟩))
  · go_ret
    exact ⟨⟨-1, rfl, .inl rfl⟩, good_below (hw1 _) hb1⟩
  · go_ret
    rcases hr with h | ⟨q0, q1, q2, q3⟩
    · omega
    · exact ⟨⟨_, rfl, .inr ⟨by omega, by omega, by omega, by omega, fun y hy => (q3 y hy).mono (by omega)⟩⟩, good_below (hw1 _) hb1⟩
set_option maxRecDepth 100000 in
set_option maxHeartbeats 400000 in
theorem szSagaStepS {S : Nat → Prop} {l : List Step} {v : Value} {w : World} (hS : ∀ b, S b → b < w.heap.size) (h : StepsAt S w v l) (hx : ∀ x ∈ l, StepsFit x) (left : Int) (h0 : 0 ≤ left) (h1 : left ≤ 1048576) :
    Calls Tryz.prog 4 #[v, .int .i64 left] w fun e w' => (∃ r : Int, e = .returned (.int .i64 r) ∧ (r = -1 ∨ (0 ≤ r ∧ r ≤ left ∧ (l.length : Int) ≤ left ∧ ∀ x ∈ l, StepsOK left x))) ∧ Below w.heap.size w w' := by
  have HX : Hid (∀ x ∈ l, StepsFit x) := hx
  obtain ⟨hlm, a, cap, rfl, hc⟩ := h
  have hlm' : (l.length : Int) ≤ 9223372036854775807 := by simp [maxLen] at hlm; omega
  clear hx hlm
  by_cases hn : left - (l.length : Int) < 0
  · clear hc
    go_enter Tryz.func4, Tryz.ntmps4
    go_wp2_with fail
    go_ret
    exact ⟨⟨-1, rfl, .inl rfl⟩, Below.refl _ _⟩
  · have HC : Hid _ := hc
    clear hc
    go_enter Tryz.func4, Tryz.ntmps4
    go_wp2_with fail
    go_loopw [1, 5] (fun i1 i5 wr => ∃ (k : Nat) (r : Int), i5 = .int .i64 (k : Int) ∧ i1 = .int .i64 r ∧ k ≤ l.length ∧ 0 ≤ r ∧ r ≤ left ∧ (∀ i (h : i < l.length), i < k → StepsOK left l[i]) ∧ Below w.heap.size w wr) (fun _ i5 _ => l.length - (intOf i5).toNat)
    case atStart => exact ⟨0, _, rfl, rfl, by omega, by omega, by omega, fun i _ h => by omega, Below.refl _ _⟩
    case round =>
      obtain ⟨k, r, rfl, rfl, hk, hr0, hr1, hall, hb⟩ := hrel
      have HA : Hid _ := hall
      clear hall
      by_cases hkn : k < l.length
      · have hkn' : (k : Int) < (l.length : Int) := by omega
        obtain ⟨b, off, rfl, hbB, hcell⟩ := HC.out (by omega)
        obtain ⟨c0, c2, c3, nv, e1, e2⟩ := hcell k hkn
        have hbw : b < w.heap.size := hS b hbB
        have d0 := (hb.cell (p := ⟨b, off + k * 4, none⟩) hbw).trans c0
        have d2 := (hb.cell (p := ⟨b, off + k * 4 + 2, none⟩) hbw).trans c2
        have d3 := (hb.cell (p := ⟨b, off + k * 4 + 3, none⟩) hbw).trans c3
        have d1 := (hb.cell (p := ⟨b, off + k * 4 + 1, none⟩) hbw).trans e1
        have cs := szSagaStep l[k] nv wr (fun b hbb => Nat.lt_of_lt_of_le (hS b hbb) hb.size) (e2.keep (cells_below hS hb)) (HX.out _ (List.getElem_mem hkn)) r hr0 (by omega)
        obtain ⟨x, hxk⟩ : ∃ x, l[k] = x := ⟨_, rfl⟩
        rw [hxk] at d0 d2 d3 cs
        have HXK : Hid (l[k] = x) := hxk
        clear hxk c0 c2 c3 e1 e2 hcell
        obtain ⟨x0, x1, x2, x3⟩ := x
        dsimp only at d0 d2 d3 cs
        go_wp2_with (go_at_call 15; go_must (refine cs.mono ?_; rintro e w1 ⟨⟨r1, rfl, hr⟩, hb1⟩))
        · go_ret
          exact ⟨⟨-1, rfl, .inl rfl⟩, good_below hb hb1⟩
        · have hr2 : 0 ≤ r1 := by omega
          have hr3 : r1 ≤ r ∧ StepsOK r ⟨x0, x1, x2, x3⟩ := hr.elim (fun h => by omega) (fun h => h.2)
          refine ⟨⟨k + 1, r1, rfl, rfl, by omega, hr2, by omega, fun i hi hik => ?_, good_below hb hb1⟩, by simp [intOf]; omega⟩
          by_cases hik2 : i < k
          · exact HA.out i hi hik2
          · obtain rfl : i = k := by omega
            rw [HXK.out]
            exact hr3.2.mono hr1
      · have hkn' : ¬ ((k : Int) < (l.length : Int)) := by omega
        go_wp2_with fail
        go_ret
        refine ⟨⟨r, rfl, .inr ⟨hr0, hr1, by omega, fun x hx => ?_⟩⟩, hb⟩
        obtain ⟨i, hi, rfl⟩ := List.getElem_of_mem hx
        exact HA.out i hi (by omega)
/-- The slice v reads in w, out of blocks of S, as these. -/
def NumsAt (S : Nat → Prop) (w : World) (v : Value) (l : List Int) : Prop := l.length ≤ maxLen ∧ ∃ a cap, v = .slice a l.length cap ∧ (0 < l.length → ∃ b off, a = some ⟨b, off, none⟩ ∧ S b ∧
  ∀ i (h : i < l.length), w.cell? ⟨b, off + i, none⟩ = some (.int .i64 l[i]))
theorem NumsAt.keep {S : Nat → Prop} {w w' : World} {v : Value} {l : List Int} (h : NumsAt S w v l) (hk : ∀ b i, S b → w'.cell? ⟨b, i, none⟩ = w.cell? ⟨b, i, none⟩) : NumsAt S w' v l := by
  obtain ⟨hl, a, cap, hv, h⟩ := h
  refine ⟨hl, a, cap, hv, fun h0 => ?_⟩
  obtain ⟨b, off, ha, hbB, hc⟩ := h h0
  refine ⟨b, off, ha, hbB, fun i hi => ?_⟩
  have c0 := hc i hi
  exact (hk _ _ hbB).trans c0
theorem NumsAt.mono {S S' : Nat → Prop} {w : World} {v : Value} {l : List Int} (h : NumsAt S w v l) (hS : ∀ b, S b → S' b) : NumsAt S' w v l := by
  obtain ⟨hl, a, cap, hv, h⟩ := h
  refine ⟨hl, a, cap, hv, fun h0 => ?_⟩
  obtain ⟨b, off, ha, hbB, hc⟩ := h h0
  refine ⟨b, off, ha, hS b hbB, fun i hi => ?_⟩
  have c0 := hc i hi
  exact c0
theorem NumsAt.shape {S : Nat → Prop} {w : World} {v : Value} {l : List Int} (h : NumsAt S w v l) : ∃ a c, v = .slice a l.length c := by
  obtain ⟨_, a, c, hv, _⟩ := h
  exact ⟨a, c, hv⟩
structure Cmd where
  kind : Int
  try' : Int
  step : ByteArray
/-- The slice v reads in w, out of blocks of S, as these. -/
def CmdsAt (S : Nat → Prop) (w : World) (v : Value) (l : List Cmd) : Prop := l.length ≤ maxLen ∧ ∃ a cap, v = .slice a l.length cap ∧ (0 < l.length → ∃ b off, a = some ⟨b, off, none⟩ ∧ S b ∧
  ∀ i (h : i < l.length), w.cell? ⟨b, off + i * 3, none⟩ = some (.int .i64 l[i].kind) ∧ w.cell? ⟨b, off + i * 3 + 1, none⟩ = some (.int .i64 l[i].try') ∧ w.cell? ⟨b, off + i * 3 + 2, none⟩ = some (.string l[i].step))
theorem CmdsAt.keep {S : Nat → Prop} {w w' : World} {v : Value} {l : List Cmd} (h : CmdsAt S w v l) (hk : ∀ b i, S b → w'.cell? ⟨b, i, none⟩ = w.cell? ⟨b, i, none⟩) : CmdsAt S w' v l := by
  obtain ⟨hl, a, cap, hv, h⟩ := h
  refine ⟨hl, a, cap, hv, fun h0 => ?_⟩
  obtain ⟨b, off, ha, hbB, hc⟩ := h h0
  refine ⟨b, off, ha, hbB, fun i hi => ?_⟩
  obtain ⟨c0, c1, c2⟩ := hc i hi
  exact ⟨(hk _ _ hbB).trans c0, (hk _ _ hbB).trans c1, (hk _ _ hbB).trans c2⟩
theorem CmdsAt.mono {S S' : Nat → Prop} {w : World} {v : Value} {l : List Cmd} (h : CmdsAt S w v l) (hS : ∀ b, S b → S' b) : CmdsAt S' w v l := by
  obtain ⟨hl, a, cap, hv, h⟩ := h
  refine ⟨hl, a, cap, hv, fun h0 => ?_⟩
  obtain ⟨b, off, ha, hbB, hc⟩ := h h0
  refine ⟨b, off, ha, hS b hbB, fun i hi => ?_⟩
  obtain ⟨c0, c1, c2⟩ := hc i hi
  exact ⟨c0, c1, c2⟩
theorem CmdsAt.shape {S : Nat → Prop} {w : World} {v : Value} {l : List Cmd} (h : CmdsAt S w v l) : ∃ a c, v = .slice a l.length c := by
  obtain ⟨_, a, c, hv, _⟩ := h
  exact ⟨a, c, hv⟩
structure Msg where
  step : ByteArray
  kind : Int
/-- The slice v reads in w, out of blocks of S, as these. -/
def MsgsAt (S : Nat → Prop) (w : World) (v : Value) (l : List Msg) : Prop := l.length ≤ maxLen ∧ ∃ a cap, v = .slice a l.length cap ∧ (0 < l.length → ∃ b off, a = some ⟨b, off, none⟩ ∧ S b ∧
  ∀ i (h : i < l.length), w.cell? ⟨b, off + i * 2, none⟩ = some (.string l[i].step) ∧ w.cell? ⟨b, off + i * 2 + 1, none⟩ = some (.int .i64 l[i].kind))
theorem MsgsAt.keep {S : Nat → Prop} {w w' : World} {v : Value} {l : List Msg} (h : MsgsAt S w v l) (hk : ∀ b i, S b → w'.cell? ⟨b, i, none⟩ = w.cell? ⟨b, i, none⟩) : MsgsAt S w' v l := by
  obtain ⟨hl, a, cap, hv, h⟩ := h
  refine ⟨hl, a, cap, hv, fun h0 => ?_⟩
  obtain ⟨b, off, ha, hbB, hc⟩ := h h0
  refine ⟨b, off, ha, hbB, fun i hi => ?_⟩
  obtain ⟨c0, c1⟩ := hc i hi
  exact ⟨(hk _ _ hbB).trans c0, (hk _ _ hbB).trans c1⟩
theorem MsgsAt.mono {S S' : Nat → Prop} {w : World} {v : Value} {l : List Msg} (h : MsgsAt S w v l) (hS : ∀ b, S b → S' b) : MsgsAt S' w v l := by
  obtain ⟨hl, a, cap, hv, h⟩ := h
  refine ⟨hl, a, cap, hv, fun h0 => ?_⟩
  obtain ⟨b, off, ha, hbB, hc⟩ := h h0
  refine ⟨b, off, ha, hS b hbB, fun i hi => ?_⟩
  obtain ⟨c0, c1⟩ := hc i hi
  exact ⟨c0, c1⟩
theorem MsgsAt.shape {S : Nat → Prop} {w : World} {v : Value} {l : List Msg} (h : MsgsAt S w v l) : ∃ a c, v = .slice a l.length c := by
  obtain ⟨_, a, c, hv, _⟩ := h
  exact ⟨a, c, hv⟩
end Go.Proofs.YtdheogonghcokaaGreatDoor

namespace Go.Proofs.YtdheogonghcokaaGreatDoor
open Go.ChangeShapes Go.WideShapes Go.ChangeAt Go.RowKit
set_option linter.unusedVariables false
set_option linter.unusedSimpArgs false

theorem last3 (w : World) (o p q : Obj) : (((w.alloc o).alloc p).alloc q).heap[w.heap.size + 1]? = some p := by
  have h1 : ((w.alloc o).alloc p).heap[w.heap.size + 1]? = some p := by
    have := heap_alloc_last (w.alloc o) p
    rwa [World.size_alloc] at this
  have h2 : w.heap.size + 1 < ((w.alloc o).alloc p).heap.size := by simp only [World.size_alloc]; omega
  have := ((Below.refl _ ((w.alloc o).alloc p)).alloc (Nat.le_refl _) q).block (w.heap.size + 1) h2
  rw [this]; exact h1
theorem last3' (w : World) (o p q : Obj) : (((w.alloc o).alloc p).alloc q).heap[w.heap.size + 1 + 1]? = some q := by
  have := heap_alloc_last ((w.alloc o).alloc p) q
  simpa only [World.size_alloc] using this
theorem bel3 (w : World) (o p q : Obj) : Below w.heap.size w (((w.alloc o).alloc p).alloc q) :=
  (((Below.refl _ w).alloc (Nat.le_refl _) _).alloc (by simp only [World.size_alloc]; omega) _).alloc (by simp only [World.size_alloc]; omega) _
theorem makeN (z : Nat) (t e : TypeId) (bytes n : Nat) (ht : Tryz.prog.underlying t = some (.slice e)) (hinfo : ((Tryz.prog.info? e).bind fun i => i.zero.map fun _ => (i.size, i.bytes)) = some (z, bytes)) (hb : bytes * n ≤ 281474976710656) (hn : n ≤ 9223372036854775807) (W : World) :
    ∃ cur : Array Value, cur.size = n * z ∧ (Instr.makeSlice t (.int .i64 (n : Int)) (.int .i64 (n : Int))).run Tryz.prog W = .ok (.slice (some ⟨W.heap.size, 0, none⟩) n n) (W.alloc (.cells cur e)) := by
  cases hi : Tryz.prog.info? e with
  | none => rw [hi] at hinfo; simp at hinfo
  | some i =>
    rw [hi] at hinfo
    simp only [Option.bind_some] at hinfo
    cases hz : i.zero with
    | none => rw [hz] at hinfo; simp at hinfo
    | some zv =>
      rw [hz] at hinfo
      simp only [Option.map_some, Option.some.injEq, Prod.mk.injEq] at hinfo
      obtain ⟨h3, hby⟩ := hinfo
      have hbn : (i.bytes : Int) * (n : Int) ≤ 281474976710656 := by
        rw [hby]
        have h : ((bytes * n : Nat) : Int) ≤ 281474976710656 := by omega
        rwa [Int.natCast_mul] at h
      have hr := run_make (P := Tryz.prog) W t e i zv ht hi hz .i64 .i64 (n : Int) (n : Int) (by omega) (by omega) hbn (by omega)
      simp only [Int.toNat_natCast] at hr
      exact ⟨_, by rw [size_madeCells, h3], hr⟩
/-- A row that is laid: the first k are. -/
def TxtsC (cur : Array Value) (l : List ByteArray) (k : Nat) : Prop := ∀ i (h : i < l.length), i < k → cur[i]? = some (.string l[i])
theorem TxtsC.step {cur : Array Value} {l : List ByteArray} {k : Nat} (h : TxtsC cur l k) (hk : k < l.length) (hc : k < cur.size) :
    TxtsC (cur.setIfInBounds (k) (.string l[k])) l (k + 1) := by
  intro i hi hik
  simp only [Array.getElem?_setIfInBounds, Array.size_setIfInBounds]
  by_cases hmk : i = k
  · subst hmk
    · rw [if_pos rfl, if_pos (by omega)]
  · have := h i hi (by omega)
    have h3 : i < k := by omega
    rw [if_neg (by omega)]
    exact this
/-- The row l, laid in the block g of its own. -/
def RowTxts (w : World) (g : Nat) (v : Value) (l : List ByteArray) : Prop := l.length ≤ maxLen ∧ v = .slice (some ⟨g, 0, none⟩) l.length l.length ∧ ∃ cur, Blk w g 9 cur ∧ cur.size = l.length * 1 ∧ TxtsC cur l l.length
theorem RowTxts.keep {w w' : World} {g : Nat} {v : Value} {l : List ByteArray} (h : RowTxts w g v l) (hk : w'.heap[g]? = w.heap[g]?) : RowTxts w' g v l := by
  obtain ⟨h1, h2, cur, h3, h4⟩ := h
  exact ⟨h1, h2, cur, by unfold Blk at *; rw [hk]; exact h3, h4⟩
theorem RowTxts.lt {w : World} {g : Nat} {v : Value} {l : List ByteArray} (h : RowTxts w g v l) : g < w.heap.size := by
  obtain ⟨h1, h2, cur, h3, h4⟩ := h
  exact h3.lt
theorem RowTxts.at {S : Nat → Prop} {w : World} {g : Nat} {v : Value} {l : List ByteArray} (h : RowTxts w g v l) (hS : S g) : TxtsAt S w v l := by
  obtain ⟨h1, h2, cur, h3, h4, h5⟩ := h
  refine ⟨h1, _, _, h2, fun _ => ⟨g, 0, rfl, hS, fun i hi => ?_⟩⟩
  simp only [Nat.zero_add]
  rw [h3.cell]
  exact h5 i hi hi
set_option maxRecDepth 100000 in
set_option maxHeartbeats 400000 in
theorem toStringS {S : Nat → Prop} {l : List ByteArray} {v : Value} {w : World} (hS : ∀ b, S b → b < w.heap.size) (h : TxtsAt S w v l) (hl : l.length ≤ 1048576) :
    Calls Tryz.prog 8 #[v] w fun e w' => (∃ v', e = .returned v' ∧ RowTxts w' w.heap.size v' l) ∧ Below w.heap.size w w' := by
  obtain ⟨hlm, a, cap, rfl, hc⟩ := h
  have HC : Hid _ := hc
  clear hc
  obtain ⟨n, hn⟩ : ∃ n, l.length = n := ⟨_, rfl⟩
  obtain ⟨cur0, hcs, hmk0⟩ := makeN 1 23 9 16 n Tryz.underlying23 (by kernel_rfl) (by omega) (by omega) w
  rw [hn] at hl hlm ⊢
  go_enter Tryz.func8, Tryz.ntmps8
  go_wp2_with fail
  go_loopw [4] (fun i4 wr => ∃ (k : Nat) (cur : Array Value), i4 = .int .i64 (k : Int) ∧ k ≤ n ∧ Blk wr w.heap.size 9 cur ∧ cur.size = n * 1 ∧ TxtsC cur l k ∧ Below w.heap.size w wr) (fun i4 _ => n - (intOf i4).toNat)
  case atStart => exact ⟨0, cur0, rfl, by omega, heap_alloc_last w _, hcs, fun i _ h => by omega, (Below.refl _ w).alloc (Nat.le_refl _) _⟩
  case round =>
    obtain ⟨k, cur, rfl, hk, hblk, hsz, hic, hb⟩ := hrel
    have HI : Hid (TxtsC cur l k) := hic
    have HB : Hid (Blk wr w.heap.size 9 cur) := hblk
    clear hic hblk
    by_cases hkn : k < n
    · have hkn' : (k : Int) < (n : Int) := by omega
      have hkl : k < l.length := by omega
      obtain ⟨b, off, rfl, hbB, hcell⟩ := HC.out (by omega)
      have c0 := hcell k hkl
      have hbw : b < w.heap.size := hS b hbB
      have d0 := (hb.cell (p := ⟨b, off + k, none⟩) hbw).trans c0
      have z0 : k < cur.size := by rw [hsz]; omega
      have hst := HI.out.step hkl z0
      obtain ⟨x, hxk⟩ : ∃ x, l[k] = x := ⟨_, rfl⟩
      rw [hxk] at d0 hst
      clear hxk c0 hcell
      have HST : Hid _ := hst
      clear hst
      have hbk := HB.out
      have e0 := hbk.cell (k)
      rw [Array.getElem?_eq_getElem z0] at e0
      have f0 := hbk.fro (k)
      go_wp2_with fail
      exact ⟨⟨k + 1, _, rfl, by omega, (hbk.set (k) _), by simp [hsz], HST.out, (hb.setCell (Nat.le_refl _) _)⟩, by simp [intOf]; omega⟩
    · have hkn' : ¬ ((k : Int) < (n : Int)) := by omega
      go_wp2_with fail
      go_ret
      exact ⟨⟨.slice (some ⟨w.heap.size, 0, none⟩) n n, rfl, by omega, by rw [hn], cur, HB.out, by rw [hsz, hn], by rw [hn]; obtain rfl : k = n := (by omega); exact HI.out⟩, hb⟩
theorem last30 (w : World) (o p q : Obj) : (((w.alloc o).alloc p).alloc q).heap[w.heap.size]? = some o := by
  have h1 := heap_alloc_last w o
  have hb : Below (w.alloc o).heap.size (w.alloc o) (((w.alloc o).alloc p).alloc q) := ((Below.refl _ _).alloc (Nat.le_refl _) _).alloc (by simp only [World.size_alloc]; omega) _
  have := hb.block w.heap.size (by simp only [World.size_alloc]; omega)
  rw [this]; exact h1
set_option maxRecDepth 100000 in
theorem toSagaStep {S : Nat → Prop} (x0 : ByteArray) (x1 : List ByteArray) (x2 : Bool) (x3 : Int) (nv : Value) (w : World) (hS : ∀ b, S b → b < w.heap.size) (h : TxtsAt S w nv x1) (hl : x1.length ≤ 1048576) :
    Calls Tryz.prog 21 #[.agg #[.string x0, nv, .bool x2, .int .i64 x3]] w fun e w' => (∃ nv', e = .returned (.agg #[.string x0, nv', .bool x2, .int .i64 x3]) ∧ ∃ g, w.heap.size ≤ g ∧ RowTxts w' g nv' x1) ∧ Below w.heap.size w w' := by
  have cs := fun o p q => toStringS (w := ((w.alloc o).alloc p).alloc q) (fun b hb => Nat.lt_of_lt_of_le (hS b hb) (bel3 w o p q).size) (h.keep (cells_below hS (bel3 w o p q))) hl
  clear h
  go_enter Tryz.func21, Tryz.ntmps21
  go_wp2_with (go_at_call 8; go_must (refine (cs _ _ _).mono ?_; rintro e w1 ⟨⟨nv', rfl, hn⟩, hb1⟩; simp only [World.size_alloc] at hn; have HN : Hid (RowTxts w1 (w.heap.size + 1 + 1 + 1) nv' x1) := hn; obtain rfl := hn.2.1; clear hn; have hk1 : Blk w1 (w.heap.size + 1) 52 #[.string ⟨#[]⟩, .slice none 0 0, .bool false, .int .i64 0] := Blk.below (last3 w _ _ _) hb1; have hk2 : Blk w1 (w.heap.size + 1 + 1) 52 #[.string x0, .slice none 0 0, .bool false, .int .i64 0] := Blk.below (last3' w _ _ _) hb1; have e10 := hk1.cell 0; have e11 := hk1.cell 1; have e12 := hk1.cell 2; have e13 := hk1.cell 3; have e20 := hk2.cell 0; have e21 := hk2.cell 1; have e22 := hk2.cell 2; have e23 := hk2.cell 3; simp at e10 e11 e12 e13 e20 e21 e22 e23; have f10 := hk1.fro 0; have f11 := hk1.fro 1; have f12 := hk1.fro 2; have f13 := hk1.fro 3; have f20 := hk2.fro 0; have f21 := hk2.fro 1; have f22 := hk2.fro 2; have f23 := hk2.fro 3; have hk0 : Blk w1 w.heap.size 37 #[.string x0, nv, .bool x2, .int .i64 x3] := Blk.below (last30 w _ _ _) hb1; have e02 := hk0.cell 2; simp at e02; have e03 := hk0.cell 3; simp at e03))
  have hb2 : Below w.heap.size w w1 := (bel3 w _ _ _).trans (hb1.mono (bel3 w _ _ _).size)
  have hle1 : w.heap.size ≤ w.heap.size + 1 := by omega
  have hle2 : w.heap.size ≤ w.heap.size + 1 + 1 := by omega
  refine bodyPost_ret (v := .agg #[.string x0, .slice (some ⟨w.heap.size + 1 + 1 + 1, 0, none⟩) x1.length x1.length, .bool x2, .int .i64 x3]) (results_cell_row rfl _ _ (w.heap.size + 1) 52 #[.string x0, .slice (some ⟨w.heap.size + 1 + 1 + 1, 0, none⟩) x1.length x1.length, .bool x2, .int .i64 x3] (0, 0) _ rfl (((((((hk1.other (show w.heap.size + 1 ≠ w.heap.size + 1 + 1 by omega) 1 _).other (show w.heap.size + 1 ≠ w.heap.size + 1 + 1 by omega) 2 _).other (show w.heap.size + 1 ≠ w.heap.size + 1 + 1 by omega) 3 _).set 0 _).set 1 _).set 2 _).set 3 _) Tryz.underlying52 rfl (by kernel_rfl)) rfl ?_
  refine ⟨⟨_, rfl, ?_⟩, (((((((hb2.setCell hle2 _).setCell hle2 _).setCell hle2 _).setCell hle1 _).setCell hle1 _).setCell hle1 _).setCell hle1 _)⟩
  refine ⟨_, by omega, HN.out.keep ?_⟩
  rw [Below.heap_setCell _ _ _ _ (by show w.heap.size + 1 + 1 + 1 ≠ w.heap.size + 1; omega), Below.heap_setCell _ _ _ _ (by show w.heap.size + 1 + 1 + 1 ≠ w.heap.size + 1; omega), Below.heap_setCell _ _ _ _ (by show w.heap.size + 1 + 1 + 1 ≠ w.heap.size + 1; omega), Below.heap_setCell _ _ _ _ (by show w.heap.size + 1 + 1 + 1 ≠ w.heap.size + 1; omega), Below.heap_setCell _ _ _ _ (by show w.heap.size + 1 + 1 + 1 ≠ w.heap.size + 1 + 1; omega), Below.heap_setCell _ _ _ _ (by show w.heap.size + 1 + 1 + 1 ≠ w.heap.size + 1 + 1; omega), Below.heap_setCell _ _ _ _ (by show w.heap.size + 1 + 1 + 1 ≠ w.heap.size + 1 + 1; omega)]
/-- A row that is laid: the first k are; what they hold lies each in a block between L and U. -/
def StepsC (L U : Nat) (w : World) (cur : Array Value) (l : List Step) (k : Nat) : Prop := ∀ i (h : i < l.length), i < k → cur[i * 4]? = some (.string l[i].name) ∧ cur[i * 4 + 2]? = some (.bool l[i].undo) ∧ cur[i * 4 + 3]? = some (.int .i64 l[i].tries) ∧ ∃ nv g, cur[i * 4 + 1]? = some nv ∧ L < g ∧ g < U ∧ RowTxts w g nv l[i].needs
theorem StepsC.keep {L U U' : Nat} {w w' : World} {cur : Array Value} {l : List Step} {k : Nat} (h : StepsC L U w cur l k) (hU : U ≤ U') (hk : ∀ b, L < b → b < U → w'.heap[b]? = w.heap[b]?) : StepsC L U' w' cur l k := by
  intro i hi hik
  obtain ⟨c0, c2, c3, nv, g, q3, q4, q5, q6⟩ := h i hi hik
  exact ⟨c0, c2, c3, nv, g, q3, q4, by omega, q6.keep (hk g q4 q5)⟩
theorem StepsC.step {L U U' : Nat} {w w' : World} {cur : Array Value} {l : List Step} {k : Nat} (h : StepsC L U w cur l k) (hk : k < l.length) (hc : k * 4 + 3 < cur.size) (nv : Value) (hU : U ≤ U')
    (hkeep : ∀ b, L < b → b < U → w'.heap[b]? = w.heap[b]?) (g : Nat) (hg : L < g) (hgU : g < U') (hn : RowTxts w' g nv l[k].needs) :
    StepsC L U' w' ((((cur.setIfInBounds (k * 4) (.string l[k].name)).setIfInBounds (k * 4 + 1) (nv)).setIfInBounds (k * 4 + 2) (.bool l[k].undo)).setIfInBounds (k * 4 + 3) (.int .i64 l[k].tries)) l (k + 1) := by
  intro i hi hik
  simp only [Array.getElem?_setIfInBounds, Array.size_setIfInBounds]
  by_cases hmk : i = k
  · subst hmk
    refine ⟨?_, ?_, ?_, nv, g, ?_, hg, hgU, hn⟩
    · rw [if_neg (by omega), if_neg (by omega), if_neg (by omega), if_pos rfl, if_pos (by omega)]
    · rw [if_neg (by omega), if_pos rfl, if_pos (by omega)]
    · rw [if_pos rfl, if_pos (by omega)]
    · rw [if_neg (by omega), if_neg (by omega), if_pos rfl, if_pos (by omega)]
  · obtain ⟨c0, c2, c3, nv', g', q3, q4, q5, q6⟩ := h i hi (by omega)
    have h3 : i * 4 + 3 < k * 4 := by omega
    rw [if_neg (by omega), if_neg (by omega), if_neg (by omega), if_neg (by omega), if_neg (by omega), if_neg (by omega), if_neg (by omega), if_neg (by omega), if_neg (by omega), if_neg (by omega), if_neg (by omega), if_neg (by omega), if_neg (by omega), if_neg (by omega), if_neg (by omega), if_neg (by omega)]
    exact ⟨c0, c2, c3, nv', g', q3, q4, by omega, q6.keep (hkeep g' q4 q5)⟩
/-- The row l, laid in the block L of its own, what it holds between L and U. -/
def RowSteps (L U : Nat) (w : World) (v : Value) (l : List Step) : Prop := l.length ≤ maxLen ∧ v = .slice (some ⟨L, 0, none⟩) l.length l.length ∧ ∃ cur, Blk w L 52 cur ∧ cur.size = l.length * 4 ∧ StepsC L U w cur l l.length
theorem RowSteps.keep {L U : Nat} {w w' : World} {v : Value} {l : List Step} (h : RowSteps L U w v l) (hk : ∀ b, L ≤ b → b < U → w'.heap[b]? = w.heap[b]?) (hU : L < U) : RowSteps L U w' v l := by
  obtain ⟨h1, h2, cur, h3, h4, h5⟩ := h
  exact ⟨h1, h2, cur, by unfold Blk at *; rw [hk L (Nat.le_refl _) hU]; exact h3, h4, h5.keep (Nat.le_refl _) (fun b hb hb' => hk b (by omega) hb')⟩
theorem RowSteps.at {L U : Nat} {w : World} {v : Value} {l : List Step} (h : RowSteps L U w v l) (hU : L < U) : StepsAt (fun b => L ≤ b ∧ b < U) w v l := by
  obtain ⟨h1, h2, cur, h3, h4, h5⟩ := h
  refine ⟨h1, _, _, h2, fun _ => ⟨L, 0, rfl, ⟨Nat.le_refl _, hU⟩, fun i hi => ?_⟩⟩
  obtain ⟨c0, c2, c3, nv, g, q3, q4, q5, q6⟩ := h5 i hi hi
  simp only [Nat.zero_add]
  rw [h3.cell, h3.cell, h3.cell, h3.cell]
  exact ⟨c0, c2, c3, nv, q3, q6.at ⟨by omega, q5⟩⟩
set_option maxRecDepth 100000 in
set_option maxHeartbeats 400000 in
theorem toSagaStepS {S : Nat → Prop} {l : List Step} {v : Value} {w : World} (hS : ∀ b, S b → b < w.heap.size) (h : StepsAt S w v l) (hl : l.length ≤ 1048576) (hns : ∀ x ∈ l, x.needs.length ≤ 1048576) :
    Calls Tryz.prog 7 #[v] w fun e w' => (∃ v', e = .returned v' ∧ RowSteps w.heap.size w'.heap.size w' v' l ∧ w.heap.size < w'.heap.size) ∧ Below w.heap.size w w' := by
  obtain ⟨hlm, a, cap, rfl, hc⟩ := h
  have HC : Hid _ := hc
  have HNS : Hid (∀ x ∈ l, x.needs.length ≤ 1048576) := hns
  clear hc hns
  obtain ⟨n, hn⟩ : ∃ n, l.length = n := ⟨_, rfl⟩
  obtain ⟨cur0, hcs, hmk0⟩ := makeN 4 28 52 56 n Tryz.underlying28 (by kernel_rfl) (by omega) (by omega) w
  rw [hn] at hl hlm ⊢
  go_enter Tryz.func7, Tryz.ntmps7
  go_wp2_with fail
  go_loopw [4] (fun i4 wr => ∃ (k : Nat) (cur : Array Value), i4 = .int .i64 (k : Int) ∧ k ≤ n ∧ Blk wr w.heap.size 52 cur ∧ cur.size = n * 4 ∧ StepsC w.heap.size wr.heap.size wr cur l k ∧ Below w.heap.size w wr) (fun i4 _ => n - (intOf i4).toNat)
  case atStart => exact ⟨0, cur0, rfl, by omega, heap_alloc_last w _, hcs, fun i _ h => by omega, (Below.refl _ w).alloc (Nat.le_refl _) _⟩
  case round =>
    obtain ⟨k, cur, rfl, hk, hblk, hsz, hic, hb⟩ := hrel
    have HI : Hid (StepsC w.heap.size wr.heap.size wr cur l k) := hic
    have HB : Hid (Blk wr w.heap.size 52 cur) := hblk
    clear hic hblk
    by_cases hkn : k < n
    · have hkn' : (k : Int) < (n : Int) := by omega
      have hkl : k < l.length := by omega
      obtain ⟨b, off, rfl, hbB, hcell⟩ := HC.out (by omega)
      obtain ⟨c0, c2, c3, nv, t1, t2⟩ := hcell k hkl
      have hbw : b < w.heap.size := hS b hbB
      have d0 := (hb.cell (p := ⟨b, off + k * 4, none⟩) hbw).trans c0
      have d2 := (hb.cell (p := ⟨b, off + k * 4 + 2, none⟩) hbw).trans c2
      have d3 := (hb.cell (p := ⟨b, off + k * 4 + 3, none⟩) hbw).trans c3
      have d1 := (hb.cell (p := ⟨b, off + k * 4 + 1, none⟩) hbw).trans t1
      have z0 : k * 4 < cur.size := by rw [hsz]; omega
      have z1 : k * 4 + 1 < cur.size := by rw [hsz]; omega
      have z2 : k * 4 + 2 < cur.size := by rw [hsz]; omega
      have z3 : k * 4 + 3 < cur.size := by rw [hsz]; omega
      have hst := fun U' w' nv => HI.out.step (U' := U') (w' := w') hkl z3 nv
      have cr := toSagaStep l[k].name l[k].needs l[k].undo l[k].tries nv wr (fun b hbb => Nat.lt_of_lt_of_le (hS b hbb) hb.size) (t2.keep (cells_below hS hb)) (HNS.out _ (List.getElem_mem hkl))
      obtain ⟨x, hxk⟩ : ∃ x, l[k] = x := ⟨_, rfl⟩
      rw [hxk] at d0 d2 d3 hst cr
      clear hxk c0 c2 c3 t1 t2 hcell
      obtain ⟨x0, x1, x2, x3⟩ := x
      dsimp only at d0 d2 d3 d1 hst cr
      have HST : Hid _ := hst
      clear hst
      go_wp2_with (go_at_call 21; go_must (refine cr.mono ?_; rintro e w1 ⟨⟨nv', rfl, g', hg', hn'⟩, hb1⟩; have HN : Hid (RowTxts w1 g' nv' x1) := hn'; obtain rfl := hn'.2.1; clear hn'; have hbk := HB.out.below hb1; have e0 := hbk.cell (k * 4); have e1 := hbk.cell (k * 4 + 1); have e2 := hbk.cell (k * 4 + 2); have e3 := hbk.cell (k * 4 + 3); rw [Array.getElem?_eq_getElem z0] at e0; rw [Array.getElem?_eq_getElem z1] at e1; rw [Array.getElem?_eq_getElem z2] at e2; rw [Array.getElem?_eq_getElem z3] at e3; have f0 := hbk.fro (k * 4); have f1 := hbk.fro (k * 4 + 1); have f2 := hbk.fro (k * 4 + 2); have f3 := hbk.fro (k * 4 + 3)))
      have hglt := HB.out.lt
      have hkp : ∀ b, b ≠ w.heap.size → ∀ v0 v1 v2 v3 : Value, ((((w1.setCell ⟨w.heap.size, k * 4, none⟩ v0).setCell ⟨w.heap.size, k * 4 + 1, none⟩ v1).setCell ⟨w.heap.size, k * 4 + 2, none⟩ v2).setCell ⟨w.heap.size, k * 4 + 3, none⟩ v3).heap[b]? = w1.heap[b]? := fun b hb v0 v1 v2 v3 => by
        rw [Below.heap_setCell _ _ _ _ hb, Below.heap_setCell _ _ _ _ hb, Below.heap_setCell _ _ _ _ hb, Below.heap_setCell _ _ _ _ hb]
      have hgl := HN.out.lt
      refine ⟨⟨k + 1, _, rfl, by omega, ((((hbk.set (k * 4) _).set (k * 4 + 1) _).set (k * 4 + 2) _).set (k * 4 + 3) _), by simp [hsz], ?_, (((((good_below hb hb1).setCell (Nat.le_refl _) _).setCell (Nat.le_refl _) _).setCell (Nat.le_refl _) _).setCell (Nat.le_refl _) _)⟩, by simp [intOf]; omega⟩
      exact HST.out _ _ _ (by simp only [World.size_setCell]; exact hb1.size) (fun b hb3 hb4 => (hkp b (by omega) _ _ _ _).trans (hb1.block b hb4)) g' (by omega) (by simp only [World.size_setCell]; exact hgl) (HN.out.keep (hkp g' (by omega) _ _ _ _))
    · have hkn' : ¬ ((k : Int) < (n : Int)) := by omega
      go_wp2_with fail
      go_ret
      exact ⟨⟨.slice (some ⟨w.heap.size, 0, none⟩) n n, rfl, ⟨by omega, by rw [hn], cur, HB.out, by rw [hsz, hn], by rw [hn]; obtain rfl : k = n := (by omega); exact HI.out⟩, HB.out.lt⟩, hb⟩
end Go.Proofs.YtdheogonghcokaaGreatDoor

namespace Go.Proofs.YtdheogonghcokaaGreatDoor
open Go.ChangeShapes Go.WideShapes Go.ChangeAt Go.RowKit
set_option linter.unusedVariables false
set_option linter.unusedSimpArgs false

/-- A world of a kind. -/
structure GoodW (good : World → Prop) where
  W : World
  ok : good W

theorem wp_region_calm {P : Program} (good : World → Prop) {id : Nat} {Q : Exit → Act → World → Prop} {a : Act} {w : World} {l : List Oper} (hm : P.follows .mixedOrders = true) (hB : Region.lexB .any l.toArray = true) (h0 : good w.drew)
    (h : wpQuiet P l.toArray (fun w' => ∃ n : GoodW good, w' = n.W) (fun a' => ∀ w', (∃ n : GoodW good, w' = n.W) → Q .normal a' w') l a) : (Code.region id l.toArray true).wp P Q a w :=
  wp_region_quiet (C := fun w' => ∃ n : GoodW good, w' = n.W) hm hB ⟨⟨_, h0⟩, rfl⟩ (by simpa using h)

theorem Calls.calm {P : Program} {f : FuncId} {args : Array Value} {good : World → Prop} (n : GoodW good) {v : Value} (hg : ∀ w', Below n.W.heap.size n.W w' → good w')
    (h : Calls P f args n.W fun e w' => e = .returned v ∧ Below n.W.heap.size n.W w') : Calls P f args n.W fun e w'' => e = .returned v ∧ ∃ m : GoodW good, w'' = m.W :=
  h.mono fun _ w' ⟨he, hb⟩ => ⟨he, ⟨w', hg w' hb⟩, rfl⟩
theorem Calls.calm_same {P : Program} {f : FuncId} {args : Array Value} {good : World → Prop} (n : GoodW good) {v : Value}
    (h : Calls P f args n.W fun e w' => e = .returned v ∧ n.W = w') : Calls P f args n.W fun e w'' => e = .returned v ∧ ∃ m : GoodW good, w'' = m.W :=
  h.mono fun _ w' ⟨he, hb⟩ => ⟨he, n, hb.symm⟩
theorem two1 (w : World) (o p : Obj) : ((w.alloc o).alloc p).heap[w.heap.size]? = some o := by
  have h1 := heap_alloc_last w o
  have := ((Below.refl _ (w.alloc o)).alloc (Nat.le_refl _) p).block w.heap.size (by simp)
  rw [this]; exact h1
theorem two2 (w : World) (o p : Obj) : ((w.alloc o).alloc p).heap[w.heap.size + 1]? = some p := by
  have := heap_alloc_last (w.alloc o) p
  simpa only [World.size_alloc] using this
set_option maxRecDepth 100000 in
set_option maxHeartbeats 400000 in
theorem eqStringS {S1 S2 : Nat → Prop} {v1 v2 : Value} {l : List ByteArray} {w : World} (hS1 : ∀ b, S1 b → b < w.heap.size) (hS2 : ∀ b, S2 b → b < w.heap.size) (h1 : TxtsAt S1 w v1 l) (h2 : TxtsAt S2 w v2 l) :
    Calls Tryz.prog 10 #[v1, v2] w fun e w' => e = .returned (.bool true) ∧ Below w.heap.size w w' := by
  obtain ⟨hlm, a1, c1, rfl, q1⟩ := h1
  obtain ⟨_, a2, c2, rfl, q2⟩ := h2
  have Q1 : Hid _ := q1
  have Q2 : Hid _ := q2
  have hlm' : (l.length : Int) ≤ 9223372036854775807 := by simp [maxLen] at hlm; omega
  clear q1 q2 hlm
  go_enter Tryz.func10, Tryz.ntmps10
  go_wp2
  go_loopw [5] (fun i5 wr => ∃ k : Nat, i5 = .int .i64 (k : Int) ∧ k ≤ l.length ∧ Below w.heap.size w wr) (fun i5 _ => l.length - (intOf i5).toNat)
  case atStart => exact ⟨0, rfl, by omega, Below.refl _ _⟩
  case round =>
    obtain ⟨k, rfl, hk, hB⟩ := hrel
    by_cases hkn : k < l.length
    · have hkn' : (k : Int) < (l.length : Int) := by omega
      obtain ⟨b1, o1, rfl, hb1, hc1⟩ := Q1.out (by omega)
      obtain ⟨b2, o2, rfl, hb2, hc2⟩ := Q2.out (by omega)
      have x_0 := hc1 k hkn
      have y_0 := hc2 k hkn
      obtain ⟨x, hx⟩ : ∃ x, l[k] = x := ⟨_, rfl⟩
      rw [hx] at x_0 y_0
      clear hx hc1 hc2
      have p0 := fun N : GoodW (fun W => Below w.heap.size w W) => (N.ok.cell (p := ⟨b1, o1 + k, none⟩) (hS1 _ hb1)).trans x_0
      have r0 := fun N : GoodW (fun W => Below w.heap.size w W) => (N.ok.cell (p := ⟨b2, o2 + k, none⟩) (hS2 _ hb2)).trans y_0
      clear x_0 y_0
      go_wp2_with fail
      haveI ne : Nonempty (GoodW (fun W => Below w.heap.size w W)) := ⟨⟨_, hB⟩⟩
      refine wp_region_calm (fun W => Below w.heap.size w W) (by kernel_rfl) (by kernel_rfl) hB.drew ?_
      repeat (go_big_quiet_step ((fail)))
      refine wpQuiet_nil ?_
      rintro _ ⟨⟨W2, hW2⟩, rfl⟩
      go_wp2_with fail
      go_roundw
      case rel => exact ⟨k + 1, by go_num, by omega, hW2⟩
      case measure => simp [intOf]; omega
    · have hkn' : ¬ ((k : Int) < (l.length : Int)) := by omega
      go_wp2_with fail
      go_ret
      exact ⟨rfl, hB⟩
set_option maxRecDepth 100000 in
theorem eqSagaStep {S1 S2 : Nat → Prop} (x0 : ByteArray) (x1 : List ByteArray) (x2 : Bool) (x3 : Int) (n1 n2 : Value) (w : World) (hS1 : ∀ b, S1 b → b < w.heap.size) (hS2 : ∀ b, S2 b → b < w.heap.size) (h1 : TxtsAt S1 w n1 x1) (h2 : TxtsAt S2 w n2 x1) :
    Calls Tryz.prog 31 #[.agg #[.string x0, n1, .bool x2, .int .i64 x3], .agg #[.string x0, n2, .bool x2, .int .i64 x3]] w fun e w' => e = .returned (.bool true) ∧ Below w.heap.size w w' := by
  have hw2 : ∀ o p, Below w.heap.size w ((w.alloc o).alloc p) := fun o p => ((Below.refl _ w).alloc (Nat.le_refl _) _).alloc (by simp) _
  have ce := fun o p => eqStringS (w := (w.alloc o).alloc p) (fun b hb => Nat.lt_of_lt_of_le (hS1 b hb) (hw2 o p).size) (fun b hb => Nat.lt_of_lt_of_le (hS2 b hb) (hw2 o p).size) (h1.keep (cells_below hS1 (hw2 o p))) (h2.keep (cells_below hS2 (hw2 o p)))
  obtain ⟨a1, c1, rfl⟩ := h1.shape
  obtain ⟨a2, c2, rfl⟩ := h2.shape
  clear h1 h2
  go_enter Tryz.func31, Tryz.ntmps31
  go_wp2_with (go_at_call 10; go_must (refine (ce _ _).mono ?_; rintro e w1 ⟨rfl, hb1⟩; have k1 : Blk w1 w.heap.size 52 _ := Blk.below (two1 w _ _) hb1; have k2 : Blk w1 (w.heap.size + 1) 52 _ := Blk.below (two2 w _ _) hb1; have g12 := k1.cell 2; have g22 := k2.cell 2; have g13 := k1.cell 3; have g23 := k2.cell 3; simp at g12 g22 g13 g23))
  go_ret
  exact ⟨rfl, good_below (hw2 _ _) hb1⟩
set_option maxRecDepth 100000 in
set_option maxHeartbeats 400000 in
theorem eqSagaStepS {S1 S2 : Nat → Prop} {v1 v2 : Value} {l : List Step} {w : World} (hS1 : ∀ b, S1 b → b < w.heap.size) (hS2 : ∀ b, S2 b → b < w.heap.size) (h1 : StepsAt S1 w v1 l) (h2 : StepsAt S2 w v2 l) :
    Calls Tryz.prog 11 #[v1, v2] w fun e w' => e = .returned (.bool true) ∧ Below w.heap.size w w' := by
  obtain ⟨hlm, a1, c1, rfl, q1⟩ := h1
  obtain ⟨_, a2, c2, rfl, q2⟩ := h2
  have Q1 : Hid _ := q1
  have Q2 : Hid _ := q2
  have hlm' : (l.length : Int) ≤ 9223372036854775807 := by simp [maxLen] at hlm; omega
  clear q1 q2 hlm
  go_enter Tryz.func11, Tryz.ntmps11
  go_wp2
  go_loopw [5] (fun i5 wr => ∃ k : Nat, i5 = .int .i64 (k : Int) ∧ k ≤ l.length ∧ Below w.heap.size w wr) (fun i5 _ => l.length - (intOf i5).toNat)
  case atStart => exact ⟨0, rfl, by omega, Below.refl _ _⟩
  case round =>
    obtain ⟨k, rfl, hk, hB⟩ := hrel
    by_cases hkn : k < l.length
    · have hkn' : (k : Int) < (l.length : Int) := by omega
      obtain ⟨b1, o1, rfl, hb1, hc1⟩ := Q1.out (by omega)
      obtain ⟨b2, o2, rfl, hb2, hc2⟩ := Q2.out (by omega)
      obtain ⟨x_0, x_2, x_3, nv1, t1, i1⟩ := hc1 k hkn
      obtain ⟨y_0, y_2, y_3, nv2, t2, i2⟩ := hc2 k hkn
      obtain ⟨x, hx⟩ : ∃ x, l[k] = x := ⟨_, rfl⟩
      rw [hx] at x_0 x_2 x_3 y_0 y_2 y_3 i1 i2
      clear hx hc1 hc2
      obtain ⟨x0, x1, x2, x3⟩ := x
      dsimp only at x_0 x_2 x_3 y_0 y_2 y_3 i1 i2
      have p0 := fun N : GoodW (fun W => Below w.heap.size w W) => (N.ok.cell (p := ⟨b1, o1 + k * 4, none⟩) (hS1 _ hb1)).trans x_0
      have r0 := fun N : GoodW (fun W => Below w.heap.size w W) => (N.ok.cell (p := ⟨b2, o2 + k * 4, none⟩) (hS2 _ hb2)).trans y_0
      have p2 := fun N : GoodW (fun W => Below w.heap.size w W) => (N.ok.cell (p := ⟨b1, o1 + k * 4 + 2, none⟩) (hS1 _ hb1)).trans x_2
      have r2 := fun N : GoodW (fun W => Below w.heap.size w W) => (N.ok.cell (p := ⟨b2, o2 + k * 4 + 2, none⟩) (hS2 _ hb2)).trans y_2
      have p3 := fun N : GoodW (fun W => Below w.heap.size w W) => (N.ok.cell (p := ⟨b1, o1 + k * 4 + 3, none⟩) (hS1 _ hb1)).trans x_3
      have r3 := fun N : GoodW (fun W => Below w.heap.size w W) => (N.ok.cell (p := ⟨b2, o2 + k * 4 + 3, none⟩) (hS2 _ hb2)).trans y_3
      have p1 := fun N : GoodW (fun W => Below w.heap.size w W) => (N.ok.cell (p := ⟨b1, o1 + k * 4 + 1, none⟩) (hS1 _ hb1)).trans t1
      have r1 := fun N : GoodW (fun W => Below w.heap.size w W) => (N.ok.cell (p := ⟨b2, o2 + k * 4 + 1, none⟩) (hS2 _ hb2)).trans t2
      clear t1 t2
      clear x_0 x_2 x_3 y_0 y_2 y_3
      have ce : ∀ N : GoodW (fun W => Below w.heap.size w W), Calls Tryz.prog 31 #[.agg #[.string x0, nv1, .bool x2, .int .i64 x3], .agg #[.string x0, nv2, .bool x2, .int .i64 x3]] N.W fun e w' => e = .returned (.bool true) ∧ Below N.W.heap.size N.W w' := fun N => eqSagaStep x0 x1 x2 x3 nv1 nv2 N.W (fun b hb => Nat.lt_of_lt_of_le (hS1 b hb) N.ok.size) (fun b hb => Nat.lt_of_lt_of_le (hS2 b hb) N.ok.size) (i1.keep (cells_below hS1 N.ok)) (i2.keep (cells_below hS2 N.ok))
      obtain ⟨a3, c3, rfl⟩ := i1.shape
      obtain ⟨a4, c4, rfl⟩ := i2.shape
      clear i1 i2
      go_wp2_with fail
      haveI ne : Nonempty (GoodW (fun W => Below w.heap.size w W)) := ⟨⟨_, hB⟩⟩
      refine wp_region_calm (fun W => Below w.heap.size w W) (by kernel_rfl) (by kernel_rfl) hB.drew ?_
      repeat (go_big_quiet_step ((go_at_call 31; exact Calls.calm _ (fun w2 hb => good_below (GoodW.ok _) hb) (ce _))))
      refine wpQuiet_nil ?_
      rintro _ ⟨⟨W2, hW2⟩, rfl⟩
      go_wp2_with fail
      go_roundw
      case rel => exact ⟨k + 1, by go_num, by omega, hW2⟩
      case measure => simp [intOf]; omega
    · have hkn' : ¬ ((k : Int) < (l.length : Int)) := by omega
      go_wp2_with fail
      go_ret
      exact ⟨rfl, hB⟩
end Go.Proofs.YtdheogonghcokaaGreatDoor

namespace Go.Proofs.YtdheogonghcokaaGreatDoor
open Go.RowKit
section
variable {P : Program}

def bv (b : UInt8) : Value := .int .u8 (b.toNat : Int)
/-- The slice v owns, among the blocks from B on, just the bytes l. -/
def OwnB (B : Nat) (w : World) (v : Value) (l : List UInt8) : Prop := w.ownsRow B 5 1 v l.length (l.map bv)

theorem OwnB.below {B : Nat} {w w' : World} {v : Value} {l : List UInt8} (h : OwnB B w v l) (hb : Below w.heap.size w w') : OwnB B w' v l := by
  obtain ⟨hl, h⟩ := h
  refine ⟨hl, ?_⟩
  rcases h with h | ⟨g, cap, cur, hv, hB, hg, h1, h2, h3, h4⟩
  · exact .inl h
  · refine .inr ⟨g, cap, cur, hv, hB, ?_, h1, h2, h3, h4⟩
    rw [hb.block g (Array.getElem?_eq_some_iff.1 hg).1]; exact hg

theorem OwnB.block {B : Nat} {w : World} {v : Value} {l : List UInt8} (h : OwnB B w v l) : ∀ k, v.ownBlock = some k → B ≤ k := by
  intro k hk
  rcases h.2 with ⟨rfl, _⟩ | ⟨g, cap, cur, rfl, hB, _⟩
  · simp [Value.ownBlock] at hk
  · simp [Value.ownBlock] at hk; omega

/-- Its cells, where it has some. -/
theorem OwnB.value {B : Nat} {w : World} {v : Value} {l : List UInt8} (h : OwnB B w v l) :
    (v = .slice none 0 0 ∧ l = []) ∨ ∃ g cap, v = .slice (some ⟨g, 0, none⟩) l.length cap ∧ ∀ j (hj : j < l.length), w.cell? ⟨g, j, none⟩ = some (bv l[j]) := by
  rcases h.2 with ⟨rfl, h0⟩ | ⟨g, cap, cur, rfl, hB, hg, h1, h2, h3, h4⟩
  · exact .inl ⟨rfl, List.eq_nil_of_length_eq_zero h0⟩
  · refine .inr ⟨g, cap, rfl, fun j hj => ?_⟩
    simp only [World.cell?, hg]
    have h5 := congrArg (·[j]?) h4
    simp only [Nat.mul_one, List.getElem?_take, hj, if_true, List.getElem?_map, List.getElem?_eq_getElem hj, Option.map_some] at h5
    simpa using h5

theorem wpList_appendB {ops : Array Oper} {rest : List Oper} {o : Oper} {a : Act} {w : World} {Q : Exit → Act → World → Prop} (hgd : o.guard = none) (s x : Operand) (t : TypeId)
    (ho : o.op = .call { callee := .builtin .append, args := #[s, x], argTypes := #[t, t] })
    (ht : P.underlying t = some (.slice 5)) (hi : (P.info? 5).map (fun i => (i.zero, i.size, i.bytes)) = some (some (.int .u8 0), 1, 1))
    (B : Nat) (v : Value) (l : List UInt8) (hs : a.eval s = v) (hown : OwnB B w v l)
    (ad : Addr) (m c : Nat) (news : List UInt8) (hx : a.eval x = .slice (some ad) m c) (hl : news.length = m) (hnews : ∀ j (h : j < news.length), w.cell? (ad.add j) = some (bv news[j]))
    (hsz : l.length + news.length ≤ 10000000) (hB : B ≤ w.heap.size)
    (h : ∀ v' w', OwnB B w' v' (l ++ news) → Below B w w' → w.grownBy w' v.ownBlock → wpList P ops Q rest (a.put o.dst v') w') : wpList P ops Q (o :: rest) a w := by
  obtain ⟨i, hii, hz0, hz1, hz2⟩ := info_parts hi
  refine wpList_append_own w hgd s x t ho B 5 i (.int .u8 0) 1 1 ht hii hz0 hz1 hz2 rfl (by decide) v l.length (l.map bv) hs hown ad m c (news.map bv) hx (by simp [hl]) ?_ ?_ ?_ ?_ hB ?_
  · intro j u hj
    simp only [List.getElem?_map, Option.map_eq_some_iff] at hj
    obtain ⟨b, hb, rfl⟩ := hj
    obtain ⟨hj', rfl⟩ := List.getElem?_eq_some_iff.1 hb
    exact hnews j hj'
  · intro u hu
    obtain ⟨b, _, rfl⟩ := List.mem_map.1 hu
    rfl
  · unfold maxLen; omega
  · omega
  · intro v' w' h1 h2 h3
    refine h v' w' ?_ ((Below.refl _ w).grown h2 hB (OwnB.block hown)) h2
    unfold OwnB
    rw [List.map_append, List.length_append, hl]
    exact h1

/-- []byte(s) of a string: a new row. -/
theorem wpList_bytesOf {ops : Array Oper} {rest : List Oper} {o : Oper} {a : Act} {w : World} {Q : Exit → Act → World → Prop} (hgd : o.guard = none) (src t : TypeId) (x : Operand)
    (ho : o.op = .convert src t x) (hs : P.underlying src = some .string) (ht : P.underlying t = some (.slice 5)) (he : P.underlying 5 = some (.int .u8))
    (s : ByteArray) (hx : a.eval x = .string s)
    (h : ∀ cap, wpList P ops Q rest (a.put o.dst (.slice (some ⟨w.heap.size, 0, none⟩) s.size cap)) (Lib.bytesWorld w 5 s)) : wpList P ops Q (o :: rest) a w := by
  refine wpList_plain hgd fun _ hK => ?_
  unfold Oper.wp execOp
  simp only [ho, hx, Sem.run_bind, Lib.run_convert_string_bytes w src t 5 s hs ht he, Result.andThen_ok]
  exact hK _ _ (h _)

theorem bytesWorld_below (w : World) (s : ByteArray) : Below w.heap.size w (Lib.bytesWorld w 5 s) :=
  ⟨by simp [Lib.bytesWorld, World.freeze]; rfl, by simp [Lib.bytesWorld, World.freeze], by simp [Lib.bytesWorld, World.freeze]; rfl, by rw [Lib.bytesWorld_size]; omega, fun k hk => Lib.bytesWorld_at_old w 5 s k hk⟩

/-- string(b) of a row that the call owns. -/
theorem wpList_stringOf {ops : Array Oper} {rest : List Oper} {o : Oper} {a : Act} {w : World} {Q : Exit → Act → World → Prop} (hgd : o.guard = none) (t dst : TypeId) (x : Operand)
    (ho : o.op = .convert t dst x) (hd : P.underlying dst = some .string) (ht : P.underlying t = some (.slice 5)) (he : P.underlying 5 = some (.int .u8))
    (B : Nat) (v : Value) (l : List UInt8) (hx : a.eval x = v) (hown : OwnB B w v l)
    (h : wpList P ops Q rest (a.put o.dst (.string ⟨l.toArray⟩)) w) : wpList P ops Q (o :: rest) a w := by
  refine wpList_plain hgd fun _ hK => ?_
  unfold Oper.wp execOp
  have hrun : (convert t dst v).run P w = .ok (.string ⟨l.toArray⟩) w := by
    rcases hown.value with ⟨rfl, rfl⟩ | ⟨g, cap, rfl, hc⟩
    · exact run_convert_bytes_nil w t 5 ht he 0 0 dst hd
    · refine run_convert_bytes_back w t dst 5 ⟨g, 0, none⟩ cap l ht he hd fun j hj => ?_
      have hadd : (⟨g, 0, none⟩ : Addr).add j = ⟨g, j, none⟩ := by unfold Addr.add; split <;> simp_all
      rw [hadd]; exact hc j hj
  simp only [ho, hx, Sem.run_bind, hrun, Result.andThen_ok]
  exact hK _ _ h
end
end Go.Proofs.YtdheogonghcokaaGreatDoor

namespace Go.Proofs.YtdheogonghcokaaGreatDoor
open Go.ChangeShapes Go.WideShapes Go.ChangeAt Go.RowKit
set_option linter.unusedVariables false
set_option linter.unusedSimpArgs false

/-- Of the blocks that were there, only some of S have turned. -/
structure OutS (S : Nat → Prop) (w w' : World) : Prop where
  os : w'.os = w.os
  tape : w'.tape = w.tape
  output : w'.output = w.output
  size : w.heap.size ≤ w'.heap.size
  block : ∀ k, k < w.heap.size → ¬ S k → w'.heap[k]? = w.heap[k]?
theorem OutS.refl (S : Nat → Prop) (w : World) : OutS S w w := ⟨rfl, rfl, rfl, Nat.le_refl _, fun _ _ _ => rfl⟩
theorem OutS.trans {S : Nat → Prop} {a b c : World} (h : OutS S a b) (k : OutS S b c) : OutS S a c :=
  ⟨k.os.trans h.os, k.tape.trans h.tape, k.output.trans h.output, Nat.le_trans h.size k.size, fun i hi hs => (k.block i (Nat.lt_of_lt_of_le hi h.size) hs).trans (h.block i hi hs)⟩
theorem OutS.mono {S S' : Nat → Prop} {a b : World} (h : OutS S a b) (hS : ∀ k, S k → S' k) : OutS S' a b :=
  ⟨h.os, h.tape, h.output, h.size, fun i hi hs => h.block i hi (fun h => hs (hS i h))⟩
theorem OutS.of {S : Nat → Prop} {a b : World} (h : Below a.heap.size a b) : OutS S a b := ⟨h.os, h.tape, h.output, h.size, fun i hi _ => h.block i hi⟩
theorem OutS.set {S : Nat → Prop} {a b : World} (h : OutS S a b) {g i : Nat} (hg : S g) (v : Value) : OutS S a (b.setCell ⟨g, i, none⟩ v) :=
  ⟨h.os, h.tape, h.output, by rw [World.size_setCell]; exact h.size, fun k hk hs => by rw [Below.heap_setCell _ _ _ _ (fun e => hs (by rw [e]; exact hg))]; exact h.block k hk hs⟩
theorem OutS.below {S : Nat → Prop} {a b : World} {B : Nat} (h : OutS S a b) (hS : ∀ k, S k → B ≤ k) (hB : B ≤ a.heap.size) : Below B a b :=
  ⟨h.os, h.tape, h.output, h.size, fun k hk => h.block k (by omega) (fun hs => by have := hS k hs; omega)⟩

/-- The block of a slice. -/
def BlkOf (v : Value) (b : Nat) : Prop := ∃ n c, v = .slice (some ⟨b, 0, none⟩) n c
theorem BlkOf.mk {b n c : Nat} : BlkOf (.slice (some ⟨b, 0, none⟩) n c) b := ⟨n, c, rfl⟩
theorem BlkOf.eq {g b n c : Nat} (h : BlkOf (.slice (some ⟨g, 0, none⟩) n c) b) : b = g := by
  obtain ⟨_, _, h⟩ := h
  injection h with h
  injection h with h
  injection h with h
  exact h.symm

/-- The digits of k ahead of acc. -/
def digs (k : Nat) (acc : List UInt8) : List UInt8 := if h : k = 0 then acc else digs (k / 10) (UInt8.ofNat (48 + k % 10) :: acc)
termination_by k
decreasing_by omega

theorem digs_zero (acc : List UInt8) : digs 0 acc = acc := by unfold digs; simp
theorem digs_pos {k : Nat} (h : k ≠ 0) (acc : List UInt8) : digs k acc = digs (k / 10) (UInt8.ofNat (48 + k % 10) :: acc) := by
  conv => lhs; unfold digs
  rw [dif_neg h]

/-- markText's text. -/
def markOf (k : Nat) : ByteArray := ⟨(109 :: digs k []).toArray⟩

set_option maxRecDepth 100000 in
set_option maxHeartbeats 400000 in
theorem lawText (k : Nat) (h0 : 0 < k) (hk : k ≤ 1000000000000000) (w : World) :
    Calls Tryz.prog 32 #[.int .i64 (k : Int)] w fun e w' => e = .returned (.string (markOf k)) ∧ Below w.heap.size w w' := by
  obtain ⟨D, hD⟩ : ∃ D, digs k [] = D := ⟨_, rfl⟩
  have HD : Hid (digs k [] = D) := hD
  unfold markOf
  rw [hD]
  clear hD
  have hkb : decide (k = 0) = false := by simp; omega
  go_enter Tryz.func32, Tryz.ntmps32
  go_wp2

  go_loopw [0, 3] (fun i0 i3 wr => ∃ (n : Nat) (acc : List UInt8), i0 = .int .i64 (n : Int) ∧ i3 = .string ⟨acc.toArray⟩ ∧ acc.length + n ≤ 1000000000000000 ∧ digs n acc = D ∧ Below w.heap.size w wr) (fun i0 _ _ => (intOf i0).toNat)
  case atStart => exact ⟨k, [], rfl, rfl, by simpa using hk, HD, Below.refl _ _⟩
  case round =>
    obtain ⟨n, acc, rfl, rfl, hb, hd, hB⟩ := hrel
    have HDg : Hid (digs n acc = D) := hd
    clear hd HD
    by_cases hn : n = 0
    · subst hn
      go_wp2
      go_ret
      refine ⟨?_, hB⟩
      rw [← HDg.out, digs_zero]
      congr 2
    · have hn' : (0 : Int) < (n : Int) := by omega
      have hown : OwnB w.heap.size (wr.alloc (.cells #[.int .u8 (48 + (n : Int) % 10)] 5)) (.slice (some ⟨wr.heap.size, 0, none⟩) 1 1) [UInt8.ofNat (48 + n % 10)] := by
        refine ⟨rfl, .inr ⟨wr.heap.size, 1, _, rfl, hB.size, heap_alloc_last wr _, by simp, by decide, rfl, ?_⟩⟩
        simp [bv]
        omega
      obtain ⟨c, hc⟩ : ∃ c, UInt8.ofNat (48 + n % 10) = c := ⟨_, rfl⟩
      have HS : Hid (digs (n / 10) (c :: acc) = D) := by
        show _ = _
        rw [← hc, ← digs_pos hn acc]; exact HDg
      rw [hc] at hown
      clear hc HDg
      go_wp2_with (refine wpList_stringOf rfl 85 9 (.tmp 12) rfl Tryz.underlying9 Tryz.underlying85 Tryz.underlying5 w.heap.size _ _ rfl hown ?_)
      go_roundw
      case rel => exact ⟨n / 10, c :: acc, by go_num, by congr 1, by simp; omega, HS, hB.alloc hB.size _⟩
      case measure => simp [intOf]; omega


def TxtsCells (x : ByteArray) : List Value := [.string x]
def TxtsRow (l : List ByteArray) : List Value := l.flatMap TxtsCells
theorem TxtsRow_length (l : List ByteArray) : (TxtsRow l).length = l.length * 1 := by
  induction l with
  | nil => rfl
  | cons a t ih => simp only [TxtsRow, List.flatMap_cons, List.length_append, List.length_cons] at ih ⊢; rw [ih]; simp [TxtsCells] <;> omega
theorem TxtsRow_append (l k : List ByteArray) : TxtsRow (l ++ k) = TxtsRow l ++ TxtsRow k := by simp [TxtsRow]
theorem TxtsRow_one {l : List ByteArray} {u : Value} (hu : u ∈ TxtsRow l) : u.oneCell' = true := by
  obtain ⟨x, _, hx⟩ := List.mem_flatMap.1 hu
  simp only [TxtsCells, List.mem_cons, List.mem_nil_iff, or_false] at hx
  subst hx; rfl
theorem TxtsRow_at (l : List ByteArray) (k : Nat) (hk : k < l.length) : (TxtsRow l)[k]? = some (.string l[k]) := by
  induction l generalizing k with
  | nil => simp at hk
  | cons a t ih =>
    have hc : TxtsRow (a :: t) = TxtsCells a ++ TxtsRow t := by simp [TxtsRow]
    rw [hc]
    cases k with
    | zero => simp [TxtsCells]
    | succ k =>
      rw [List.getElem?_append_right (by simp [TxtsCells] <;> omega)]
      have e0 : (k + 1) - (TxtsCells a).length = k := by simp [TxtsCells] <;> omega
      rw [e0]
      simpa using ih k (by simpa using hk)
/-- A row of one's own. -/
def OwnTxts (B : Nat) (w : World) (v : Value) (l : List ByteArray) : Prop := w.ownsRow B 9 1 v l.length (TxtsRow l)
theorem OwnTxts.below {B : Nat} {w w' : World} {v : Value} {l : List ByteArray} (h : OwnTxts B w v l) (hb : Below w.heap.size w w') : OwnTxts B w' v l := by
  obtain ⟨hl, h⟩ := h
  refine ⟨hl, ?_⟩
  rcases h with h | ⟨g, cap, cur, hv, hB, hg, h1, h2, h3, h4⟩
  · exact .inl h
  · refine .inr ⟨g, cap, cur, hv, hB, ?_, h1, h2, h3, h4⟩
    rw [hb.block g (Array.getElem?_eq_some_iff.1 hg).1]; exact hg
theorem OwnTxts.mono {B B' : Nat} {w : World} {v : Value} {l : List ByteArray} (h : OwnTxts B w v l) (hB : B' ≤ B) : OwnTxts B' w v l := by
  obtain ⟨hl, h⟩ := h
  refine ⟨hl, ?_⟩
  rcases h with h | ⟨g, cap, cur, hv, hg, h1⟩
  · exact .inl h
  · exact .inr ⟨g, cap, cur, hv, Nat.le_trans hB hg, h1⟩
theorem OwnTxts.value {B : Nat} {w : World} {v : Value} {l : List ByteArray} (h : OwnTxts B w v l) :
    ∃ a cap, v = .slice a l.length cap ∧ l.length ≤ maxLen ∧ (0 < l.length → ∃ g, a = some ⟨g, 0, none⟩ ∧ B ≤ g ∧ g < w.heap.size ∧ ∀ j (hj : j < l.length), w.cell? ⟨g, j, none⟩ = some (.string l[j])) := by
  rcases h.2 with ⟨rfl, h0⟩ | ⟨g, cap, cur, rfl, hB, hg, h1, h2, h3, h4⟩
  · exact ⟨none, 0, by rw [h0], by omega, fun h => by omega⟩
  · refine ⟨_, cap, rfl, by omega, fun _ => ⟨g, rfl, hB, (Array.getElem?_eq_some_iff.1 hg).1, fun j hj => ?_⟩⟩
    simp only [World.cell?, hg]
    have h5 := TxtsRow_at l j hj
    rw [← h4, List.getElem?_take, if_pos (by omega)] at h5
    simpa using h5
theorem OwnTxts.at {B : Nat} {w : World} {v : Value} {l : List ByteArray} (h : OwnTxts B w v l) : TxtsAt (fun b => B ≤ b ∧ b < w.heap.size) w v l := by
  obtain ⟨a, cap, hv, hl, hc⟩ := h.value
  refine ⟨hl, a, cap, hv, fun h0 => ?_⟩
  obtain ⟨g, rfl, hB, hg, hcell⟩ := hc h0
  refine ⟨g, 0, rfl, ⟨hB, hg⟩, fun i hi => ?_⟩
  simpa using hcell i hi
theorem OwnTxts.out {B : Nat} {S : Nat → Prop} {w w' : World} {v : Value} {l : List ByteArray} (h : OwnTxts B w v l) (ho : OutS S w w') (hS : ∀ b, S b → b < B) : OwnTxts B w' v l := by
  obtain ⟨hl, h⟩ := h
  refine ⟨hl, ?_⟩
  rcases h with h | ⟨g, cap, cur, hv, hB, hg, h1⟩
  · exact .inl h
  · refine .inr ⟨g, cap, cur, hv, hB, ?_, h1⟩
    rw [ho.block g (Array.getElem?_eq_some_iff.1 hg).1 (fun hs => by have := hS g hs; omega)]; exact hg
theorem OwnTxts.blk {B b : Nat} {w : World} {v : Value} {l : List ByteArray} (h : OwnTxts B w v l) (hb : BlkOf v b) : B ≤ b := by
  rcases h.2 with ⟨rfl, _⟩ | ⟨g, cap, cur, rfl, hB, _⟩
  · obtain ⟨_, _, h⟩ := hb; simp at h
  · rw [hb.eq]; exact hB
def NumsCells (x : Int) : List Value := [.int .i64 x]
def NumsRow (l : List Int) : List Value := l.flatMap NumsCells
theorem NumsRow_length (l : List Int) : (NumsRow l).length = l.length * 1 := by
  induction l with
  | nil => rfl
  | cons a t ih => simp only [NumsRow, List.flatMap_cons, List.length_append, List.length_cons] at ih ⊢; rw [ih]; simp [NumsCells] <;> omega
theorem NumsRow_append (l k : List Int) : NumsRow (l ++ k) = NumsRow l ++ NumsRow k := by simp [NumsRow]
theorem NumsRow_one {l : List Int} {u : Value} (hu : u ∈ NumsRow l) : u.oneCell' = true := by
  obtain ⟨x, _, hx⟩ := List.mem_flatMap.1 hu
  simp only [NumsCells, List.mem_cons, List.mem_nil_iff, or_false] at hx
  subst hx; rfl
theorem NumsRow_at (l : List Int) (k : Nat) (hk : k < l.length) : (NumsRow l)[k]? = some (.int .i64 l[k]) := by
  induction l generalizing k with
  | nil => simp at hk
  | cons a t ih =>
    have hc : NumsRow (a :: t) = NumsCells a ++ NumsRow t := by simp [NumsRow]
    rw [hc]
    cases k with
    | zero => simp [NumsCells]
    | succ k =>
      rw [List.getElem?_append_right (by simp [NumsCells] <;> omega)]
      have e0 : (k + 1) - (NumsCells a).length = k := by simp [NumsCells] <;> omega
      rw [e0]
      simpa using ih k (by simpa using hk)
/-- A row of one's own. -/
def OwnNums (B : Nat) (w : World) (v : Value) (l : List Int) : Prop := w.ownsRow B 3 1 v l.length (NumsRow l)
theorem OwnNums.below {B : Nat} {w w' : World} {v : Value} {l : List Int} (h : OwnNums B w v l) (hb : Below w.heap.size w w') : OwnNums B w' v l := by
  obtain ⟨hl, h⟩ := h
  refine ⟨hl, ?_⟩
  rcases h with h | ⟨g, cap, cur, hv, hB, hg, h1, h2, h3, h4⟩
  · exact .inl h
  · refine .inr ⟨g, cap, cur, hv, hB, ?_, h1, h2, h3, h4⟩
    rw [hb.block g (Array.getElem?_eq_some_iff.1 hg).1]; exact hg
theorem OwnNums.mono {B B' : Nat} {w : World} {v : Value} {l : List Int} (h : OwnNums B w v l) (hB : B' ≤ B) : OwnNums B' w v l := by
  obtain ⟨hl, h⟩ := h
  refine ⟨hl, ?_⟩
  rcases h with h | ⟨g, cap, cur, hv, hg, h1⟩
  · exact .inl h
  · exact .inr ⟨g, cap, cur, hv, Nat.le_trans hB hg, h1⟩
theorem OwnNums.value {B : Nat} {w : World} {v : Value} {l : List Int} (h : OwnNums B w v l) :
    ∃ a cap, v = .slice a l.length cap ∧ l.length ≤ maxLen ∧ (0 < l.length → ∃ g, a = some ⟨g, 0, none⟩ ∧ B ≤ g ∧ g < w.heap.size ∧ ∀ j (hj : j < l.length), w.cell? ⟨g, j, none⟩ = some (.int .i64 l[j])) := by
  rcases h.2 with ⟨rfl, h0⟩ | ⟨g, cap, cur, rfl, hB, hg, h1, h2, h3, h4⟩
  · exact ⟨none, 0, by rw [h0], by omega, fun h => by omega⟩
  · refine ⟨_, cap, rfl, by omega, fun _ => ⟨g, rfl, hB, (Array.getElem?_eq_some_iff.1 hg).1, fun j hj => ?_⟩⟩
    simp only [World.cell?, hg]
    have h5 := NumsRow_at l j hj
    rw [← h4, List.getElem?_take, if_pos (by omega)] at h5
    simpa using h5
theorem OwnNums.at {B : Nat} {w : World} {v : Value} {l : List Int} (h : OwnNums B w v l) : NumsAt (fun b => B ≤ b ∧ b < w.heap.size) w v l := by
  obtain ⟨a, cap, hv, hl, hc⟩ := h.value
  refine ⟨hl, a, cap, hv, fun h0 => ?_⟩
  obtain ⟨g, rfl, hB, hg, hcell⟩ := hc h0
  refine ⟨g, 0, rfl, ⟨hB, hg⟩, fun i hi => ?_⟩
  simpa using hcell i hi
theorem OwnNums.out {B : Nat} {S : Nat → Prop} {w w' : World} {v : Value} {l : List Int} (h : OwnNums B w v l) (ho : OutS S w w') (hS : ∀ b, S b → b < B) : OwnNums B w' v l := by
  obtain ⟨hl, h⟩ := h
  refine ⟨hl, ?_⟩
  rcases h with h | ⟨g, cap, cur, hv, hB, hg, h1⟩
  · exact .inl h
  · refine .inr ⟨g, cap, cur, hv, hB, ?_, h1⟩
    rw [ho.block g (Array.getElem?_eq_some_iff.1 hg).1 (fun hs => by have := hS g hs; omega)]; exact hg
theorem OwnNums.blk {B b : Nat} {w : World} {v : Value} {l : List Int} (h : OwnNums B w v l) (hb : BlkOf v b) : B ≤ b := by
  rcases h.2 with ⟨rfl, _⟩ | ⟨g, cap, cur, rfl, hB, _⟩
  · obtain ⟨_, _, h⟩ := hb; simp at h
  · rw [hb.eq]; exact hB
def CmdsCells (x : Cmd) : List Value := [.int .i64 x.kind, .int .i64 x.try', .string x.step]
def CmdsRow (l : List Cmd) : List Value := l.flatMap CmdsCells
theorem CmdsRow_length (l : List Cmd) : (CmdsRow l).length = l.length * 3 := by
  induction l with
  | nil => rfl
  | cons a t ih => simp only [CmdsRow, List.flatMap_cons, List.length_append, List.length_cons] at ih ⊢; rw [ih]; simp [CmdsCells] <;> omega
theorem CmdsRow_append (l k : List Cmd) : CmdsRow (l ++ k) = CmdsRow l ++ CmdsRow k := by simp [CmdsRow]
theorem CmdsRow_one {l : List Cmd} {u : Value} (hu : u ∈ CmdsRow l) : u.oneCell' = true := by
  obtain ⟨x, _, hx⟩ := List.mem_flatMap.1 hu
  simp only [CmdsCells, List.mem_cons, List.mem_nil_iff, or_false] at hx
  rcases hx with rfl | rfl | rfl <;> rfl
theorem CmdsRow_at (l : List Cmd) (k : Nat) (hk : k < l.length) : (CmdsRow l)[k * 3]? = some (.int .i64 l[k].kind) ∧ (CmdsRow l)[k * 3 + 1]? = some (.int .i64 l[k].try') ∧ (CmdsRow l)[k * 3 + 2]? = some (.string l[k].step) := by
  induction l generalizing k with
  | nil => simp at hk
  | cons a t ih =>
    have hc : CmdsRow (a :: t) = CmdsCells a ++ CmdsRow t := by simp [CmdsRow]
    rw [hc]
    cases k with
    | zero => simp [CmdsCells]
    | succ k =>
      rw [List.getElem?_append_right (by simp [CmdsCells] <;> omega), List.getElem?_append_right (by simp [CmdsCells] <;> omega), List.getElem?_append_right (by simp [CmdsCells] <;> omega)]
      have e0 : (k + 1) * 3 - (CmdsCells a).length = k * 3 := by simp [CmdsCells] <;> omega
      have e1 : (k + 1) * 3 + 1 - (CmdsCells a).length = k * 3 + 1 := by simp [CmdsCells] <;> omega
      have e2 : (k + 1) * 3 + 2 - (CmdsCells a).length = k * 3 + 2 := by simp [CmdsCells] <;> omega
      rw [e0, e1, e2]
      simpa using ih k (by simpa using hk)
/-- A row of one's own. -/
def OwnCmds (B : Nat) (w : World) (v : Value) (l : List Cmd) : Prop := w.ownsRow B 90 3 v l.length (CmdsRow l)
theorem OwnCmds.below {B : Nat} {w w' : World} {v : Value} {l : List Cmd} (h : OwnCmds B w v l) (hb : Below w.heap.size w w') : OwnCmds B w' v l := by
  obtain ⟨hl, h⟩ := h
  refine ⟨hl, ?_⟩
  rcases h with h | ⟨g, cap, cur, hv, hB, hg, h1, h2, h3, h4⟩
  · exact .inl h
  · refine .inr ⟨g, cap, cur, hv, hB, ?_, h1, h2, h3, h4⟩
    rw [hb.block g (Array.getElem?_eq_some_iff.1 hg).1]; exact hg
theorem OwnCmds.mono {B B' : Nat} {w : World} {v : Value} {l : List Cmd} (h : OwnCmds B w v l) (hB : B' ≤ B) : OwnCmds B' w v l := by
  obtain ⟨hl, h⟩ := h
  refine ⟨hl, ?_⟩
  rcases h with h | ⟨g, cap, cur, hv, hg, h1⟩
  · exact .inl h
  · exact .inr ⟨g, cap, cur, hv, Nat.le_trans hB hg, h1⟩
theorem OwnCmds.value {B : Nat} {w : World} {v : Value} {l : List Cmd} (h : OwnCmds B w v l) :
    ∃ a cap, v = .slice a l.length cap ∧ l.length ≤ maxLen ∧ (0 < l.length → ∃ g, a = some ⟨g, 0, none⟩ ∧ B ≤ g ∧ g < w.heap.size ∧ ∀ j (hj : j < l.length), w.cell? ⟨g, j * 3, none⟩ = some (.int .i64 l[j].kind) ∧ w.cell? ⟨g, j * 3 + 1, none⟩ = some (.int .i64 l[j].try') ∧ w.cell? ⟨g, j * 3 + 2, none⟩ = some (.string l[j].step)) := by
  rcases h.2 with ⟨rfl, h0⟩ | ⟨g, cap, cur, rfl, hB, hg, h1, h2, h3, h4⟩
  · exact ⟨none, 0, by rw [h0], by omega, fun h => by omega⟩
  · refine ⟨_, cap, rfl, by omega, fun _ => ⟨g, rfl, hB, (Array.getElem?_eq_some_iff.1 hg).1, fun j hj => ?_⟩⟩
    simp only [World.cell?, hg]
    have h5 := CmdsRow_at l j hj
    rw [← h4, List.getElem?_take, List.getElem?_take, List.getElem?_take, if_pos (by omega), if_pos (by omega), if_pos (by omega)] at h5
    simpa using h5
theorem OwnCmds.at {B : Nat} {w : World} {v : Value} {l : List Cmd} (h : OwnCmds B w v l) : CmdsAt (fun b => B ≤ b ∧ b < w.heap.size) w v l := by
  obtain ⟨a, cap, hv, hl, hc⟩ := h.value
  refine ⟨hl, a, cap, hv, fun h0 => ?_⟩
  obtain ⟨g, rfl, hB, hg, hcell⟩ := hc h0
  refine ⟨g, 0, rfl, ⟨hB, hg⟩, fun i hi => ?_⟩
  simpa using hcell i hi
theorem OwnCmds.out {B : Nat} {S : Nat → Prop} {w w' : World} {v : Value} {l : List Cmd} (h : OwnCmds B w v l) (ho : OutS S w w') (hS : ∀ b, S b → b < B) : OwnCmds B w' v l := by
  obtain ⟨hl, h⟩ := h
  refine ⟨hl, ?_⟩
  rcases h with h | ⟨g, cap, cur, hv, hB, hg, h1⟩
  · exact .inl h
  · refine .inr ⟨g, cap, cur, hv, hB, ?_, h1⟩
    rw [ho.block g (Array.getElem?_eq_some_iff.1 hg).1 (fun hs => by have := hS g hs; omega)]; exact hg
theorem OwnCmds.blk {B b : Nat} {w : World} {v : Value} {l : List Cmd} (h : OwnCmds B w v l) (hb : BlkOf v b) : B ≤ b := by
  rcases h.2 with ⟨rfl, _⟩ | ⟨g, cap, cur, rfl, hB, _⟩
  · obtain ⟨_, _, h⟩ := hb; simp at h
  · rw [hb.eq]; exact hB
/-- The first m are marked from s on. -/
def MarkTxts (cur : Array Value) (m s : Nat) : Prop := ∀ i, i < m → cur[i]? = some (.string (markOf (s + i)))
theorem MarkTxts.step {cur : Array Value} {k s : Nat} (h : MarkTxts cur k s) (hc : k < cur.size) :
    MarkTxts (cur.setIfInBounds (k) (.string (markOf (s + k)))) (k + 1) s := by
  intro i hi
  simp only [Array.getElem?_setIfInBounds, Array.size_setIfInBounds]
  by_cases hik : i = k
  · subst hik
    · rw [if_pos rfl, if_pos (by omega)]
  · have := h i (by omega)
    rw [if_neg (by omega)]
    exact this
/-- The slice v has m of these, in the block g of its own that holds cu, or has none. -/
def MkTxts (hp : Prop) (w : World) (v : Value) (g m : Nat) (cu : Array Value) : Prop := (¬ hp ∧ v = .slice none 0 0 ∧ m = 0) ∨ (hp ∧ ∃ cap, v = .slice (some ⟨g, 0, none⟩) m cap ∧ Blk w g 9 cu ∧ m * 1 ≤ cu.size)
def MkdTxts (w : World) (v : Value) (m s : Nat) : Prop := (v = .slice none 0 0 ∧ m = 0) ∨ ∃ g cap cur, v = .slice (some ⟨g, 0, none⟩) m cap ∧ Blk w g 9 cur ∧ MarkTxts cur m s
theorem MkdTxts.below {w w' : World} {v : Value} {m s : Nat} (h : MkdTxts w v m s) (hb : Below w.heap.size w w') : MkdTxts w' v m s := by
  rcases h with h | ⟨g, cap, cur, h1, h2, h3⟩
  · exact .inl h
  · exact .inr ⟨g, cap, cur, h1, h2.below hb, h3⟩
set_option maxRecDepth 100000 in
set_option maxHeartbeats 2000000 in
theorem markStringS {hp : Prop} {g m : Nat} {v : Value} {cu : Array Value} {w : World} (s : Nat) (hs0 : 0 < s) (hs1 : s ≤ 100000000000000) (hm : m ≤ 1048576) (h : MkTxts hp w v g m cu) :
    Calls Tryz.prog 13 #[v, .int .i64 s] w fun e w' => e = .returned (.int .i64 (s + m : Nat)) ∧ OutS (BlkOf v) w w' ∧ (hp → ∃ cur, Blk w' g 9 cur ∧ cur.size = cu.size ∧ MarkTxts cur m s) := by
  have e1 : ∃ a1 c1, v = .slice a1 m c1 ∧ (0 < m → hp) ∧ (hp → a1 = some ⟨g, 0, none⟩ ∧ Blk w g 9 cu ∧ m * 1 ≤ cu.size) := by
    rcases h with ⟨hn, rfl, rfl⟩ | ⟨hy, cap, rfl, hg, hz⟩
    · exact ⟨none, 0, rfl, fun h => by omega, fun h => absurd h hn⟩
    · exact ⟨_, cap, rfl, fun _ => hy, fun _ => ⟨rfl, hg, hz⟩⟩
  obtain ⟨a1, c1, rfl, q0, q⟩ := e1
  have QP : Hid (0 < m → hp) := q0
  have QQ : Hid _ := q
  clear h
  go_enter Tryz.func13, Tryz.ntmps13
  go_wp2
  go_loopw [1, 5] (fun i1 i5 wr => ∃ k : Nat, i1 = .int .i64 (s + k : Nat) ∧ i5 = .int .i64 (k : Int) ∧ k ≤ m ∧ OutS (BlkOf (.slice a1 m c1)) w wr ∧ (hp → ∃ cur, Blk wr g 9 cur ∧ cur.size = cu.size ∧ MarkTxts cur k s)) (fun _ i5 _ => m - (intOf i5).toNat)
  case atStart => exact ⟨0, rfl, rfl, by omega, OutS.refl _ _, fun hq => ⟨cu, (QQ.out hq).2.1, rfl, fun i hi => by omega⟩⟩
  case round =>
    obtain ⟨k, rfl, rfl, hk, hB, hq⟩ := hrel
    by_cases hkn : k < m
    · have hkn' : (k : Int) < (m : Int) := by omega
      obtain ⟨rfl, _, hz⟩ := QQ.out (QP.out (by omega))
      obtain ⟨cur, hblk, hsz, hmc⟩ := hq (QP.out (by omega))
      have z0 : k < cur.size := by omega
      have HM : Hid _ := hmc.step z0
      have HB0 : Hid (Blk wr g 9 cur) := hblk
      have ct0 := lawText (s + k) (by omega) (by omega)
      rw [show ((s + k : Nat) : Int) = (s : Int) + (k : Int) by omega] at ct0
      obtain ⟨M0, hM0⟩ : ∃ M, markOf (s + k) = M := ⟨_, rfl⟩
      rw [hM0] at ct0 HM
      clear hM0
      clear hmc hblk
      go_wp2_with (go_at_call 32; go_must (refine (ct0 _).mono ?_; rintro e w_0 ⟨rfl, hB_0⟩; have hb_0 := Blk.below HB0.out hB_0; have ho_0 := OutS.trans hB (OutS.of hB_0); have c0_0 := hb_0.cell (k); rw [Array.getElem?_eq_getElem (by first | exact z0 | (simp only [Array.size_setIfInBounds]; exact z0))] at c0_0; have f0_0 := hb_0.fro (k)))
      exact ⟨⟨k + 1, by congr 1 <;> omega, rfl, by omega, (ho_0.set .mk _), fun _ => ⟨_, (hb_0.set (k) _), by simp [hsz], HM.out⟩⟩, by simp [intOf]; omega⟩
    · have hkn' : ¬ ((k : Int) < (m : Int)) := by omega
      obtain rfl : k = m := by omega
      go_wp2_with fail
      go_ret
      exact ⟨by go_num, hB, hq⟩
set_option maxRecDepth 100000 in
set_option maxHeartbeats 2000000 in
theorem heldStringS {v : Value} {m s : Nat} {w : World} (hs0 : 0 < s) (hs1 : s ≤ 100000000000000) (hm : m ≤ 1048576) (h : MkdTxts w v m s) :
    Calls Tryz.prog 14 #[v, .int .i64 s] w fun e w' => e = .returned (.int .i64 (s + m : Nat)) ∧ Below w.heap.size w w' := by
  have e1 : ∃ g0 a1 c1 cu, v = .slice a1 m c1 ∧ (0 < m → a1 = some ⟨g0, 0, none⟩ ∧ Blk w g0 9 cu ∧ MarkTxts cu m s) := by
    rcases h with ⟨rfl, rfl⟩ | ⟨g, cap, cur, rfl, hg, hm⟩
    · exact ⟨0, none, 0, #[], rfl, fun h => by omega⟩
    · exact ⟨g, _, cap, cur, rfl, fun _ => ⟨rfl, hg, hm⟩⟩
  obtain ⟨g, a1, c1, cu, rfl, q⟩ := e1
  clear h
  go_enter Tryz.func14, Tryz.ntmps14
  go_wp2
  go_loopw [1, 5] (fun i1 i5 wr => ∃ k : Nat, i1 = .int .i64 (s + k : Nat) ∧ i5 = .int .i64 (k : Int) ∧ k ≤ m ∧ Below w.heap.size w wr) (fun _ i5 _ => m - (intOf i5).toNat)
  case atStart => exact ⟨0, rfl, rfl, by omega, Below.refl _ _⟩
  case round =>
    obtain ⟨k, rfl, rfl, hk, hB⟩ := hrel
    by_cases hkn : k < m
    · have hkn' : (k : Int) < (m : Int) := by omega
      obtain ⟨rfl, hblk, hmc⟩ := q (by omega)
      have v0 := hmc k hkn
      have y0 : ∀ N : GoodW (fun W => Below w.heap.size w W), N.W.cell? ⟨g, k, none⟩ = some (.string (markOf (s + k))) := fun N => by rw [(hblk.below N.ok).cell, v0]
      have ct0 := lawText (s + k) (by omega) (by omega)
      rw [show ((s + k : Nat) : Int) = (s : Int) + (k : Int) by omega] at ct0
      obtain ⟨M0, hM0⟩ : ∃ M, markOf (s + k) = M := ⟨_, rfl⟩
      rw [hM0] at ct0 y0
      clear hM0
      have Y0 : Hid _ := y0
      have CT0 : Hid _ := ct0
      clear hblk hmc q v0 y0 ct0
      go_wp2_with fail
      have y0 := Y0.out
      have ct0 := CT0.out
      haveI ne0 : Nonempty (GoodW (fun W => Below w.heap.size w W)) := ⟨⟨_, hB⟩⟩
      refine wp_region_calm (fun W => Below w.heap.size w W) (by kernel_rfl) (by kernel_rfl) hB.drew ?_
      repeat (go_big_quiet_step ((go_at_call 32; exact Calls.calm _ (fun w2 hb => good_below (GoodW.ok _) hb) (ct0 _))))
      refine wpQuiet_nil ?_
      rintro W0 ⟨⟨X0, hX0⟩, hE0⟩
      have hW0 : Below w.heap.size w W0 := by rw [hE0]; exact hX0
      clear hE0 hX0 X0 y0 ct0
      go_wp2_with fail
      exact ⟨⟨k + 1, by congr 1 <;> omega, rfl, by omega, hW0⟩, by simp [intOf]; omega⟩
    · have hkn' : ¬ ((k : Int) < (m : Int)) := by omega
      obtain rfl : k = m := by omega
      go_wp2_with fail
      go_ret
      exact ⟨by go_num, hB⟩
end Go.Proofs.YtdheogonghcokaaGreatDoor

namespace Go.Proofs.YtdheogonghcokaaGreatDoor
open Go.ChangeShapes Go.WideShapes Go.ChangeAt Go.RowKit
set_option linter.unusedVariables false
set_option linter.unusedSimpArgs false

def ShTxts (w : World) (g : Nat) (v : Value) (m : Nat) : Prop := v = .slice (some ⟨g, 0, none⟩) m m ∧ ∃ cur, Blk w g 9 cur ∧ cur.size = m * 1
theorem ShTxts.keep {w w' : World} {g : Nat} {v : Value} {m : Nat} (h : ShTxts w g v m) (hk : w'.heap[g]? = w.heap[g]?) : ShTxts w' g v m := by
  obtain ⟨h1, cur, h2, h3⟩ := h
  exact ⟨h1, cur, by unfold Blk at *; rw [hk]; exact h2, h3⟩
theorem RowTxts.sh {w : World} {g : Nat} {v : Value} {l : List ByteArray} (h : RowTxts w g v l) : ShTxts w g v l.length := by
  obtain ⟨_, h1, cur, h2, h3, _⟩ := h
  exact ⟨h1, cur, h2, h3⟩
theorem markShTxts {g m : Nat} {v : Value} {w : World} (s : Nat) (hs0 : 0 < s) (hs1 : s ≤ 100000000000000) (hm : m ≤ 1048576) (h : ShTxts w g v m) :
    Calls Tryz.prog 13 #[v, .int .i64 s] w fun e w' => e = .returned (.int .i64 (s + m : Nat)) ∧ OutS (fun b => b = g) w w' ∧ ∃ cur, Blk w' g 9 cur ∧ cur.size = m * 1 := by
  obtain ⟨rfl, cu, h2, h3⟩ := h
  refine (markStringS (hp := True) s hs0 hs1 hm (.inr ⟨trivial, m, rfl, h2, by omega⟩)).mono ?_
  rintro e w' ⟨he, ho, hq⟩
  obtain ⟨cur, q1, q2, _⟩ := hq trivial
  exact ⟨he, ho.mono (fun b hb => hb.eq), cur, q1, by omega⟩
def ShStepsC (L U : Nat) (w : World) (cur : Array Value) (ms : List Nat) : Prop := ∀ i (h : i < ms.length), ∃ nv g, cur[i * 4 + 1]? = some nv ∧ L < g ∧ g < U ∧ ShTxts w g nv ms[i]
theorem ShStepsC.keep {L U : Nat} {w w' : World} {cur : Array Value} {ms : List Nat} (h : ShStepsC L U w cur ms) (hk : ∀ b, L < b → b < U → w'.heap[b]? = w.heap[b]?) : ShStepsC L U w' cur ms := by
  intro i hi
  obtain ⟨nv, g, h1, h2, h3, h4⟩ := h i hi
  exact ⟨nv, g, h1, h2, h3, h4.keep (hk g h2 h3)⟩
theorem ShStepsC.set {L U : Nat} {w : World} {cur : Array Value} {ms : List Nat} (h : ShStepsC L U w cur ms) (k j : Nat) (hj : j < 4) (hp : j ≠ 1) (v : Value) : ShStepsC L U w (cur.setIfInBounds (k * 4 + j) v) ms := by
  intro i hi
  obtain ⟨nv, g, h1, h2⟩ := h i hi
  refine ⟨nv, g, ?_, h2⟩
  rw [Array.getElem?_setIfInBounds, if_neg (by omega)]
  exact h1
theorem ShStepsC.mark {L U : Nat} {w w' : World} {cur : Array Value} {ms : List Nat} (h : ShStepsC L U w cur ms) {g m : Nat} {v : Value} (hg : ShTxts w g v m) (hU : U ≤ w.heap.size) (ho : OutS (fun b => b = g) w w') (hn : ∃ cur, Blk w' g 9 cur ∧ cur.size = m * 1) : ShStepsC L U w' cur ms := by
  intro i hi
  obtain ⟨nv, g', h1, h2, h3, h4⟩ := h i hi
  refine ⟨nv, g', h1, h2, h3, ?_⟩
  by_cases he : g' = g
  · subst he
    obtain ⟨hv, c1, hb1, hs1⟩ := h4
    obtain ⟨_, c2, hb2, hs2⟩ := hg
    obtain ⟨c3, hb3, hs3⟩ := hn
    refine ⟨hv, c3, hb3, ?_⟩
    unfold Blk at hb1 hb2
    rw [hb1] at hb2
    simp at hb2
    rw [hs3, ← hs2, ← hb2, hs1]
  · exact h4.keep (ho.block g' (by omega) he)
def ShSteps (L U : Nat) (w : World) (v : Value) (ms : List Nat) : Prop := v = .slice (some ⟨L, 0, none⟩) ms.length ms.length ∧ ∃ cur, Blk w L 52 cur ∧ cur.size = ms.length * 4 ∧ ShStepsC L U w cur ms
theorem RowSteps.sh {L U : Nat} {w : World} {v : Value} {l : List Step} (h : RowSteps L U w v l) : ShSteps L U w v (l.map fun x => x.needs.length) := by
  obtain ⟨_, h1, cur, h2, h3, h4⟩ := h
  refine ⟨by simpa using h1, cur, h2, by simpa using h3, fun i hi => ?_⟩
  simp at hi
  obtain ⟨_, _, _, nv, g, q3, q4, q5, q6⟩ := h4 i hi hi
  exact ⟨nv, g, q3, q4, q5, by simpa using q6.sh⟩
set_option maxRecDepth 100000 in
set_option maxHeartbeats 8000000 in
theorem markSagaStepS {L U : Nat} {ms : List Nat} {v : Value} {w : World} (s : Nat) (hs0 : 0 < s) (hs1 : s ≤ 10000000000000) (hn : ms.length ≤ 1048576) (hm : ∀ m ∈ ms, m ≤ 1048576) (hU : L < U) (hUw : U ≤ w.heap.size) (h : ShSteps L U w v ms) :
    Calls Tryz.prog 12 #[v, .int .i64 s] w fun e w' => (∃ r : Nat, e = .returned (.int .i64 (r : Int)) ∧ 0 < r ∧ r ≤ s + ms.length * 1048579) ∧ OutS (fun b => L ≤ b ∧ b < U) w w' := by
  obtain ⟨n, hnl⟩ : ∃ n, ms.length = n := ⟨_, rfl⟩
  obtain ⟨rfl, cu, hcu, hcs, hsc⟩ := h
  have HCU : Hid (Blk w L 52 cu) := hcu
  have HSC : Hid (ShStepsC L U w cu ms) := hsc
  have HM : Hid (∀ m ∈ ms, m ≤ 1048576) := hm
  clear hcu hsc hm
  rw [hnl] at hn hcs ⊢
  go_enter Tryz.func12, Tryz.ntmps12
  go_wp2
  go_loopw [1, 5] (fun i1 i5 wr => ∃ (k r : Nat) (cur : Array Value), i1 = .int .i64 (r : Int) ∧ i5 = .int .i64 (k : Int) ∧ k ≤ n ∧ 0 < r ∧ r ≤ s + k * 1048579 ∧ OutS (fun b => L ≤ b ∧ b < U) w wr ∧ Blk wr L 52 cur ∧ cur.size = n * 4 ∧ ShStepsC L U wr cur ms) (fun _ i5 _ => n - (intOf i5).toNat)
  case atStart => exact ⟨0, s, cu, rfl, rfl, by omega, hs0, by omega, OutS.refl _ _, HCU.out, hcs, HSC.out⟩
  case round =>
    obtain ⟨k, r, cur, rfl, rfl, hk, hr0, hr1, hB, hblk, hsz, hsc⟩ := hrel
    have HB : Hid (Blk wr L 52 cur) := hblk
    have HS : Hid (ShStepsC L U wr cur ms) := hsc
    clear hblk hsc
    by_cases hkn : k < n
    · have hkn' : (k : Int) < (n : Int) := by omega
      have hkl : k < ms.length := by omega
      have z0 : k * 4 < cur.size := by rw [hsz]; omega
      have z1 : k * 4 + 1 < cur.size := by rw [hsz]; omega
      have z2 : k * 4 + 2 < cur.size := by rw [hsz]; omega
      have z3 : k * 4 + 3 < cur.size := by rw [hsz]; omega
      obtain ⟨nv, g, q1, q2, q3, q4⟩ := HS.out k hkl
      have hmk := HM.out _ (List.getElem_mem hkl)
      obtain ⟨m, hmm⟩ : ∃ m, ms[k] = m := ⟨_, rfl⟩
      rw [hmm] at q4 hmk
      have HQ4 : Hid (ShTxts wr g nv m) := q4
      obtain rfl := q4.1
      clear hmm q4
      have hglt : g < wr.heap.size := by have := hB.size; omega
      have hUr : U ≤ wr.heap.size := Nat.le_trans hUw hB.size
      have ct0 := lawText (r) (by omega) (by omega)
      rw [show ((r : Nat) : Int) = (r : Int) by omega] at ct0
      obtain ⟨M0, hM0⟩ : ∃ M, markOf (r) = M := ⟨_, rfl⟩
      rw [hM0] at ct0
      clear hM0
      have cm := fun (W : World) (hW : W.heap[g]? = wr.heap[g]?) => markShTxts (r + 1) (by omega) (by omega) hmk (HQ4.out.keep hW)
      rw [show ((r + 1 : Nat) : Int) = (r : Int) + 1 by omega] at cm
      have hb_0 := HB.out
      have c0_0 := hb_0.cell (k * 4)
      rw [Array.getElem?_eq_getElem (by first | exact z0 | (simp only [Array.size_setIfInBounds]; exact z0))] at c0_0
      have f0_0 := hb_0.fro (k * 4)
      have c0_2 := hb_0.cell (k * 4 + 2)
      rw [Array.getElem?_eq_getElem (by first | exact z2 | (simp only [Array.size_setIfInBounds]; exact z2))] at c0_2
      have f0_2 := hb_0.fro (k * 4 + 2)
      have c0_3 := hb_0.cell (k * 4 + 3)
      rw [Array.getElem?_eq_getElem (by first | exact z3 | (simp only [Array.size_setIfInBounds]; exact z3))] at c0_3
      have f0_3 := hb_0.fro (k * 4 + 3)
      have c0_1 := hb_0.cell (k * 4 + 1)
      have k0 := (show _ = some (Value.slice (some ⟨g, 0, none⟩) m m) from c0_1.trans (by first | exact q1 | (simp only [Array.getElem?_setIfInBounds]; (repeat rw [if_neg (by omega)]); exact q1)))
      go_wp2_with (first
        | (go_at_call 13; go_must (have o1 := (OutS.set (g := L) (i := k * 4) ho_t0 rfl (.string M0)); have b1 := (Blk.set hb_t0 (k * 4) (.string M0)); refine (cm _ (o1.block g hglt (by omega))).mono ?_; rintro e w_sub ⟨rfl, hB_sub, hcur_sub⟩; have hb_sub : Blk w_sub L 52 _ := (by unfold Blk at b1 ⊢; rw [hB_sub.block L (Array.getElem?_eq_some_iff.1 b1).1 (by omega)]; exact b1); have csub_2 := hb_sub.cell (k * 4 + 2); rw [Array.getElem?_eq_getElem (by first | exact z2 | (simp only [Array.size_setIfInBounds]; exact z2))] at csub_2; have fsub_2 := hb_sub.fro (k * 4 + 2); have csub_3 := hb_sub.cell (k * 4 + 3); rw [Array.getElem?_eq_getElem (by first | exact z3 | (simp only [Array.size_setIfInBounds]; exact z3))] at csub_3; have fsub_3 := hb_sub.fro (k * 4 + 3)))
        | (go_at_call 32; go_must (refine (ct0 _).mono ?_; rintro e w_t0 ⟨rfl, hB_t0⟩; have hb_t0 := Blk.below hb_0 hB_t0; have ho_t0 := OutS.trans (OutS.refl (fun b => b = L) wr) (OutS.of hB_t0); have ct0_0 := hb_t0.cell (k * 4); rw [Array.getElem?_eq_getElem (by first | exact z0 | (simp only [Array.size_setIfInBounds]; exact z0))] at ct0_0; have ft0_0 := hb_t0.fro (k * 4); have ct0_2 := hb_t0.cell (k * 4 + 2); rw [Array.getElem?_eq_getElem (by first | exact z2 | (simp only [Array.size_setIfInBounds]; exact z2))] at ct0_2; have ft0_2 := hb_t0.fro (k * 4 + 2); have ct0_3 := hb_t0.cell (k * 4 + 3); rw [Array.getElem?_eq_getElem (by first | exact z3 | (simp only [Array.size_setIfInBounds]; exact z3))] at ct0_3; have ft0_3 := hb_t0.fro (k * 4 + 3); have ct0_1 := hb_t0.cell (k * 4 + 1); have kt0 := (show _ = some (Value.slice (some ⟨g, 0, none⟩) m m) from ct0_1.trans (by first | exact q1 | (simp only [Array.getElem?_setIfInBounds]; (repeat rw [if_neg (by omega)]); exact q1))))))
      have b3 := (Blk.set (Blk.set hb_sub (k * 4 + 2) (.bool (((r : Int) + 1 + (m : Int)) % 3 == 0))) (k * 4 + 3) (.int .i64 ((r : Int) + 1 + (m : Int) + 1)))
      have o3 := (OutS.set (g := L) (i := k * 4 + 3) (OutS.set (g := L) (i := k * 4 + 2) (OutS.refl (fun b => b = L) w_sub) rfl (.bool (((r : Int) + 1 + (m : Int)) % 3 == 0))) rfl (.int .i64 ((r : Int) + 1 + (m : Int) + 1)))
      have hUx := Nat.le_trans hUr o1.size
      have hUy := Nat.le_trans hUx hB_sub.size
      refine ⟨⟨k + 1, r + 1 + m + 2, _, by congr 1 <;> omega, rfl, by omega, by omega, by omega, ((hB.trans (o1.mono (fun b hb => by subst hb; exact ⟨Nat.le_refl _, hU⟩))).trans (hB_sub.mono (fun b hb => by subst hb; omega))).trans (o3.mono (fun b hb => by subst hb; exact ⟨Nat.le_refl _, hU⟩)), b3, by simp [hsz], ?_⟩, by simp [intOf]; omega⟩
      exact ShStepsC.keep (ShStepsC.mark (ShStepsC.keep (ShStepsC.set (ShStepsC.set (ShStepsC.set HS.out k 0 (by omega) (by omega) _) k 2 (by omega) (by omega) _) k 3 (by omega) (by omega) _) (fun b hb1 hb2 => o1.block b (by omega) (by omega))) (HQ4.out.keep (o1.block g hglt (by omega))) hUx hB_sub hcur_sub) (fun b hb1 hb2 => o3.block b (by omega) (by omega))
    · have hkn' : ¬ ((k : Int) < (n : Int)) := by omega
      obtain rfl : k = n := by omega
      go_wp2_with fail
      go_ret
      exact ⟨⟨r, rfl, hr0, hr1⟩, hB⟩
theorem markOwnTxts {B : Nat} {v : Value} {l : List ByteArray} {w : World} (s : Nat) (hs0 : 0 < s) (hs1 : s ≤ 100000000000000) (hl : l.length ≤ 1048576) (h : OwnTxts B w v l) :
    Calls Tryz.prog 13 #[v, .int .i64 s] w fun e w' => e = .returned (.int .i64 (s + l.length : Nat)) ∧ OutS (BlkOf v) w w' ∧ MkdTxts w' v l.length s := by
  rcases h.2 with ⟨rfl, h0⟩ | ⟨g, cap, cur, rfl, hB, hg, h1, h2, h3, h4⟩
  · refine (markStringS (hp := False) (g := 0) (cu := #[]) s hs0 hs1 hl (.inl ⟨id, rfl, h0⟩)).mono ?_
    rintro e w' ⟨he, ho, _⟩
    exact ⟨he, ho, .inl ⟨rfl, h0⟩⟩
  · refine (markStringS (hp := True) s hs0 hs1 hl (.inr ⟨trivial, cap, rfl, hg, by omega⟩)).mono ?_
    rintro e w' ⟨he, ho, hq⟩
    obtain ⟨cu, q1, _, q3⟩ := hq trivial
    exact ⟨he, ho, .inr ⟨g, cap, cu, rfl, q1, q3⟩⟩
/-- The slice has no block, or one of cells of this type. -/
def SlT (w : World) (v : Value) (E : TypeId) : Prop := (∀ b, ¬ BlkOf v b) ∨ ∃ g n c cur, v = .slice (some ⟨g, 0, none⟩) n c ∧ Blk w g E cur
theorem SlT.apart {w : World} {v v' : Value} {E E' : TypeId} (hne : E ≠ E') (h : SlT w v E) (h' : SlT w v' E') {b : Nat} (hb : BlkOf v b) (hb' : BlkOf v' b) : False := by
  rcases h with h | ⟨g, n, c, cur, rfl, hg⟩
  · exact h b hb
  rcases h' with h' | ⟨g', n', c', cur', rfl, hg'⟩
  · exact h' b hb'
  have e1 := hb.eq
  have e2 := hb'.eq
  subst e1
  subst e2
  unfold Blk at hg hg'
  rw [hg] at hg'
  simp at hg'
  exact hne hg'.2
theorem OwnTxts.slt {B : Nat} {w : World} {v : Value} {l : List ByteArray} (h : OwnTxts B w v l) : SlT w v 9 := by
  rcases h.2 with ⟨rfl, _⟩ | ⟨g, cap, cur, rfl, hB, hg, _⟩
  · exact .inl (fun b hb => by obtain ⟨_, _, hb⟩ := hb; simp at hb)
  · exact .inr ⟨g, _, cap, cur, rfl, hg⟩
theorem MkdTxts.slt {w : World} {v : Value} {m s : Nat} (h : MkdTxts w v m s) : SlT w v 9 := by
  rcases h with ⟨rfl, _⟩ | ⟨g, cap, cur, rfl, hg, _⟩
  · exact .inl (fun b hb => by obtain ⟨_, _, hb⟩ := hb; simp at hb)
  · exact .inr ⟨g, _, cap, cur, rfl, hg⟩
theorem OwnTxts.outA {B : Nat} {S : Nat → Prop} {w w' : World} {v : Value} {l : List ByteArray} (h : OwnTxts B w v l) (ho : OutS S w w') (hS : ∀ b, BlkOf v b → ¬ S b) : OwnTxts B w' v l := by
  obtain ⟨hl, h⟩ := h
  refine ⟨hl, ?_⟩
  rcases h with h | ⟨g, cap, cur, hv, hB, hg, h1⟩
  · exact .inl h
  · refine .inr ⟨g, cap, cur, hv, hB, ?_, h1⟩
    rw [ho.block g (Array.getElem?_eq_some_iff.1 hg).1 (hS g (by rw [hv]; exact .mk))]; exact hg
theorem MkdTxts.outA {S : Nat → Prop} {w w' : World} {v : Value} {m s : Nat} (h : MkdTxts w v m s) (ho : OutS S w w') (hS : ∀ b, BlkOf v b → ¬ S b) : MkdTxts w' v m s := by
  rcases h with h | ⟨g, cap, cur, hv, hg, h1⟩
  · exact .inl h
  · refine .inr ⟨g, cap, cur, hv, ?_, h1⟩
    unfold Blk at *
    rw [ho.block g (Array.getElem?_eq_some_iff.1 hg).1 (hS g (by rw [hv]; exact .mk))]; exact hg
theorem markOwnTxts' {B : Nat} {v : Value} {l : List ByteArray} {w : World} (s T : Nat) (hT : T = s + l.length) (hs0 : 0 < s) (hs1 : s ≤ 100000000000000) (hl : l.length ≤ 1048576) (h : OwnTxts B w v l) :
    Calls Tryz.prog 13 #[v, .int .i64 s] w fun e w' => e = .returned (.int .i64 (T : Int)) ∧ OutS (BlkOf v) w w' ∧ MkdTxts w' v l.length s := by
  subst hT
  exact markOwnTxts s hs0 hs1 hl h
theorem heldStringS' {v : Value} {m s : Nat} {w : World} (T : Nat) (hT : T = s + m) (hs0 : 0 < s) (hs1 : s ≤ 100000000000000) (hm : m ≤ 1048576) (h : MkdTxts w v m s) :
    Calls Tryz.prog 14 #[v, .int .i64 s] w fun e w' => e = .returned (.int .i64 (T : Int)) ∧ Below w.heap.size w w' := by
  subst hT
  exact heldStringS hs0 hs1 hm h
end Go.Proofs.YtdheogonghcokaaGreatDoor

namespace Go.Proofs.YtdheogonghcokaaGreatDoor
open Go.ChangeShapes Go.WideShapes Go.ChangeAt Go.RowKit
set_option linter.unusedVariables false
set_option linter.unusedSimpArgs false

/-- From a family of things, one for each place, to a list. -/
theorem list_of {α : Type} (n : Nat) (R : Nat → α → Prop) (h : ∀ i, i < n → ∃ x, R i x) : ∃ l : List α, l.length = n ∧ ∀ i (hi : i < l.length), R i l[i] := by
  induction n with
  | zero => exact ⟨[], rfl, fun i hi => by simp at hi⟩
  | succ n ih =>
    obtain ⟨l, hl, hr⟩ := ih (fun i hi => h i (by omega))
    obtain ⟨x, hx⟩ := h n (by omega)
    refine ⟨l ++ [x], by simp [hl], fun i hi => ?_⟩
    by_cases hin : i < l.length
    · rw [List.getElem_append_left hin]; exact hr i hin
    · have : i = l.length := by simp at hi; omega
      subst this
      simp
      rw [hl]; exact hx
section
variable {H : Type} {enc : TypeId × Value → H} {w : World} {base : Nat} {spare : Nat → Bool} {held : Bool}
end
end Go.Proofs.YtdheogonghcokaaGreatDoor

namespace Go.Proofs.YtdheogonghcokaaGreatDoor
open Go.ChangeShapes Go.WideShapes Go.ChangeAt Go.RowKit
set_option linter.unusedVariables false
set_option linter.unusedSimpArgs false

/-- A copy, in blocks between L and U. -/
def CpSteps (L U : Nat) (w : World) (v : Value) (l : List Step) : Prop := L < U ∧ RowSteps L U w v l
theorem CpSteps.keepU {L U : Nat} {w w' : World} {v : Value} {l : List Step} (h : CpSteps L U w v l) (hk : ∀ b, L ≤ b → b < U → w'.heap[b]? = w.heap[b]?) : CpSteps L U w' v l := ⟨h.1, h.2.keep hk h.1⟩
theorem CpSteps.at {L U : Nat} {w : World} {v : Value} {l : List Step} (h : CpSteps L U w v l) : StepsAt (fun b => L ≤ b ∧ b < U) w v l := h.2.at h.1
theorem cpToSteps {S : Nat → Prop} {l : List Step} {v : Value} {w : World} (hS : ∀ b, S b → b < w.heap.size) (h : StepsAt S w v l) (hl : l.length ≤ 1048576) (hok : ∀ x ∈ l, StepsOK 1048576 x) :
    Calls Tryz.prog 7 #[v] w fun e w' => (∃ v', e = .returned v' ∧ CpSteps w.heap.size w'.heap.size w' v' l) ∧ Below w.heap.size w w' :=
  (toSagaStepS hS h hl (fun x hx => by have := (hok x hx).2.1; omega)).mono fun e w' ⟨⟨v', he, hr, hlt⟩, hb⟩ => ⟨⟨v', he, hlt, hr⟩, hb⟩
theorem cpMarkSteps {L U : Nat} {l : List Step} {v : Value} {w : World} (s : Nat) (hs0 : 0 < s) (hs1 : s ≤ 10000000000000) (hl : l.length ≤ 1048576) (hok : ∀ x ∈ l, StepsOK 1048576 x) (hUw : U ≤ w.heap.size) (h : CpSteps L U w v l) :
    Calls Tryz.prog 12 #[v, .int .i64 s] w fun e w' => (∃ r : Nat, e = .returned (.int .i64 (r : Int)) ∧ 0 < r ∧ r ≤ s + 2300000000000) ∧ OutS (fun b => L ≤ b ∧ b < U) w w' := by
  refine (markSagaStepS s hs0 hs1 (by simpa using hl) (fun m hm => by
    obtain ⟨x, hx, rfl⟩ := List.mem_map.1 hm
    have := (hok x hx).2.1
    omega) h.1 hUw h.2.sh).mono ?_
  rintro e w' ⟨⟨r, he, h1, h2⟩, ho⟩
  simp only [List.length_map] at h2
  exact ⟨⟨r, he, h1, by omega⟩, ho⟩
theorem CpSteps.below {B L U : Nat} {w w' : World} {v : Value} {l : List Step} (h : CpSteps L U w v l) (hb : Below B w w') (hU : U ≤ B) : CpSteps L U w' v l := h.keepU (fun b _ hb2 => hb.block b (Nat.lt_of_lt_of_le hb2 hU))
theorem CpSteps.outS {S : Nat → Prop} {L U : Nat} {w w' : World} {v : Value} {l : List Step} (h : CpSteps L U w v l) (ho : OutS S w w') (hS : ∀ b, S b → b < L ∨ U ≤ b) (hU : U ≤ w.heap.size) : CpSteps L U w' v l := h.keepU (fun b h1 h2 => ho.block b (Nat.lt_of_lt_of_le h2 hU) (fun hs => by have := hS b hs; omega))
/-- The slice has room for what it holds. -/
def FullCap (v : Value) : Prop := ∀ a n c, v = .slice a n c → n ≤ c
def StepsFull (w : World) (v : Value) (l : List Step) : Prop := FullCap v ∧ ∀ b off n c, v = .slice (some ⟨b, off, none⟩) n c → ∀ i, i < l.length → ∀ nv, w.cell? ⟨b, off + i * 4 + 1, none⟩ = some nv → FullCap nv
theorem CpSteps.full {L U : Nat} {w : World} {v : Value} {l : List Step} (h : CpSteps L U w v l) : StepsFull w v l := by
  obtain ⟨_, _, hv, cur, hb, _, hc⟩ := h
  refine ⟨fun a n c e => by rw [hv] at e; simp at e; omega, fun b off n c e i hi nv hn => ?_⟩
  rw [hv] at e
  simp at e
  obtain ⟨⟨rfl, rfl⟩, rfl, rfl⟩ := e
  obtain ⟨_, _, _, nv', g, q3, _, _, q6⟩ := hc i hi hi
  rw [Nat.zero_add, hb.cell, q3] at hn
  simp only [Option.some.injEq] at hn
  subst hn
  intro a n c e
  rw [q6.2.1] at e
  simp at e
  omega
/-- What a SagaOK answers, whatever it is. -/
def SagaOKC (f : Nat) (T : World → Prop) (C0 : (List Step) → Bool) : Prop := ∀ (S : Nat → Prop) (l0 : List Step) (v0 : Value) (w : World), (∀ b, S b → b < w.heap.size) → StepsAt S w v0 l0 → l0.length ≤ 1048576 → (∀ x ∈ l0, StepsOK 1048576 x) → StepsFull w v0 l0 → (∀ W, Below w.heap.size w W → T W) →
  Calls Tryz.prog f #[v0] w fun e w' => (e = .returned (.bool (C0 l0))) ∧ Below w.heap.size w w'
end Go.Proofs.YtdheogonghcokaaGreatDoor
