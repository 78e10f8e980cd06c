/-
  Layers and texts as plain data. No statement of the seat is proved here.
-/
import Derived.Test.YtnlakebhkfbpfaaGreatDoorRows
import Derived.WalkKit
import Derived.ProofKit
import Derived.OpenShut
import Derived.WalkSpells
import Derived.Below
import Derived.BigQuiet
import Derived.BigRegion
import Derived.Laws.MakeOwn
import Derived.Lib.OthersKept
import Derived.Deep.RegionLaw
import Derived.Deep.WholeRow
import Derived.Deep.QuietTactic
namespace Go.Proofs.YtnlakebhkfbpfaaGreatDoor
open Go.ChangeShapes Go.WideShapes Go.ChangeAt Go.RowKit
set_option linter.unusedVariables false
set_option linter.unusedSimpArgs false

/-- The block g holds just these cells. -/
def Blk (w : World) (g : Nat) (ty : TypeId) (cs : Array Value) : Prop := w.heap[g]? = some (.cells cs ty (0, 0))
theorem Blk.lt {w : World} {g : Nat} {ty : TypeId} {cs : Array Value} (h : Blk w g ty cs) : g < w.heap.size := (Array.getElem?_eq_some_iff.1 h).1
theorem Blk.cell {w : World} {g : Nat} {ty : TypeId} {cs : Array Value} (h : Blk w g ty cs) (i : Nat) : w.cell? ⟨g, i, none⟩ = cs[i]? := by
  simp only [World.cell?]; rw [show w.heap[g]? = _ from h]; rfl
theorem Blk.fro {w : World} {g : Nat} {ty : TypeId} {cs : Array Value} (h : Blk w g ty cs) (i : Nat) : w.frozen? ⟨g, i, none⟩ = false := by
  simp only [World.frozen?]; rw [show w.heap[g]? = _ from h]; simp
theorem Blk.set {w : World} {g : Nat} {ty : TypeId} {cs : Array Value} (h : Blk w g ty cs) (i : Nat) (v : Value) : Blk (w.setCell ⟨g, i, none⟩ v) g ty (cs.setIfInBounds i v) := by
  unfold Blk at *
  simp only [World.setCell, Array.getElem?_modify, if_true, h]
  rfl
theorem Blk.below {w w' : World} {g : Nat} {ty : TypeId} {cs : Array Value} (h : Blk w g ty cs) (hb : Below w.heap.size w w') : Blk w' g ty cs := by
  unfold Blk at *; rw [hb.block g (Blk.lt h)]; exact h
theorem Blk.other {w : World} {g g' : Nat} {ty : TypeId} {cs : Array Value} (h : Blk w g ty cs) (hne : g ≠ g') (i : Nat) (v : Value) : Blk (w.setCell ⟨g', i, none⟩ v) g ty cs := by
  unfold Blk at *
  rw [Below.heap_setCell _ _ _ _ hne]; exact h
theorem good_below {w W W' : World} (h : Below w.heap.size w W) (hb : Below W.heap.size W W') : Below w.heap.size w W' := h.trans (hb.mono h.size)
theorem cells_below {S : Nat → Prop} {w w' : World} (hS : ∀ b, S b → b < w.heap.size) (hb : Below w.heap.size w w') : ∀ b i, S b → w'.cell? ⟨b, i, none⟩ = w.cell? ⟨b, i, none⟩ := fun b i h => hb.cell (hS b h)

theorem bel_drewN {B : Nat} {w0 w : World} (h : Below B w0 w) (n : Nat) : Below B w0 (w.drewN n) := by
  exact ⟨h.os, h.tape, h.output, h.size, h.block⟩
structure Entry where
  path : ByteArray
  text : ByteArray
/-- The slice v reads in w, out of blocks of S, as these. -/
def EntrysAt (S : Nat → Prop) (w : World) (v : Value) (l : List Entry) : Prop := l.length ≤ maxLen ∧ ∃ a cap, v = .slice a l.length cap ∧ (0 < l.length → ∃ b off, a = some ⟨b, off, none⟩ ∧ S b ∧
  ∀ i (h : i < l.length), w.cell? ⟨b, off + i * 2, none⟩ = some (.string l[i].path) ∧ w.cell? ⟨b, off + i * 2 + 1, none⟩ = some (.string l[i].text))
theorem EntrysAt.keep {S : Nat → Prop} {w w' : World} {v : Value} {l : List Entry} (h : EntrysAt S w v l) (hk : ∀ b i, S b → w'.cell? ⟨b, i, none⟩ = w.cell? ⟨b, i, none⟩) : EntrysAt S w' v l := by
  obtain ⟨hl, a, cap, hv, h⟩ := h
  refine ⟨hl, a, cap, hv, fun h0 => ?_⟩
  obtain ⟨b, off, ha, hbB, hc⟩ := h h0
  refine ⟨b, off, ha, hbB, fun i hi => ?_⟩
  obtain ⟨c0, c1⟩ := hc i hi
  exact ⟨(hk _ _ hbB).trans c0, (hk _ _ hbB).trans c1⟩
theorem EntrysAt.mono {S S' : Nat → Prop} {w : World} {v : Value} {l : List Entry} (h : EntrysAt S w v l) (hS : ∀ b, S b → S' b) : EntrysAt S' w v l := by
  obtain ⟨hl, a, cap, hv, h⟩ := h
  refine ⟨hl, a, cap, hv, fun h0 => ?_⟩
  obtain ⟨b, off, ha, hbB, hc⟩ := h h0
  refine ⟨b, off, ha, hS b hbB, fun i hi => ?_⟩
  obtain ⟨c0, c1⟩ := hc i hi
  exact ⟨c0, c1⟩
theorem EntrysAt.shape {S : Nat → Prop} {w : World} {v : Value} {l : List Entry} (h : EntrysAt S w v l) : ∃ a c, v = .slice a l.length c := by
  obtain ⟨_, a, c, hv, _⟩ := h
  exact ⟨a, c, hv⟩
def EntrysOK (left : Int) (x : Entry) : Prop := (x.path.size : Int) ≤ left ∧ (x.text.size : Int) ≤ left
def EntrysFit (x : Entry) : Prop := x.path.size ≤ maxLen ∧ x.text.size ≤ maxLen
theorem EntrysOK.mono {a b : Int} {x : Entry} (h : EntrysOK a x) (hab : a ≤ b) : EntrysOK b x := by
  unfold EntrysOK at *
  obtain ⟨h0, h1⟩ := h
  exact ⟨by omega, by omega⟩
structure Layer where
  name : ByteArray
  rank : Int
  entries : List Entry
/-- The slice v reads in w, out of blocks of S, as these. -/
def LayersAt (S : Nat → Prop) (w : World) (v : Value) (l : List Layer) : Prop := l.length ≤ maxLen ∧ ∃ a cap, v = .slice a l.length cap ∧ (0 < l.length → ∃ b off, a = some ⟨b, off, none⟩ ∧ S b ∧
  ∀ i (h : i < l.length), w.cell? ⟨b, off + i * 3, none⟩ = some (.string l[i].name) ∧ w.cell? ⟨b, off + i * 3 + 1, none⟩ = some (.int .i64 l[i].rank) ∧ ∃ nv, w.cell? ⟨b, off + i * 3 + 2, none⟩ = some nv ∧ EntrysAt S w nv l[i].entries)
theorem LayersAt.keep {S : Nat → Prop} {w w' : World} {v : Value} {l : List Layer} (h : LayersAt S w v l) (hk : ∀ b i, S b → w'.cell? ⟨b, i, none⟩ = w.cell? ⟨b, i, none⟩) : LayersAt S w' v l := by
  obtain ⟨hl, a, cap, hv, h⟩ := h
  refine ⟨hl, a, cap, hv, fun h0 => ?_⟩
  obtain ⟨b, off, ha, hbB, hc⟩ := h h0
  refine ⟨b, off, ha, hbB, fun i hi => ?_⟩
  obtain ⟨c0, c1, nv, d1, d2⟩ := hc i hi
  exact ⟨(hk _ _ hbB).trans c0, (hk _ _ hbB).trans c1, nv, (hk _ _ hbB).trans d1, d2.keep hk⟩
theorem LayersAt.mono {S S' : Nat → Prop} {w : World} {v : Value} {l : List Layer} (h : LayersAt S w v l) (hS : ∀ b, S b → S' b) : LayersAt S' w v l := by
  obtain ⟨hl, a, cap, hv, h⟩ := h
  refine ⟨hl, a, cap, hv, fun h0 => ?_⟩
  obtain ⟨b, off, ha, hbB, hc⟩ := h h0
  refine ⟨b, off, ha, hS b hbB, fun i hi => ?_⟩
  obtain ⟨c0, c1, nv, d1, d2⟩ := hc i hi
  exact ⟨c0, c1, nv, d1, d2.mono hS⟩
theorem LayersAt.shape {S : Nat → Prop} {w : World} {v : Value} {l : List Layer} (h : LayersAt S w v l) : ∃ a c, v = .slice a l.length c := by
  obtain ⟨_, a, c, hv, _⟩ := h
  exact ⟨a, c, hv⟩
def LayersOK (left : Int) (x : Layer) : Prop := (x.name.size : Int) ≤ left ∧ (x.entries.length : Int) ≤ left ∧ ∀ y ∈ x.entries, EntrysOK left y
def LayersFit (x : Layer) : Prop := x.name.size ≤ maxLen ∧ ∀ y ∈ x.entries, EntrysFit y
theorem LayersOK.mono {a b : Int} {x : Layer} (h : LayersOK a x) (hab : a ≤ b) : LayersOK b x := by
  unfold LayersOK at *
  obtain ⟨h0, h1, h2⟩ := h
  exact ⟨by omega, by omega, fun y hy => (h2 y hy).mono hab⟩
/-- The slice v reads in w, out of blocks of S, as these. -/
def TxtsAt (S : Nat → Prop) (w : World) (v : Value) (l : List ByteArray) : Prop := l.length ≤ maxLen ∧ ∃ a cap, v = .slice a l.length cap ∧ (0 < l.length → ∃ b off, a = some ⟨b, off, none⟩ ∧ S b ∧
  ∀ i (h : i < l.length), w.cell? ⟨b, off + i, none⟩ = some (.string l[i]))
theorem TxtsAt.keep {S : Nat → Prop} {w w' : World} {v : Value} {l : List ByteArray} (h : TxtsAt S w v l) (hk : ∀ b i, S b → w'.cell? ⟨b, i, none⟩ = w.cell? ⟨b, i, none⟩) : TxtsAt S w' v l := by
  obtain ⟨hl, a, cap, hv, h⟩ := h
  refine ⟨hl, a, cap, hv, fun h0 => ?_⟩
  obtain ⟨b, off, ha, hbB, hc⟩ := h h0
  refine ⟨b, off, ha, hbB, fun i hi => ?_⟩
  have c0 := hc i hi
  exact (hk _ _ hbB).trans c0
theorem TxtsAt.mono {S S' : Nat → Prop} {w : World} {v : Value} {l : List ByteArray} (h : TxtsAt S w v l) (hS : ∀ b, S b → S' b) : TxtsAt S' w v l := by
  obtain ⟨hl, a, cap, hv, h⟩ := h
  refine ⟨hl, a, cap, hv, fun h0 => ?_⟩
  obtain ⟨b, off, ha, hbB, hc⟩ := h h0
  refine ⟨b, off, ha, hS b hbB, fun i hi => ?_⟩
  have c0 := hc i hi
  exact c0
theorem TxtsAt.shape {S : Nat → Prop} {w : World} {v : Value} {l : List ByteArray} (h : TxtsAt S w v l) : ∃ a c, v = .slice a l.length c := by
  obtain ⟨_, a, c, hv, _⟩ := h
  exact ⟨a, c, hv⟩
def TxtsOK (left : Int) (x : ByteArray) : Prop := (x.size : Int) ≤ left
def TxtsFit (x : ByteArray) : Prop := x.size ≤ maxLen
theorem TxtsOK.mono {a b : Int} {x : ByteArray} (h : TxtsOK a x) (hab : a ≤ b) : TxtsOK b x := by
  unfold TxtsOK at *
  have h0 := h
  exact by omega
end Go.Proofs.YtnlakebhkfbpfaaGreatDoor
