/-
  Rows of texts and of numbers as plain data. No statement of the seat is proved here.
-/
import Derived.Test.YtbkhkpdpaaphoaaDoorRows
import Derived.WalkKit
import Derived.ProofKit
import Derived.OpenShut
import Derived.WalkSpells
import Derived.Below
import Derived.BigQuiet
import Derived.BigRegion
import Derived.Laws.MakeOwn
import Derived.Lib.OthersKept
import Derived.Deep.RegionLaw
import Derived.Deep.WholeRow
import Derived.Deep.QuietTactic
namespace Go.Proofs.YtbkhkpdpaaphoaaDoor
open Go.ChangeShapes Go.WideShapes Go.ChangeAt Go.RowKit
set_option linter.unusedVariables false
set_option linter.unusedSimpArgs false

/-- The block g holds just these cells. -/
def Blk (w : World) (g : Nat) (ty : TypeId) (cs : Array Value) : Prop := w.heap[g]? = some (.cells cs ty (0, 0))
theorem Blk.lt {w : World} {g : Nat} {ty : TypeId} {cs : Array Value} (h : Blk w g ty cs) : g < w.heap.size := (Array.getElem?_eq_some_iff.1 h).1
theorem Blk.cell {w : World} {g : Nat} {ty : TypeId} {cs : Array Value} (h : Blk w g ty cs) (i : Nat) : w.cell? ⟨g, i, none⟩ = cs[i]? := by
  simp only [World.cell?]; rw [show w.heap[g]? = _ from h]; rfl
theorem Blk.fro {w : World} {g : Nat} {ty : TypeId} {cs : Array Value} (h : Blk w g ty cs) (i : Nat) : w.frozen? ⟨g, i, none⟩ = false := by
  simp only [World.frozen?]; rw [show w.heap[g]? = _ from h]; simp
theorem Blk.set {w : World} {g : Nat} {ty : TypeId} {cs : Array Value} (h : Blk w g ty cs) (i : Nat) (v : Value) : Blk (w.setCell ⟨g, i, none⟩ v) g ty (cs.setIfInBounds i v) := by
  unfold Blk at *
  simp only [World.setCell, Array.getElem?_modify, if_true, h]
  rfl
theorem Blk.below {w w' : World} {g : Nat} {ty : TypeId} {cs : Array Value} (h : Blk w g ty cs) (hb : Below w.heap.size w w') : Blk w' g ty cs := by
  unfold Blk at *; rw [hb.block g (Blk.lt h)]; exact h
theorem Blk.other {w : World} {g g' : Nat} {ty : TypeId} {cs : Array Value} (h : Blk w g ty cs) (hne : g ≠ g') (i : Nat) (v : Value) : Blk (w.setCell ⟨g', i, none⟩ v) g ty cs := by
  unfold Blk at *
  rw [Below.heap_setCell _ _ _ _ hne]; exact h
theorem good_below {w W W' : World} (h : Below w.heap.size w W) (hb : Below W.heap.size W W') : Below w.heap.size w W' := h.trans (hb.mono h.size)
theorem cells_below {S : Nat → Prop} {w w' : World} (hS : ∀ b, S b → b < w.heap.size) (hb : Below w.heap.size w w') : ∀ b i, S b → w'.cell? ⟨b, i, none⟩ = w.cell? ⟨b, i, none⟩ := fun b i h => hb.cell (hS b h)

theorem bel_drewN {B : Nat} {w0 w : World} (h : Below B w0 w) (n : Nat) : Below B w0 (w.drewN n) := by
  exact ⟨h.os, h.tape, h.output, h.size, h.block⟩
/-- The slice v reads in w, out of blocks of S, as these. -/
def TxtsAt (S : Nat → Prop) (w : World) (v : Value) (l : List ByteArray) : Prop := l.length ≤ maxLen ∧ ∃ a cap, v = .slice a l.length cap ∧ (0 < l.length → ∃ b off, a = some ⟨b, off, none⟩ ∧ S b ∧
  ∀ i (h : i < l.length), w.cell? ⟨b, off + i, none⟩ = some (.string l[i]))
theorem TxtsAt.keep {S : Nat → Prop} {w w' : World} {v : Value} {l : List ByteArray} (h : TxtsAt S w v l) (hk : ∀ b i, S b → w'.cell? ⟨b, i, none⟩ = w.cell? ⟨b, i, none⟩) : TxtsAt S w' v l := by
  obtain ⟨hl, a, cap, hv, h⟩ := h
  refine ⟨hl, a, cap, hv, fun h0 => ?_⟩
  obtain ⟨b, off, ha, hbB, hc⟩ := h h0
  refine ⟨b, off, ha, hbB, fun i hi => ?_⟩
  have c0 := hc i hi
  exact (hk _ _ hbB).trans c0
theorem TxtsAt.mono {S S' : Nat → Prop} {w : World} {v : Value} {l : List ByteArray} (h : TxtsAt S w v l) (hS : ∀ b, S b → S' b) : TxtsAt S' w v l := by
  obtain ⟨hl, a, cap, hv, h⟩ := h
  refine ⟨hl, a, cap, hv, fun h0 => ?_⟩
  obtain ⟨b, off, ha, hbB, hc⟩ := h h0
  refine ⟨b, off, ha, hS b hbB, fun i hi => ?_⟩
  have c0 := hc i hi
  exact c0
theorem TxtsAt.shape {S : Nat → Prop} {w : World} {v : Value} {l : List ByteArray} (h : TxtsAt S w v l) : ∃ a c, v = .slice a l.length c := by
  obtain ⟨_, a, c, hv, _⟩ := h
  exact ⟨a, c, hv⟩
/-- The slice v reads in w, out of blocks of S, as these. -/
def NumsAt (S : Nat → Prop) (w : World) (v : Value) (l : List Int) : Prop := l.length ≤ maxLen ∧ ∃ a cap, v = .slice a l.length cap ∧ (0 < l.length → ∃ b off, a = some ⟨b, off, none⟩ ∧ S b ∧
  ∀ i (h : i < l.length), w.cell? ⟨b, off + i, none⟩ = some (.int .i64 l[i]))
theorem NumsAt.keep {S : Nat → Prop} {w w' : World} {v : Value} {l : List Int} (h : NumsAt S w v l) (hk : ∀ b i, S b → w'.cell? ⟨b, i, none⟩ = w.cell? ⟨b, i, none⟩) : NumsAt S w' v l := by
  obtain ⟨hl, a, cap, hv, h⟩ := h
  refine ⟨hl, a, cap, hv, fun h0 => ?_⟩
  obtain ⟨b, off, ha, hbB, hc⟩ := h h0
  refine ⟨b, off, ha, hbB, fun i hi => ?_⟩
  have c0 := hc i hi
  exact (hk _ _ hbB).trans c0
theorem NumsAt.mono {S S' : Nat → Prop} {w : World} {v : Value} {l : List Int} (h : NumsAt S w v l) (hS : ∀ b, S b → S' b) : NumsAt S' w v l := by
  obtain ⟨hl, a, cap, hv, h⟩ := h
  refine ⟨hl, a, cap, hv, fun h0 => ?_⟩
  obtain ⟨b, off, ha, hbB, hc⟩ := h h0
  refine ⟨b, off, ha, hS b hbB, fun i hi => ?_⟩
  have c0 := hc i hi
  exact c0
theorem NumsAt.shape {S : Nat → Prop} {w : World} {v : Value} {l : List Int} (h : NumsAt S w v l) : ∃ a c, v = .slice a l.length c := by
  obtain ⟨_, a, c, hv, _⟩ := h
  exact ⟨a, c, hv⟩
end Go.Proofs.YtbkhkpdpaaphoaaDoor
