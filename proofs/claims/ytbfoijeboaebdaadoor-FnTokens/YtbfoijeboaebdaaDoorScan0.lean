/-
  A lexeme as plain data; the blocks of memory that the two scanners keep. No statement of the seat is proved here.
-/
import Derived.Test.YtbfoijeboaebdaaDoorTextSpec
import Derived.Test.YtbfoijeboaebdaaDoorTextImpl
import Derived.Test.YtbfoijeboaebdaaDoorWord
import Derived.Deep.RegionLaw
import Derived.Lib.OthersKept
namespace Go.Proofs.YtbfoijeboaebdaaDoor
open Go.ChangeShapes Go.WideShapes Go.ChangeAt Go.RowKit
set_option linter.unusedVariables false

/-- A lexeme. -/
structure Tok where
  kind : Nat
  text : ByteArray
  num : Nat
  spot : Nat
  line : Nat
  col : Nat
def Tok.cells (t : Tok) : List Value := [.int .i64 t.kind, .string t.text, .int .i64 t.num, .int .i64 t.spot, .int .i64 t.line, .int .i64 t.col]
def tokCells (l : List Tok) : List Value := l.flatMap Tok.cells
theorem tokCells_length (l : List Tok) : (tokCells l).length = l.length * 6 := by
  induction l with
  | nil => rfl
  | cons a t ih => simp only [tokCells, List.flatMap_cons, List.length_append, List.length_cons] at ih ⊢; rw [ih]; simp [Tok.cells]; omega
theorem tokCells_append (l m : List Tok) : tokCells (l ++ m) = tokCells l ++ tokCells m := by simp [tokCells]

/-- The slice v owns, among the blocks from B on, just the lexemes l. -/
def OwnT (B : Nat) (w : World) (v : Value) (l : List Tok) : Prop := w.ownsRow B 31 6 v l.length (tokCells l)

/-- The block g holds just these cells. -/
def Blk (w : World) (g : Nat) (ty : TypeId) (cs : Array Value) : Prop := w.heap[g]? = some (.cells cs ty (0, 0))
theorem Blk.lt {w : World} {g : Nat} {ty : TypeId} {cs : Array Value} (h : Blk w g ty cs) : g < w.heap.size := (Array.getElem?_eq_some_iff.1 h).1
theorem Blk.cell {w : World} {g : Nat} {ty : TypeId} {cs : Array Value} (h : Blk w g ty cs) (i : Nat) : w.cell? ⟨g, i, none⟩ = cs[i]? := by
  simp only [World.cell?]; rw [show w.heap[g]? = _ from h]; rfl
theorem Blk.fro {w : World} {g : Nat} {ty : TypeId} {cs : Array Value} (h : Blk w g ty cs) (i : Nat) : w.frozen? ⟨g, i, none⟩ = false := by
  simp only [World.frozen?]; rw [show w.heap[g]? = _ from h]; simp
theorem Blk.set {w : World} {g : Nat} {ty : TypeId} {cs : Array Value} (h : Blk w g ty cs) (i : Nat) (v : Value) : Blk (w.setCell ⟨g, i, none⟩ v) g ty (cs.setIfInBounds i v) := by
  unfold Blk at *
  simp only [World.setCell, Array.getElem?_modify, if_true, h]
  rfl
theorem Blk.below {w w' : World} {g : Nat} {ty : TypeId} {cs : Array Value} (h : Blk w g ty cs) (hb : Below w.heap.size w w') : Blk w' g ty cs := by
  unfold Blk at *; rw [hb.block g (Blk.lt h)]; exact h

theorem OwnT.below {B : Nat} {w w' : World} {v : Value} {l : List Tok} (h : OwnT B w v l) (hb : Below w.heap.size w w') : OwnT B w' v l := by
  obtain ⟨hl, h⟩ := h
  refine ⟨hl, ?_⟩
  rcases h with h | ⟨g, cap, cur, hv, hB, hg, h1, h2, h3, h4⟩
  · exact .inl h
  · refine .inr ⟨g, cap, cur, hv, hB, ?_, h1, h2, h3, h4⟩
    rw [hb.block g (Array.getElem?_eq_some_iff.1 hg).1]; exact hg
theorem OwnT.set {B : Nat} {w : World} {v : Value} {l : List Tok} (h : OwnT B w v l) {g : Nat} {ty : TypeId} {cs : Array Value} (hb : Blk w g ty cs) (hty : ty ≠ 31) (i : Nat) (u : Value) : OwnT B (w.setCell ⟨g, i, none⟩ u) v l := by
  obtain ⟨hl, h⟩ := h
  refine ⟨hl, ?_⟩
  rcases h with h | ⟨k, cap, cur, hv, hB, hg, h1, h2, h3, h4⟩
  · exact .inl h
  · refine .inr ⟨k, cap, cur, hv, hB, ?_, h1, h2, h3, h4⟩
    rw [Below.heap_setCell _ _ _ _ (by
      show k ≠ g
      intro e
      subst e
      rw [show w.heap[k]? = _ from hb] at hg
      injection hg with hg
      injection hg with _ hg
      exact hty hg)]; exact hg

/-- What spec's scanner holds: the text, the place, the line, the column, the lexemes, the code and its place; of what was there at first nothing has turned. -/
structure Sp (B g : Nat) (s : ByteArray) (p ln cl : Nat) (l : List Tok) (code bad : Nat) (v : Value) (w0 w : World) : Prop where
  blk : Blk w g 57 #[.string s, .int .i64 p, .int .i64 ln, .int .i64 cl, v, .int .i64 code, .int .i64 bad]
  own : OwnT B w v l
  ge : B ≤ g
  below : Below B w0 w
/-- What impl's scanner holds. -/
structure Im (B g : Nat) (s : ByteArray) (p ln cl : Nat) (l : List Tok) (v : Value) (w0 w : World) : Prop where
  blk : Blk w g 48 #[.string s, .int .i64 p, .int .i64 ln, .int .i64 cl, v]
  own : OwnT B w v l
  ge : B ≤ g
  below : Below B w0 w
section
variable {B g : Nat} {s : ByteArray} {p ln cl : Nat} {l : List Tok} {code bad : Nat} {v : Value} {w0 w : World}
theorem Sp.bel (h : Sp B g s p ln cl l code bad v w0 w) {w' : World} (hb : Below w.heap.size w w') : Sp B g s p ln cl l code bad v w0 w' :=
  ⟨h.blk.below hb, h.own.below hb, h.ge, h.below.trans (hb.mono (Nat.le_trans h.ge (Nat.le_of_lt h.blk.lt)))⟩
theorem Im.bel (h : Im B g s p ln cl l v w0 w) {w' : World} (hb : Below w.heap.size w w') : Im B g s p ln cl l v w0 w' :=
  ⟨h.blk.below hb, h.own.below hb, h.ge, h.below.trans (hb.mono (Nat.le_trans h.ge (Nat.le_of_lt h.blk.lt)))⟩
theorem Sp.drew (h : Sp B g s p ln cl l code bad v w0 w) : Sp B g s p ln cl l code bad v w0 w.drew := h.bel ((Below.refl _ w).drew)
theorem Im.drew (h : Im B g s p ln cl l v w0 w) : Im B g s p ln cl l v w0 w.drew := h.bel ((Below.refl _ w).drew)
theorem Sp.set1 (h : Sp B g s p ln cl l code bad v w0 w) (q : Nat) : Sp B g s q ln cl l code bad v w0 (w.setCell ⟨g, 1, none⟩ (.int .i64 q)) :=
  ⟨h.blk.set 1 _, h.own.set h.blk (by decide) _ _, h.ge, h.below.setCell h.ge _⟩
theorem Sp.set2 (h : Sp B g s p ln cl l code bad v w0 w) (q : Nat) : Sp B g s p q cl l code bad v w0 (w.setCell ⟨g, 2, none⟩ (.int .i64 q)) :=
  ⟨h.blk.set 2 _, h.own.set h.blk (by decide) _ _, h.ge, h.below.setCell h.ge _⟩
theorem Sp.set3 (h : Sp B g s p ln cl l code bad v w0 w) (q : Nat) : Sp B g s p ln q l code bad v w0 (w.setCell ⟨g, 3, none⟩ (.int .i64 q)) :=
  ⟨h.blk.set 3 _, h.own.set h.blk (by decide) _ _, h.ge, h.below.setCell h.ge _⟩
theorem Sp.set5 (h : Sp B g s p ln cl l code bad v w0 w) (q : Nat) : Sp B g s p ln cl l q bad v w0 (w.setCell ⟨g, 5, none⟩ (.int .i64 q)) :=
  ⟨h.blk.set 5 _, h.own.set h.blk (by decide) _ _, h.ge, h.below.setCell h.ge _⟩
theorem Sp.set6 (h : Sp B g s p ln cl l code bad v w0 w) (q : Nat) : Sp B g s p ln cl l code q v w0 (w.setCell ⟨g, 6, none⟩ (.int .i64 q)) :=
  ⟨h.blk.set 6 _, h.own.set h.blk (by decide) _ _, h.ge, h.below.setCell h.ge _⟩
theorem Im.set1 (h : Im B g s p ln cl l v w0 w) (q : Nat) : Im B g s q ln cl l v w0 (w.setCell ⟨g, 1, none⟩ (.int .i64 q)) :=
  ⟨h.blk.set 1 _, h.own.set h.blk (by decide) _ _, h.ge, h.below.setCell h.ge _⟩
theorem Im.set2 (h : Im B g s p ln cl l v w0 w) (q : Nat) : Im B g s p q cl l v w0 (w.setCell ⟨g, 2, none⟩ (.int .i64 q)) :=
  ⟨h.blk.set 2 _, h.own.set h.blk (by decide) _ _, h.ge, h.below.setCell h.ge _⟩
theorem Im.set3 (h : Im B g s p ln cl l v w0 w) (q : Nat) : Im B g s p ln q l v w0 (w.setCell ⟨g, 3, none⟩ (.int .i64 q)) :=
  ⟨h.blk.set 3 _, h.own.set h.blk (by decide) _ _, h.ge, h.below.setCell h.ge _⟩
end
end Go.Proofs.YtbfoijeboaebdaaDoor
