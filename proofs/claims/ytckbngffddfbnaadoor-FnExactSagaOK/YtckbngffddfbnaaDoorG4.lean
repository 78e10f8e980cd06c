/-
  Rows of texts of one's own. No statement of the seat is proved here.
-/
import Derived.Test.YtckbngffddfbnaaDoorG3
namespace Go.Proofs.YtckbngffddfbnaaDoor
open Go.ChangeShapes Go.WideShapes Go.ChangeAt Go.RowKit
set_option linter.unusedVariables false
set_option linter.unusedSimpArgs false

def TxtsCells (x : ByteArray) : List Value := [.string x]
def TxtsRow (l : List ByteArray) : List Value := l.flatMap TxtsCells
theorem TxtsRow_length (l : List ByteArray) : (TxtsRow l).length = l.length * 1 := by
  induction l with
  | nil => rfl
  | cons a t ih => simp only [TxtsRow, List.flatMap_cons, List.length_append, List.length_cons] at ih ⊢; rw [ih]; simp [TxtsCells] <;> omega
theorem TxtsRow_append (l k : List ByteArray) : TxtsRow (l ++ k) = TxtsRow l ++ TxtsRow k := by simp [TxtsRow]
theorem TxtsRow_one {l : List ByteArray} {u : Value} (hu : u ∈ TxtsRow l) : u.oneCell' = true := by
  obtain ⟨x, _, hx⟩ := List.mem_flatMap.1 hu
  simp only [TxtsCells, List.mem_cons, List.mem_nil_iff, or_false] at hx
  subst hx; rfl
theorem TxtsRow_at (l : List ByteArray) (k : Nat) (hk : k < l.length) : (TxtsRow l)[k]? = some (.string l[k]) := by
  induction l generalizing k with
  | nil => simp at hk
  | cons a t ih =>
    have hc : TxtsRow (a :: t) = TxtsCells a ++ TxtsRow t := by simp [TxtsRow]
    rw [hc]
    cases k with
    | zero => simp [TxtsCells]
    | succ k =>
      rw [List.getElem?_append_right (by simp [TxtsCells] <;> omega)]
      have e0 : (k + 1) - (TxtsCells a).length = k := by simp [TxtsCells] <;> omega
      rw [e0]
      simpa using ih k (by simpa using hk)
/-- A row of one's own. -/
def OwnTxts (B : Nat) (w : World) (v : Value) (l : List ByteArray) : Prop := w.ownsRow B 9 1 v l.length (TxtsRow l)
theorem OwnTxts.below {B : Nat} {w w' : World} {v : Value} {l : List ByteArray} (h : OwnTxts B w v l) (hb : Below w.heap.size w w') : OwnTxts B w' v l := by
  obtain ⟨hl, h⟩ := h
  refine ⟨hl, ?_⟩
  rcases h with h | ⟨g, cap, cur, hv, hB, hg, h1, h2, h3, h4⟩
  · exact .inl h
  · refine .inr ⟨g, cap, cur, hv, hB, ?_, h1, h2, h3, h4⟩
    rw [hb.block g (Array.getElem?_eq_some_iff.1 hg).1]; exact hg
theorem OwnTxts.mono {B B' : Nat} {w : World} {v : Value} {l : List ByteArray} (h : OwnTxts B w v l) (hB : B' ≤ B) : OwnTxts B' w v l := by
  obtain ⟨hl, h⟩ := h
  refine ⟨hl, ?_⟩
  rcases h with h | ⟨g, cap, cur, hv, hg, h1⟩
  · exact .inl h
  · exact .inr ⟨g, cap, cur, hv, Nat.le_trans hB hg, h1⟩
theorem OwnTxts.value {B : Nat} {w : World} {v : Value} {l : List ByteArray} (h : OwnTxts B w v l) :
    ∃ a cap, v = .slice a l.length cap ∧ l.length ≤ maxLen ∧ (0 < l.length → ∃ g, a = some ⟨g, 0, none⟩ ∧ B ≤ g ∧ g < w.heap.size ∧ ∀ j (hj : j < l.length), w.cell? ⟨g, j, none⟩ = some (.string l[j])) := by
  rcases h.2 with ⟨rfl, h0⟩ | ⟨g, cap, cur, rfl, hB, hg, h1, h2, h3, h4⟩
  · exact ⟨none, 0, by rw [h0], by omega, fun h => by omega⟩
  · refine ⟨_, cap, rfl, by omega, fun _ => ⟨g, rfl, hB, (Array.getElem?_eq_some_iff.1 hg).1, fun j hj => ?_⟩⟩
    simp only [World.cell?, hg]
    have h5 := TxtsRow_at l j hj
    rw [← h4, List.getElem?_take, if_pos (by omega)] at h5
    simpa using h5
theorem OwnTxts.at {B : Nat} {w : World} {v : Value} {l : List ByteArray} (h : OwnTxts B w v l) : TxtsAt (fun b => B ≤ b ∧ b < w.heap.size) w v l := by
  obtain ⟨a, cap, hv, hl, hc⟩ := h.value
  refine ⟨hl, a, cap, hv, fun h0 => ?_⟩
  obtain ⟨g, rfl, hB, hg, hcell⟩ := hc h0
  refine ⟨g, 0, rfl, ⟨hB, hg⟩, fun i hi => ?_⟩
  simpa using hcell i hi
theorem OwnTxts.out {B : Nat} {S : Nat → Prop} {w w' : World} {v : Value} {l : List ByteArray} (h : OwnTxts B w v l) (ho : OutS S w w') (hS : ∀ b, S b → b < B) : OwnTxts B w' v l := by
  obtain ⟨hl, h⟩ := h
  refine ⟨hl, ?_⟩
  rcases h with h | ⟨g, cap, cur, hv, hB, hg, h1⟩
  · exact .inl h
  · refine .inr ⟨g, cap, cur, hv, hB, ?_, h1⟩
    rw [ho.block g (Array.getElem?_eq_some_iff.1 hg).1 (fun hs => by have := hS g hs; omega)]; exact hg
theorem OwnTxts.blk {B b : Nat} {w : World} {v : Value} {l : List ByteArray} (h : OwnTxts B w v l) (hb : BlkOf v b) : B ≤ b := by
  rcases h.2 with ⟨rfl, _⟩ | ⟨g, cap, cur, rfl, hB, _⟩
  · obtain ⟨_, _, h⟩ := hb; simp at h
  · rw [hb.eq]; exact hB
end Go.Proofs.YtckbngffddfbnaaDoor
