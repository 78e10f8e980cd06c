/-
  A row of texts that came in. No statement of the seat is proved here.
-/
import Derived.Test.YtbpijollcjdkhaaDoorG5
import Derived.Deep.Strs
namespace Go.Proofs.YtbpijollcjdkhaaDoor
open Go.ChangeShapes Go.WideShapes Go.ChangeAt Go.RowKit
set_option linter.unusedVariables false
section
variable {H : Type} {enc : TypeId × Value → H} {w : World} {base : Nat} {spare : Nat → Bool} {held : Bool}
set_option maxRecDepth 100000 in
theorem openTxts {fuel : Nat} {cs : List Value} {x : DataW H × List MemPlace} (h : DataW.trod enc Tryd.prog w base spare held fuel 28 cs = some x) :
    ∃ v l, cs = [v] ∧ TxtsAt (fun b => b < w.heap.size) w v l ∧ ∀ y ∈ l, TxtsFit y := by
  rcases Deep.open_strs Tryd.underlying28 Tryd.underlying9 (by kernel_rfl) h with ⟨rfl, rfl⟩ | ⟨a, len, cap, m, Sx, rfl, hb, hl, hm, hmm, rfl, hx⟩
  · exact ⟨_, [], rfl, ⟨by simp, none, 0, rfl, fun h0 => by simp at h0⟩, fun y hy => by cases hy⟩
  have hlm : len ≤ m := by rw [hmm]; split <;> omega
  refine ⟨_, (List.range len).map Sx, rfl, ⟨by simp; omega, some a, cap, by simp, fun h0 => ?_⟩, fun y hy => ?_⟩
  · have hlen : 0 < len := by simpa using h0
    have h00 := (hx 0 (by omega)).1
    have hsp := World.cell?_spot h00
    obtain ⟨b, off, spot⟩ := a
    have hspot : spot = none := by simpa [Addr.add] using hsp
    subst hspot
    refine ⟨b, off, rfl, ?_, fun i hi => ?_⟩
    · cases hh : w.heap[b]? with
      | none => simp [Addr.add, World.cell?, hh] at h00
      | some o => exact (Array.getElem?_eq_some_iff.1 hh).1
    · have hi' : i < len := by simpa using hi
      have := (hx i (by omega)).1
      simp only [add_plain] at this
      rw [this]; simp
  · obtain ⟨i, hi, rfl⟩ := List.mem_map.1 hy
    exact (hx i (by have := List.mem_range.1 hi; omega)).2
end
end Go.Proofs.YtbpijollcjdkhaaDoor
