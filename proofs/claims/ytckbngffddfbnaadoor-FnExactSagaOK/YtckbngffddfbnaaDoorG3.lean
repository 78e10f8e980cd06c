/-
  What is left as it was. No statement of the seat is proved here.
-/
import Derived.Test.YtckbngffddfbnaaDoorG2
namespace Go.Proofs.YtckbngffddfbnaaDoor
open Go.ChangeShapes Go.WideShapes Go.ChangeAt Go.RowKit
set_option linter.unusedVariables false
set_option linter.unusedSimpArgs false

/-- Of the blocks that were there, only some of S have turned. -/
structure OutS (S : Nat → Prop) (w w' : World) : Prop where
  os : w'.os = w.os
  tape : w'.tape = w.tape
  output : w'.output = w.output
  size : w.heap.size ≤ w'.heap.size
  block : ∀ k, k < w.heap.size → ¬ S k → w'.heap[k]? = w.heap[k]?
theorem OutS.refl (S : Nat → Prop) (w : World) : OutS S w w := ⟨rfl, rfl, rfl, Nat.le_refl _, fun _ _ _ => rfl⟩
theorem OutS.trans {S : Nat → Prop} {a b c : World} (h : OutS S a b) (k : OutS S b c) : OutS S a c :=
  ⟨k.os.trans h.os, k.tape.trans h.tape, k.output.trans h.output, Nat.le_trans h.size k.size, fun i hi hs => (k.block i (Nat.lt_of_lt_of_le hi h.size) hs).trans (h.block i hi hs)⟩
theorem OutS.mono {S S' : Nat → Prop} {a b : World} (h : OutS S a b) (hS : ∀ k, S k → S' k) : OutS S' a b :=
  ⟨h.os, h.tape, h.output, h.size, fun i hi hs => h.block i hi (fun h => hs (hS i h))⟩
theorem OutS.of {S : Nat → Prop} {a b : World} (h : Below a.heap.size a b) : OutS S a b := ⟨h.os, h.tape, h.output, h.size, fun i hi _ => h.block i hi⟩
theorem OutS.set {S : Nat → Prop} {a b : World} (h : OutS S a b) {g i : Nat} (hg : S g) (v : Value) : OutS S a (b.setCell ⟨g, i, none⟩ v) :=
  ⟨h.os, h.tape, h.output, by rw [World.size_setCell]; exact h.size, fun k hk hs => by rw [Below.heap_setCell _ _ _ _ (fun e => hs (by rw [e]; exact hg))]; exact h.block k hk hs⟩
theorem OutS.below {S : Nat → Prop} {a b : World} {B : Nat} (h : OutS S a b) (hS : ∀ k, S k → B ≤ k) (hB : B ≤ a.heap.size) : Below B a b :=
  ⟨h.os, h.tape, h.output, h.size, fun k hk => h.block k (by omega) (fun hs => by have := hS k hs; omega)⟩

/-- The block of a slice. -/
def BlkOf (v : Value) (b : Nat) : Prop := ∃ n c, v = .slice (some ⟨b, 0, none⟩) n c
theorem BlkOf.mk {b n c : Nat} : BlkOf (.slice (some ⟨b, 0, none⟩) n c) b := ⟨n, c, rfl⟩
theorem BlkOf.eq {g b n c : Nat} (h : BlkOf (.slice (some ⟨g, 0, none⟩) n c) b) : b = g := by
  obtain ⟨_, _, h⟩ := h
  injection h with h
  injection h with h
  injection h with h
  exact h.symm

end Go.Proofs.YtckbngffddfbnaaDoor
