/-
  spec.l00Cut, l08Path: their walks. No statement of the seat is proved here.
-/
import Derived.Test.YthopmdfichfhdaaGreatDoorZ0
import Derived.Deep.Cut
namespace Go.Proofs.YthopmdfichfhdaaGreatDoor
open Go.ChangeShapes Go.WideShapes Go.ChangeAt Go.RowKit
set_option linter.unusedVariables false

def byteAt (t : ByteArray) (k : Nat) : Nat := if h : k < t.size then t[k].toNat else 0
/-- A text's parts at each byte g, up to a place: those that are whole, and where the next one begins. -/
def cutUp (t : ByteArray) (g : Nat) : Nat → List ByteArray × Nat
  | 0 => ([], 0)
  | k + 1 => if byteAt t k = g then ((cutUp t g k).1 ++ [t.extract (cutUp t g k).2 k], k + 1) else cutUp t g k
def cutF (t : ByteArray) (g : Nat) : List ByteArray := (cutUp t g t.size).1 ++ [t.extract (cutUp t g t.size).2 t.size]
theorem cutUp_le (t : ByteArray) (g : Nat) : ∀ k, (cutUp t g k).2 ≤ k ∧ (cutUp t g k).1.length ≤ k
  | 0 => ⟨Nat.le_refl _, Nat.le_refl _⟩
  | k + 1 => by
    have := cutUp_le t g k
    unfold cutUp
    split
    · exact ⟨Nat.le_refl _, by simp; omega⟩
    · exact ⟨by omega, by omega⟩
theorem cutF_len (t : ByteArray) (g : Nat) : (cutF t g).length ≤ t.size + 1 := by
  have := (cutUp_le t g t.size).2
  unfold cutF
  simp
  omega

end Go.Proofs.YthopmdfichfhdaaGreatDoor
