/-
  What a Merge answers. No statement of the seat is proved here.
-/
import Derived.Test.YtnlakebhkfbpfaaGreatDoorG4
namespace Go.Proofs.YtnlakebhkfbpfaaGreatDoor
open Go.ChangeShapes Go.WideShapes Go.ChangeAt Go.RowKit
set_option linter.unusedVariables false
set_option linter.unusedSimpArgs false

/-- What a Merge answers, whatever it is. -/
def MergeC (f : Nat) (T : World → Prop) (C : List Layer → List Setting × Int) : Prop := ∀ (S : Nat → Prop) (l : List Layer) (v : Value) (w : World), (∀ b, S b → b < w.heap.size) → LayersAt S w v l →
  l.length ≤ 1048576 → (∀ x ∈ l, LayersOK 1048576 x) → (∀ W, Below w.heap.size w W → T W) →
  Calls Tryz.prog f #[v] w fun e w' => (∃ p, e = .returned (.tuple #[p, .int .i64 (C l).2]) ∧ OwnSettings w.heap.size w' p (C l).1) ∧ Below w.heap.size w w'
end Go.Proofs.YtnlakebhkfbpfaaGreatDoor
