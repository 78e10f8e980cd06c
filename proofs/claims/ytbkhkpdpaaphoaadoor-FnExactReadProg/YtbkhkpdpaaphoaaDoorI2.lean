/-
  The words of orders and conditions: impl.orderWords, condWords. No statement of the seat is proved here.
-/
import Derived.Test.YtbkhkpdpaaphoaaDoorI1
import Derived.Deep.Cut
import Derived.Deep.CutRange
import Derived.Deep.CutBlock
import Derived.Laws.ResultCell
namespace Go.Proofs.YtbkhkpdpaaphoaaDoor
open Go.ChangeShapes Go.WideShapes Go.ChangeAt Go.RowKit
set_option linter.unusedVariables false
set_option linter.unusedSimpArgs false

theorem results_cell1 {fn : Func} {p : Tmp} {ty : TypeId} (h : fn.results = #[.cell p ty]) (tmps : Array Value) (P : Program) (w : World) :
    (results fn tmps).run P w = ((asAddr (tmps.getD p undef)).run P w).andThen fun a w₁ => (loadVar ty a).run P w₁ := by
  simp only [results, h]
  simp [Sem.run_bind, Result.andThen]
def ordL : List ByteArray := [⟨#[]⟩, ⟨#[114, 101, 108, 97, 120, 101, 100]⟩, ⟨#[97, 99, 113, 117, 105, 114, 101]⟩, ⟨#[114, 101, 108, 101, 97, 115, 101]⟩, ⟨#[98, 111, 116, 104]⟩, ⟨#[115, 101, 113]⟩]
def cndL : List ByteArray := [⟨#[]⟩, ⟨#[61, 61]⟩, ⟨#[33, 61]⟩, ⟨#[60]⟩, ⟨#[60, 61]⟩]
def ordV : Array Value := #[.string ⟨#[]⟩, .string ⟨#[114, 101, 108, 97, 120, 101, 100]⟩, .string ⟨#[97, 99, 113, 117, 105, 114, 101]⟩, .string ⟨#[114, 101, 108, 101, 97, 115, 101]⟩, .string ⟨#[98, 111, 116, 104]⟩, .string ⟨#[115, 101, 113]⟩]
def cndV : Array Value := #[.string ⟨#[]⟩, .string ⟨#[61, 61]⟩, .string ⟨#[33, 61]⟩, .string ⟨#[60]⟩, .string ⟨#[60, 61]⟩]
set_option maxRecDepth 100000 in
set_option maxHeartbeats 2000000 in
theorem implOrderWords (w : World) : Calls Tryd.prog 67 #[] w fun e w' => e = .returned (.agg ordV) ∧ Below w.heap.size w w' := by
  go_enter Tryd.func67, Tryd.ntmps67
  go_wp2_with fail
  have k : Blk (w.alloc (.cells ordV 108)) w.heap.size 108 ordV := heap_alloc_last w _
  have u0 := k.cell 0
  have u1 := k.cell 1
  have u2 := k.cell 2
  have u3 := k.cell 3
  have u4 := k.cell 4
  have u5 := k.cell 5
  unfold ordV at k u0 u1 u2 u3 u4 u5
  simp at u0 u1 u2 u3 u4 u5
  exact bodyPost_ret (v := .agg ordV) (by unfold ordV; rw [results_cell1 Tryd.results67]; simp [go_sem, u0, u1, u2, u3, u4, u5]) rfl ⟨rfl, (Below.refl _ w).alloc (Nat.le_refl _) _⟩
set_option maxRecDepth 100000 in
set_option maxHeartbeats 2000000 in
theorem implCondWords (w : World) : Calls Tryd.prog 70 #[] w fun e w' => e = .returned (.agg cndV) ∧ Below w.heap.size w w' := by
  go_enter Tryd.func70, Tryd.ntmps70
  go_wp2_with fail
  have k : Blk (w.alloc (.cells cndV 110)) w.heap.size 110 cndV := heap_alloc_last w _
  have u0 := k.cell 0
  have u1 := k.cell 1
  have u2 := k.cell 2
  have u3 := k.cell 3
  have u4 := k.cell 4
  unfold cndV at k u0 u1 u2 u3 u4
  simp at u0 u1 u2 u3 u4
  exact bodyPost_ret (v := .agg cndV) (by unfold cndV; rw [results_cell1 Tryd.results70]; simp [go_sem, u0, u1, u2, u3, u4]) rfl ⟨rfl, (Below.refl _ w).alloc (Nat.le_refl _) _⟩
end Go.Proofs.YtbkhkpdpaaphoaaDoor
