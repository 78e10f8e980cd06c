/-
  The contracts of impl.codeWords, impl.CodeWord and spec.CodeWord: each CodeWord hands back the word of its code (wordOf), whatever the int; new blocks at most. No statement of the seat is proved here.
-/
import Derived.Test.YtmlhcmcmlngenahTools
import Derived.ProofKit
import Derived.OpenShut
import Derived.ShutString
namespace Go.Proofs.Ytmlhcmcmlngenah
open Go.ChangeShapes Go.WideShapes Go.ChangeAt Go.RowKit

set_option maxHeartbeats 400000 in
theorem codeWords (w : World) :
    Calls Try.prog 12 #[] w fun e w' => e = .returned (.agg wordCells) ∧ w.alloc (.cells wordCells 27) = w' := by
  go_enter Try.func12, Try.ntmps12
  go_wp2_with (first
    | (refine wpList_buildStrsArr rfl 27 9 20 _ rfl wordList (by kernel_rfl) (by kernel_rfl) (by kernel_rfl) (by kernel_rfl) ?_)
    | (refine wpList_store_row rfl 27 _ _ rfl w.heap.size wordCells rfl rfl 27 _ (heap_alloc_last _ _) (by kernel_rfl) (by kernel_rfl) (by kernel_rfl) ?_))
  refine bodyPost_ret (v := .agg wordCells) (results_cell_row rfl _ _ w.heap.size 27 wordCells (0, 0) (.array 20 9) rfl ?_ Try.underlying27 rfl (by kernel_rfl)) rfl ?_
  · rw [World.setRow_alloc_new]; exact heap_alloc_last _ _
  · rw [World.setRow_alloc_new]; exact ⟨rfl, rfl⟩

theorem size_alloc1 (w : World) (o : Obj) : (w.alloc o).heap.size = w.heap.size + 1 := World.size_alloc w o
theorem last2 (w : World) (o p : Obj) : ((w.alloc o).alloc p).heap[w.heap.size + 1]? = some p := by
  have := heap_alloc_last (w.alloc o) p
  rwa [size_alloc1] at this
theorem setRow2 (w : World) (o : Obj) (c c' : Array Value) (t : TypeId) : ((w.alloc o).alloc (.cells c t)).setRow (w.heap.size + 1) c' = (w.alloc o).alloc (.cells c' t) := by
  have := World.setRow_alloc_new (w.alloc o) c c' t
  rwa [size_alloc1] at this
theorem cell2 (w : World) (o : Obj) (i : Nat) (t : TypeId) (h : i < 20) : ((w.alloc o).alloc (.cells wordCells t)).cell? ⟨w.heap.size + 1, i, none⟩ = some (.string (wordAt i)) := by
  simp only [World.cell?, last2, wordCells_get i h]
  rfl
theorem cell1 (w : World) (i : Nat) (t : TypeId) (h : i < 20) : (w.alloc (.cells wordCells t)).cell? ⟨w.heap.size, i, none⟩ = some (.string (wordAt i)) := by
  simp only [World.cell?, heap_alloc_last, wordCells_get i h]
  rfl

set_option maxHeartbeats 400000 in
theorem implCodeWord (c : Int) (w : World) :
    Calls Try.prog 7 #[.int .i64 c] w fun e w' => e = .returned (.string (wordOf c)) ∧ Grown w w' := by
  by_cases h0 : c < 0
  · rw [wordOf_neg h0]
    go_enter Try.func7, Try.ntmps7
    go_wp2_with (first
      | (go_at_call 12; refine (codeWords _).mono ?_; rintro e w' ⟨rfl, rfl⟩)
      | (refine wpList_store_row rfl 27 _ _ rfl (w.heap.size + 1) wordCells rfl rfl 27 _ (last2 _ _ _) (by kernel_rfl) (by kernel_rfl) (by kernel_rfl) ?_; rw [setRow2]))
    go_ret
    exact ⟨rfl, by repeat (first | exact Grown.refl _ | apply Grown.drew | apply Grown.alloc)⟩
  · by_cases h1 : 20 ≤ c
    · rw [wordOf_big h1]
      go_enter Try.func7, Try.ntmps7
      go_wp2_with (first
        | (go_at_call 12; refine (codeWords _).mono ?_; rintro e w' ⟨rfl, rfl⟩)
        | (refine wpList_store_row rfl 27 _ _ rfl (w.heap.size + 1) wordCells rfl rfl 27 _ (last2 _ _ _) (by kernel_rfl) (by kernel_rfl) (by kernel_rfl) ?_; rw [setRow2]))
      go_ret
      exact ⟨rfl, by repeat (first | exact Grown.refl _ | apply Grown.drew | apply Grown.alloc)⟩
    · rw [wordOf_in (by omega)]
      have hc := fun o => cell2 w o c.toNat 27 (by omega)
      go_enter Try.func7, Try.ntmps7
      go_wp2_with (first
        | (go_at_call 12; refine (codeWords _).mono ?_; rintro e w' ⟨rfl, rfl⟩)
        | (refine wpList_store_row rfl 27 _ _ rfl (w.heap.size + 1) wordCells rfl rfl 27 _ (last2 _ _ _) (by kernel_rfl) (by kernel_rfl) (by kernel_rfl) ?_; rw [setRow2]))
      go_ret
      exact ⟨rfl, by repeat (first | exact Grown.refl _ | apply Grown.drew | apply Grown.alloc)⟩

set_option maxHeartbeats 400000 in
theorem specCodeWord (c : Int) (w : World) :
    Calls Try.prog 6 #[.int .i64 c] w fun e w' => e = .returned (.string (wordOf c)) ∧ Grown w w' := by
  by_cases h0 : c < 0
  · rw [wordOf_neg h0]
    go_enter Try.func6, Try.ntmps6
    go_wp2_with (refine wpList_buildStrs rfl 26 9 20 _ rfl wordList (by kernel_rfl) (by kernel_rfl) (by kernel_rfl) (by kernel_rfl) (by decide) (by decide) (by kernel_rfl) ?_)
    go_ret
    exact ⟨rfl, by repeat (first | exact Grown.refl _ | apply Grown.drew | apply Grown.alloc)⟩
  · by_cases h1 : 20 ≤ c
    · rw [wordOf_big h1]
      go_enter Try.func6, Try.ntmps6
      go_wp2_with (refine wpList_buildStrs rfl 26 9 20 _ rfl wordList (by kernel_rfl) (by kernel_rfl) (by kernel_rfl) (by kernel_rfl) (by decide) (by decide) (by kernel_rfl) ?_)
      go_ret
      exact ⟨rfl, by repeat (first | exact Grown.refl _ | apply Grown.drew | apply Grown.alloc)⟩
    · rw [wordOf_in (by omega)]
      have hc := cell1 w c.toNat 9 (by omega)
      unfold wordCells at hc
      go_enter Try.func6, Try.ntmps6
      go_wp2_with (refine wpList_buildStrs rfl 26 9 20 _ rfl wordList (by kernel_rfl) (by kernel_rfl) (by kernel_rfl) (by kernel_rfl) (by decide) (by decide) (by kernel_rfl) ?_)
      go_ret
      exact ⟨rfl, by repeat (first | exact Grown.refl _ | apply Grown.drew | apply Grown.alloc)⟩
end Go.Proofs.Ytmlhcmcmlngenah
