/-
  The contracts of impl.CodeWord and impl.CodeOf. No statement of the seat is proved here.
-/
import Derived.Test.YtbfoijeboaebdaaDoorTools
import Derived.ProofKit
import Derived.OpenShut
import Derived.ShutString
namespace Go.Proofs.YtbfoijeboaebdaaDoor
open Go.ChangeShapes Go.WideShapes Go.ChangeAt Go.RowKit
set_option linter.unusedVariables false

/-- The number that a text's search through the words comes to: the first word's that is the text; -1 where none is. -/
def IsCode (at_ : Nat → ByteArray) (s : ByteArray) (r : Int) : Prop :=
  (∃ i, i < 20 ∧ at_ i = s ∧ (∀ j, j < i → at_ j ≠ s) ∧ r = (i : Int)) ∨ ((∀ j, j < 20 → at_ j ≠ s) ∧ r = -1)
theorem IsCode.one {at_ : Nat → ByteArray} {s : ByteArray} {r r' : Int} (h : IsCode at_ s r) (h' : IsCode at_ s r') : r = r' := by
  rcases h with ⟨i, hi, e, n, rfl⟩ | ⟨n, rfl⟩ <;> rcases h' with ⟨i', hi', e', n', rfl⟩ | ⟨n', rfl⟩
  · have : i = i' := by
      rcases Nat.lt_trichotomy i i' with h | h | h
      · exact absurd e (n' i h)
      · exact h
      · exact absurd e' (n i' h)
    rw [this]
  · exact absurd e (n' i hi)
  · exact absurd e' (n i' hi')
  · rfl

/-- The twenty words, by their codes. -/
def wordList : List ByteArray :=
  [⟨#[111, 107]⟩, ⟨#[98, 97, 100]⟩, ⟨#[108, 111, 110, 103]⟩, ⟨#[102, 111, 114, 109]⟩, ⟨#[115, 121, 110, 116, 97, 120]⟩, ⟨#[110, 97, 109, 101]⟩, ⟨#[116, 119, 105, 99, 101]⟩, ⟨#[110, 111, 110, 101]⟩, ⟨#[108, 111, 111, 112]⟩, ⟨#[114, 97, 110, 103, 101]⟩, ⟨#[109, 97, 110, 121]⟩, ⟨#[122, 101, 114, 111]⟩, ⟨#[102, 97, 105, 108]⟩, ⟨#[102, 117, 101, 108]⟩, ⟨#[115, 116, 97, 116, 101]⟩, ⟨#[114, 105, 103, 104, 116]⟩, ⟨#[113, 117, 111, 116, 97]⟩, ⟨#[115, 116, 117, 99, 107]⟩, ⟨#[100, 101, 101, 112]⟩, ⟨#[107, 105, 110, 100]⟩]
def wordCells : Array Value := (wordList.map Value.string).toArray
def wordAt (i : Nat) : ByteArray := wordList.getD i ⟨#[]⟩
/-- The word of a code; of any other number the empty text. -/
def wordOf (c : Int) : ByteArray := if c < 0 then ⟨#[]⟩ else wordAt c.toNat

theorem wordList_length : wordList.length = 20 := rfl
theorem wordCells_size : wordCells.size = 20 := rfl
theorem wordCells_get (i : Nat) (h : i < 20) : wordCells[i]? = some (.string (wordAt i)) := by
  unfold wordCells wordAt
  simp only [List.getElem?_toArray, List.getElem?_map]
  rw [List.getElem?_eq_getElem (by rw [wordList_length]; exact h)]
  simp [List.getD_eq_getElem?_getD, List.getElem?_eq_getElem (show i < wordList.length by rw [wordList_length]; exact h)]
theorem wordOf_in {c : Int} (h0 : 0 ≤ c) : wordOf c = wordAt c.toNat := by
  unfold wordOf; rw [if_neg (by omega)]
theorem wordOf_neg {c : Int} (h0 : c < 0) : wordOf c = ⟨#[]⟩ := by
  unfold wordOf; rw [if_pos h0]
theorem wordOf_big {c : Int} (h0 : 20 ≤ c) : wordOf c = ⟨#[]⟩ := by
  unfold wordOf; rw [if_neg (by omega)]
  unfold wordAt
  rw [List.getD_eq_getElem?_getD, List.getElem?_eq_none (by rw [wordList_length]; omega)]
  rfl
set_option maxHeartbeats 400000 in
theorem codeWords (w : World) :
    Calls Tryd.prog 26 #[] w fun e w' => e = .returned (.agg wordCells) ∧ w.alloc (.cells wordCells 50) = w' := by
  go_enter Tryd.func26, Tryd.ntmps26
  go_wp2_with (first
    | (refine wpList_buildStrsArr rfl 50 9 20 _ rfl wordList (by kernel_rfl) (by kernel_rfl) (by kernel_rfl) (by kernel_rfl) ?_)
    | (refine wpList_store_row rfl 50 _ _ rfl w.heap.size wordCells rfl rfl 50 _ (heap_alloc_last _ _) (by kernel_rfl) (by kernel_rfl) (by kernel_rfl) ?_))
  refine bodyPost_ret (v := .agg wordCells) (results_cell_row rfl _ _ w.heap.size 50 wordCells (0, 0) (.array 20 9) rfl ?_ Tryd.underlying50 rfl (by kernel_rfl)) rfl ?_
  · rw [World.setRow_alloc_new]; exact heap_alloc_last _ _
  · rw [World.setRow_alloc_new]; exact ⟨rfl, rfl⟩

theorem size_alloc1 (w : World) (o : Obj) : (w.alloc o).heap.size = w.heap.size + 1 := World.size_alloc w o
theorem last2 (w : World) (o p : Obj) : ((w.alloc o).alloc p).heap[w.heap.size + 1]? = some p := by
  have := heap_alloc_last (w.alloc o) p
  rwa [size_alloc1] at this
theorem setRow2 (w : World) (o : Obj) (c c' : Array Value) (t : TypeId) : ((w.alloc o).alloc (.cells c t)).setRow (w.heap.size + 1) c' = (w.alloc o).alloc (.cells c' t) := by
  have := World.setRow_alloc_new (w.alloc o) c c' t
  rwa [size_alloc1] at this
theorem cell2 (w : World) (o : Obj) (i : Nat) (t : TypeId) (h : i < 20) : ((w.alloc o).alloc (.cells wordCells t)).cell? ⟨w.heap.size + 1, i, none⟩ = some (.string (wordAt i)) := by
  simp only [World.cell?, last2, wordCells_get i h]
  rfl
theorem cell1 (w : World) (i : Nat) (t : TypeId) (h : i < 20) : (w.alloc (.cells wordCells t)).cell? ⟨w.heap.size, i, none⟩ = some (.string (wordAt i)) := by
  simp only [World.cell?, heap_alloc_last, wordCells_get i h]
  rfl

set_option maxHeartbeats 400000 in
theorem implCodeWord (c : Int) (w : World) :
    Calls Tryd.prog 10 #[.int .i64 c] w fun e w' => e = .returned (.string (wordOf c)) ∧ Below w.heap.size w w' := by
  by_cases h0 : c < 0
  · rw [wordOf_neg h0]
    go_enter Tryd.func10, Tryd.ntmps10
    go_wp2_with (first
      | (go_at_call 26; refine (codeWords _).mono ?_; rintro e w' ⟨rfl, rfl⟩)
      | (refine wpList_store_row rfl 50 _ _ rfl (w.heap.size + 1) wordCells rfl rfl 50 _ (last2 _ _ _) (by kernel_rfl) (by kernel_rfl) (by kernel_rfl) ?_; rw [setRow2]))
    go_ret
    exact ⟨rfl, by repeat (first | exact Below.refl _ _ | apply Below.drew | (refine Below.alloc ?_ (by simp) _))⟩
  · by_cases h1 : 20 ≤ c
    · rw [wordOf_big h1]
      go_enter Tryd.func10, Tryd.ntmps10
      go_wp2_with (first
        | (go_at_call 26; refine (codeWords _).mono ?_; rintro e w' ⟨rfl, rfl⟩)
        | (refine wpList_store_row rfl 50 _ _ rfl (w.heap.size + 1) wordCells rfl rfl 50 _ (last2 _ _ _) (by kernel_rfl) (by kernel_rfl) (by kernel_rfl) ?_; rw [setRow2]))
      go_ret
      exact ⟨rfl, by repeat (first | exact Below.refl _ _ | apply Below.drew | (refine Below.alloc ?_ (by simp) _))⟩
    · rw [wordOf_in (by omega)]
      have hc := fun o => cell2 w o c.toNat 50 (by omega)
      go_enter Tryd.func10, Tryd.ntmps10
      go_wp2_with (first
        | (go_at_call 26; refine (codeWords _).mono ?_; rintro e w' ⟨rfl, rfl⟩)
        | (refine wpList_store_row rfl 50 _ _ rfl (w.heap.size + 1) wordCells rfl rfl 50 _ (last2 _ _ _) (by kernel_rfl) (by kernel_rfl) (by kernel_rfl) ?_; rw [setRow2]))
      go_ret
      exact ⟨rfl, by repeat (first | exact Below.refl _ _ | apply Below.drew | (refine Below.alloc ?_ (by simp) _))⟩

theorem bytes_eq {a b : ByteArray} (h : (a.toList == b.toList) = true) : a = b := by
  rw [beq_iff_eq, ByteArray.toList_eq, ByteArray.toList_eq] at h
  exact ByteArray.ext (Array.toList_inj.mp h)
theorem bytes_ne {a b : ByteArray} (h : (a.toList == b.toList) = false) : a ≠ b := by
  rintro rfl
  simp at h

theorem code_hit {s : ByteArray} {k : Nat} (hk : k ≤ 19) (hn : Hid (∀ j, j < k → wordAt j ≠ s)) (h : ((wordAt k).toList == s.toList) = true) : IsCode wordAt s (k : Int) :=
  .inl ⟨k, by omega, bytes_eq h, hn, rfl⟩
theorem code_miss {s : ByteArray} {k : Nat} (hk : 19 < k) (hn : Hid (∀ j, j < k → wordAt j ≠ s)) : IsCode wordAt s (-1) :=
  .inr ⟨fun j hj => hn j (by omega), rfl⟩
theorem code_on {s : ByteArray} {k : Nat} (hn : Hid (∀ j, j < k → wordAt j ≠ s)) (h : ((wordAt k).toList == s.toList) = false) : ∀ j, j < k + 1 → wordAt j ≠ s := by
  intro j hj
  by_cases e : j = k
  · subst e; exact bytes_ne h
  · exact hn j (by omega)

theorem index_words (k : Nat) (hk : k < 20) (w : World) : (Instr.index 50 (.agg wordCells) (.int .i64 (k : Int))).run Tryd.prog w = .ok (.string (wordAt k)) w := by
  obtain rfl | rfl | rfl | rfl | rfl | rfl | rfl | rfl | rfl | rfl | rfl | rfl | rfl | rfl | rfl | rfl | rfl | rfl | rfl | rfl : k = 0 ∨ k = 1 ∨ k = 2 ∨ k = 3 ∨ k = 4 ∨ k = 5 ∨ k = 6 ∨ k = 7 ∨ k = 8 ∨ k = 9 ∨ k = 10 ∨ k = 11 ∨ k = 12 ∨ k = 13 ∨ k = 14 ∨ k = 15 ∨ k = 16 ∨ k = 17 ∨ k = 18 ∨ k = 19 := by omega
  all_goals kernel_rfl

set_option maxHeartbeats 400000 in
theorem implCodeOf (s : ByteArray) (w : World) :
    Calls Tryd.prog 11 #[.string s] w fun e w' => (∃ r, e = .returned (.int .i64 r) ∧ IsCode wordAt s r) ∧ Below w.heap.size w w' := by
  go_enter Tryd.func11, Tryd.ntmps11
  go_wp2_with (go_at_call 26; refine (codeWords _).mono ?_; rintro e w' ⟨rfl, rfl⟩)
  go_loop [6] (fun i => ∃ k : Nat, k ≤ 20 ∧ i = .int .i64 k ∧ (∀ j, j < k → wordAt j ≠ s)) (fun i => 21 - (intOf i).toNat)
  case atStart => exact ⟨0, by omega, rfl, fun j hj => by omega⟩
  case round =>
    obtain ⟨k, hk, rfl, hno⟩ := hrel
    have HN : Hid (∀ j, j < k → wordAt j ≠ s) := hno
    clear hno
    by_cases h20 : k < 20
    · have hidx := fun w => index_words k h20 w
      go_wp2
      · have h2 : ((wordAt k).toList == s.toList) = true := by assumption
        go_ret
        exact ⟨⟨k, rfl, code_hit (by omega) HN h2⟩, (Below.refl _ w).alloc (Nat.le_refl _) _⟩
      · have h2 : ((wordAt k).toList == s.toList) = false := by assumption
        go_round
        case rel => exact ⟨k + 1, by omega, by simp, code_on HN h2⟩
        case measure => simp [intOf]; omega
    · go_wp2
      go_ret
      exact ⟨⟨-1, rfl, code_miss (by omega) HN⟩, (Below.refl _ w).alloc (Nat.le_refl _) _⟩

theorem word_back (i : Nat) (h : i < 20) (r : Int) (hr : IsCode wordAt (wordAt i) r) : r = (i : Int) := by
  refine hr.one (.inl ⟨i, h, rfl, fun j hj => ?_, rfl⟩)
  have key : ∀ i : Fin 20, ∀ j : Fin 20, j.val < i.val → (wordAt j.val).data ≠ (wordAt i.val).data := by decide +kernel
  exact fun e => key ⟨i, h⟩ ⟨j, by omega⟩ hj (congrArg ByteArray.data e)
theorem word_some (i : Nat) (h : i < 20) : ((wordAt i).toList == (⟨#[]⟩ : ByteArray).toList) = false := by
  have key : ∀ i : Fin 20, (wordAt i.val).data.toList ≠ [] := by decide +kernel
  rw [beq_eq_false_iff_ne, ByteArray.toList_eq, ByteArray.toList_eq]
  exact key ⟨i, h⟩
end Go.Proofs.YtbfoijeboaebdaaDoor
