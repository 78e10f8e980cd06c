/-
  A line, as the program reads it: cut at its remark, into words, read. A line, as the program reads it: the reader behind it. No statement of the seat is proved here.
-/
import Derived.Test.YtbkhkpdpaaphoaaDoorI11
import Derived.Test.YtbkhkpdpaaphoaaDoorP1
namespace Go.Proofs.YtbkhkpdpaaphoaaDoor
open Go.ChangeShapes Go.WideShapes Go.ChangeAt Go.RowKit
set_option linter.unusedVariables false
set_option linter.unusedSimpArgs false

set_option maxRecDepth 100000 in
set_option maxHeartbeats 1000000 in
theorem implCutLite (t : ByteArray) (ht : t.size ≤ 100000) (w : World) : Calls Tryd.prog 44 #[.string t, .string ⟨#[35]⟩] w fun e w' => (∃ b r, e = .returned (.tuple #[.string (lineF t), .string r, .bool b])) ∧ Below w.heap.size w w' := by
  have ci := Tryd.stringslite_Index_one t 35 w
  obtain ⟨I, hI⟩ : ∃ I, Lib.indexByte t.data.toList 35 = I := ⟨_, rfl⟩
  rw [hI] at ci
  have hge := Lib.indexByte_ge t.data.toList 35
  rw [hI] at hge
  by_cases h1 : I = -1
  · subst h1
    have hl := line_none hI
    rw [hl]
    clear hI hl hge
    go_enter Tryd.func44, Tryd.ntmps44
    go_wp2_with (go_at_call 50; go_must (refine ci.mono ?_; rintro e w1 ⟨rfl, rfl⟩))
    go_ret3
    exact ⟨⟨_, _, rfl⟩, Below.refl _ _⟩
  · obtain ⟨i, rfl⟩ := Int.eq_ofNat_of_zero_le (show 0 ≤ I by omega)
    obtain ⟨hl, hlt⟩ := line_some hI
    rw [hl]
    have hlt' : (i : Int) < (t.size : Int) := by omega
    have hle' : (i : Int) ≤ (t.size : Int) := by omega
    have hle2 : (i : Int) + 1 ≤ (t.size : Int) := by omega
    have h01 : (0 : Int) ≤ (i : Int) + 1 := by omega
    have ht' : (t.size : Int) ≤ 100000 := by omega
    clear hI hl hge h1
    go_enter Tryd.func44, Tryd.ntmps44
    go_upto_region 3 with (go_at_call 50; go_must (refine ci.mono ?_; rintro e w1 ⟨rfl, rfl⟩))
    go_region
    go_wp2
    go_ret3
    exact ⟨⟨_, _, rfl⟩, (Below.refl _ _).drew⟩
set_option maxHeartbeats 1000000 in
theorem implCut (t : ByteArray) (ht : t.size ≤ 100000) (w : World) : Calls Tryd.prog 28 #[.string t, .string ⟨#[35]⟩] w fun e w' => (∃ b r, e = .returned (.tuple #[.string (lineF t), .string r, .bool b])) ∧ Below w.heap.size w w' := by
  have ci := implCutLite t ht w
  go_enter Tryd.func28, Tryd.ntmps28
  go_wp2_with (go_at_call 44; go_must (refine ci.mono ?_; rintro e w1 ⟨⟨b, r, rfl⟩, hb1⟩))
  go_ret3
  exact ⟨⟨_, _, rfl⟩, hb1⟩
set_option maxHeartbeats 1000000 in
theorem isSpace (x : Nat) (w : World) : Calls Tryd.prog 30 #[.int .i32 (x : Int)] w fun e w' => e = .returned (.bool (isSp x)) ∧ w = w' := by
  go_enter Tryd.func30, Tryd.ntmps30
  go_wp2
  all_goals
    go_ret
    refine ⟨congrArg (fun b => Ending.returned (Value.bool b)) ?_, rfl⟩
    unfold isSp
    rw [Bool.eq_iff_iff]
    simp only [beq_iff_eq]
    omega
theorem TxtsRow_map (l : List ByteArray) : TxtsRow l = l.map Value.string := by
  induction l with
  | nil => rfl
  | cons a t ih => simp only [TxtsRow, List.flatMap_cons, List.map_cons] at ih ⊢; rw [ih]; rfl
set_option maxHeartbeats 1000000 in
theorem implWords (t : ByteArray) (ht : t.size ≤ 100000) (w : World) : Calls Tryd.prog 29 #[.string t, .func (.func 30) #[] #[]] w fun e w' => ∃ A, e = .returned (.slice (some ⟨A, 0, none⟩) (wordsF t).length (wordsF t).length) ∧ OwnTxts w.heap.size w' (.slice (some ⟨A, 0, none⟩) (wordsF t).length (wordsF t).length) (wordsF t) ∧ Below w.heap.size w w' := by
  have c := Tryd.strings_FieldsFunc_grows 30 #[] (enters_of Tryd.func30 (by kernel_rfl) rfl) isSp t w (by omega) (fun W x _ _ => (isSpace x W).mono fun e w' h => ⟨h.1, h.2 ▸ Below.refl _ _⟩)
  rw [fields_words] at c
  refine c.mono ?_
  rintro e w' ⟨A, rfl, -, h, hb⟩
  refine ⟨A, rfl, ?_, hb⟩
  unfold OwnTxts
  rw [TxtsRow_map]
  exact h
end Go.Proofs.YtbkhkpdpaaphoaaDoor

namespace Go.Proofs.YtbkhkpdpaaphoaaDoor
open Go.ChangeShapes Go.WideShapes Go.ChangeAt Go.RowKit
set_option linter.unusedVariables false
set_option linter.unusedSimpArgs false

theorem extract_len (t : ByteArray) (a b : Nat) : (t.extract a b).size ≤ t.size := by
  rw [ByteArray.size_extract]
  omega
theorem cutUp_size (t : ByteArray) (g : Nat) : ∀ k, ∀ y ∈ (cutUp t g k).1, y.size ≤ t.size
  | 0 => fun y hy => by cases hy
  | k + 1 => by
    rw [cutUp_succ]
    split
    · intro y hy
      rcases List.mem_append.1 hy with hy | hy
      · exact cutUp_size t g k y hy
      · rw [List.mem_singleton.1 hy]; exact extract_len _ _ _
    · exact cutUp_size t g k
theorem cutF_size (t : ByteArray) (g : Nat) : ∀ y ∈ cutF t g, y.size ≤ t.size := by
  intro y hy
  unfold cutF at hy
  rcases List.mem_append.1 hy with hy | hy
  · exact cutUp_size t g _ y hy
  · rw [List.mem_singleton.1 hy]; exact extract_len _ _ _
theorem wordsUp_size (t : ByteArray) : ∀ k, ∀ y ∈ (wordsUp t k).1, y.size ≤ t.size
  | 0 => fun y hy => by cases hy
  | k + 1 => by
    rw [wordsUp_succ]
    split
    · dsimp only
      split
      · intro y hy
        rcases List.mem_append.1 hy with hy | hy
        · exact wordsUp_size t k y hy
        · rw [List.mem_singleton.1 hy]; exact extract_len _ _ _
      · exact wordsUp_size t k
    · exact wordsUp_size t k
theorem wordsF_size (t : ByteArray) : ∀ y ∈ wordsF t, y.size ≤ t.size := by
  intro y hy
  unfold wordsF at hy
  split at hy
  · rcases List.mem_append.1 hy with hy | hy
    · exact wordsUp_size t _ y hy
    · rw [List.mem_singleton.1 hy]; exact extract_len _ _ _
  · exact wordsUp_size t _ y hy
theorem lineF_size (t : ByteArray) : (lineF t).size ≤ t.size := by
  unfold lineF
  cases h : cutF t 35 with
  | nil => simp [List.getD]; exact Nat.zero_le _
  | cons a l =>
    have := cutF_size t 35 a (by rw [h]; simp)
    simpa [List.getD] using this

def cellsW : ByteArray := ⟨#[99, 101, 108, 108, 115]⟩
def threadW : ByteArray := ⟨#[116, 104, 114, 101, 97, 100]⟩
/-- A line's words, read. -/
def wordsR (s : Rd) : List ByteArray → Int × Rd
  | [] => (0, s)
  | y :: ws => if y = cellsW then cellsR s ws else if y = threadW then threadR s ws else instrR s (y :: ws)
def readR (s : Rd) (t : ByteArray) : Int × Rd := wordsR s (wordsF (lineF t))
/-- What is said of a reader that goes on. -/
structure RdFit (s : Rd) : Prop where
  ini : s.ini.length ≤ 8
  thr : s.thr.length ≤ 4
  cod : ∀ c ∈ s.thr, c.length ≤ 40
  jmp : s.jmp.length ≤ (s.thr.map List.length).sum
/-- The rest of a row of words, behind the first one. -/
theorem wds_tail {w : World} {A n : Nat} {y : ByteArray} {ws : List ByteArray} (hn : n = ws.length + 1) (h : OwnTxts 0 w (.slice (some ⟨A, 0, none⟩) n n) (y :: ws)) (hw : 0 < ws.length) : WdsAt w (some ⟨A, 1, none⟩) ws := by
  subst hn
  intro _
  rcases h.2 with ⟨e, _⟩ | ⟨g, cap, cur, e, hB, hg, h1, h2, h3, h4⟩
  · cases e
  · injection e with e1 e2 e3
    injection e1 with e1
    injection e1 with e1
    subst e1
    refine ⟨A, 1, cur, rfl, hg, fun i hi => ?_⟩
    have hx := congrArg (fun l => l[1 + i]?) h4
    simp only [List.getElem?_take] at hx
    rw [if_pos (by simp; omega)] at hx
    rw [← Array.getElem?_toList, hx, TxtsRow_map]
    simp [List.getD, Nat.add_comm 1 i, hi]
theorem wds_whole {w : World} {A n : Nat} {ws : List ByteArray} (hn : n = ws.length) (h : OwnTxts 0 w (.slice (some ⟨A, 0, none⟩) n n) ws) : WdsAt w (some ⟨A, 0, none⟩) ws := by
  subst hn
  intro h0
  rcases h.2 with ⟨e, _⟩ | ⟨g, cap, cur, e, hB, hg, h1, h2, h3, h4⟩
  · cases e
  · injection e with e1 e2 e3
    injection e1 with e1
    injection e1 with e1
    subst e1
    refine ⟨A, 0, cur, rfl, hg, fun i hi => ?_⟩
    have hx := congrArg (fun l => l[i]?) h4
    simp only [List.getElem?_take] at hx
    rw [if_pos (by simp; omega)] at hx
    rw [Nat.zero_add, ← Array.getElem?_toList, hx, TxtsRow_map]
    simp [List.getD, hi]
end Go.Proofs.YtbkhkpdpaaphoaaDoor
