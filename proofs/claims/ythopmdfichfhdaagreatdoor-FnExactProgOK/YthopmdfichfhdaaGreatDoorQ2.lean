/-
  Programs of cells: words and numbers of an instruction, as the document reads them; the contracts of its small functions. Programs of cells: what is read of a word, as the document does. No statement of the seat is proved here.
-/
import Derived.Test.YthopmdfichfhdaaGreatDoorH1
namespace Go.Proofs.YthopmdfichfhdaaGreatDoor
open Go.ChangeShapes Go.WideShapes Go.ChangeAt Go.RowKit
set_option linter.unusedVariables false
set_option linter.unusedSimpArgs false

def rangeB (n : Int) : Bool := decide (-999999999999999999 ≤ n) && decide (n ≤ 999999999999999999)
def valB (r n : Int) : Bool := decide (r = 0) || (decide (1 ≤ r) && decide (r ≤ 6) && decide (n = 0))
def ordB (op o : Int) : Bool := decide (1 ≤ o) && decide (o ≤ 5) && (if op = 1 ∨ op = 6 then decide (o ≠ 3) && decide (o ≠ 4) else if op = 2 then decide (o ≠ 2) && decide (o ≠ 4) else true)
def inB (f : ByteArray) (c : Nat) : Bool := (List.range f.size).any fun i => decide (byt f i = c)
def formW (op : Int) : ByteArray := if op = 1 then ⟨#[108, 111, 97, 100]⟩ else if op = 2 then ⟨#[115, 116, 111, 114, 101]⟩ else if op = 3 then ⟨#[115, 119, 97, 112]⟩ else if op = 4 then ⟨#[97, 100, 100]⟩ else if op = 5 then ⟨#[99, 97, 115]⟩ else if op = 6 then ⟨#[97, 119, 97, 105, 116]⟩ else if op = 7 then ⟨#[102, 101, 110, 99, 101]⟩ else if op = 8 then ⟨#[115, 101, 116]⟩ else if op = 9 then ⟨#[115, 117, 109]⟩ else if op = 10 then ⟨#[106, 117, 109, 112]⟩ else if op = 11 then ⟨#[99, 97, 108, 108]⟩ else if op = 12 then ⟨#[114, 101, 116]⟩ else if op = 13 then ⟨#[97, 115, 115, 101, 114, 116]⟩ else ⟨#[]⟩
def formF (op : Int) : ByteArray := if op = 1 then ⟨#[82, 67, 79]⟩ else if op = 2 then ⟨#[67, 86, 79]⟩ else if op = 3 then ⟨#[82, 67, 86, 79]⟩ else if op = 4 then ⟨#[82, 67, 86, 79]⟩ else if op = 5 then ⟨#[82, 67, 86, 87, 79]⟩ else if op = 6 then ⟨#[82, 67, 81, 86, 79]⟩ else if op = 7 then ⟨#[]⟩ else if op = 8 then ⟨#[82, 86]⟩ else if op = 9 then ⟨#[82, 86]⟩ else if op = 10 then ⟨#[86, 81, 87, 78]⟩ else if op = 11 then ⟨#[77, 86]⟩ else if op = 12 then ⟨#[86]⟩ else if op = 13 then ⟨#[86, 81, 87]⟩ else ⟨#[]⟩
def smallB (t : ByteArray) (c : Nat) : Bool := decide (2 ≤ t.size) && decide (t.size ≤ 3) && decide (byt t 0 = c) && numB (t.extract 1 t.size) && decide (0 ≤ numV (t.extract 1 t.size))
def smallV (t : ByteArray) (c : Nat) : Int := if smallB t c then numV (t.extract 1 t.size) else -1
def isRegB (t : ByteArray) : Bool := decide (1 ≤ smallV t 114) && decide (smallV t 114 ≤ 6)
def rvR (t : ByteArray) : Int := if isRegB t then smallV t 114 else 0
def rvN (t : ByteArray) : Int := if isRegB t then 0 else numV t
def rvB (t : ByteArray) : Bool := if isRegB t then true else numB t
def idxO (l : List ByteArray) (t : ByteArray) : Option Nat := l.findIdx? fun c => c.toList == t.toList
def idxV (l : List ByteArray) (t : ByteArray) : Int := match idxO l t with
  | some k => (k : Int)
  | none => -1

set_option maxRecDepth 100000 in
set_option maxHeartbeats 1000000 in
theorem specRange (n : Int) (w : World) :
    Calls Tryz.prog 14 #[.int .i64 n] w fun e w' => e = .returned (.bool (rangeB n)) ∧ w' = w := by
  have hd : rangeB n = (decide (-999999999999999999 ≤ n) && decide (n ≤ 999999999999999999)) := rfl
  by_cases h1 : -999999999999999999 ≤ n
  · by_cases h2 : n ≤ 999999999999999999
    · rw [decide_eq_true h1, decide_eq_true h2] at hd
      rw [hd]
      go_enter Tryz.func14, Tryz.ntmps14
      go_wp2_with fail
      go_ret
      exact ⟨rfl, rfl⟩
    · rw [decide_eq_true h1, decide_eq_false h2] at hd
      rw [hd]
      go_enter Tryz.func14, Tryz.ntmps14
      go_wp2_with fail
      go_ret
      exact ⟨rfl, rfl⟩
  · rw [decide_eq_false h1] at hd
    rw [hd]
    go_enter Tryz.func14, Tryz.ntmps14
    go_wp2_with fail
    go_ret
    exact ⟨rfl, rfl⟩

set_option maxRecDepth 100000 in
set_option maxHeartbeats 1000000 in
theorem specVal (r n : Int) (w : World) :
    Calls Tryz.prog 25 #[.agg #[.int .i64 r, .int .i64 n]] w fun e w' => e = .returned (.bool (valB r n)) ∧ Below w.heap.size w w' := by
  have hd : valB r n = (decide (r = 0) || (decide (1 ≤ r) && decide (r ≤ 6) && decide (n = 0))) := rfl
  have hB := (Below.refl w.heap.size w).alloc (Nat.le_refl _) (.cells #[.int .i64 r, .int .i64 n] 41)
  by_cases h0 : r = 0
  · rw [decide_eq_true h0] at hd
    rw [hd]
    subst h0
    go_enter Tryz.func25, Tryz.ntmps25
    go_wp2_with fail
    go_ret
    exact ⟨rfl, hB⟩
  have q0 : (r == 0) = false := by rw [beq_eq_false_iff_ne]; exact h0
  by_cases h1 : 1 ≤ r
  · by_cases h2 : r ≤ 6
    · by_cases h3 : n = 0
      · rw [decide_eq_false h0, decide_eq_true h1, decide_eq_true h2, decide_eq_true h3] at hd
        rw [hd]
        subst h3
        go_enter Tryz.func25, Tryz.ntmps25
        go_wp2_with fail
        go_ret
        exact ⟨rfl, hB⟩
      · have q3 : (n == 0) = false := by rw [beq_eq_false_iff_ne]; exact h3
        rw [decide_eq_false h0, decide_eq_true h1, decide_eq_true h2, decide_eq_false h3] at hd
        rw [hd]
        go_enter Tryz.func25, Tryz.ntmps25
        go_wp2_with fail
        go_ret
        exact ⟨rfl, hB⟩
    · rw [decide_eq_false h0, decide_eq_true h1, decide_eq_false h2] at hd
      rw [hd]
      go_enter Tryz.func25, Tryz.ntmps25
      go_wp2_with fail
      go_ret
      exact ⟨rfl, hB⟩
  · rw [decide_eq_false h0, decide_eq_false h1] at hd
    rw [hd]
    go_enter Tryz.func25, Tryz.ntmps25
    go_wp2_with fail
    go_ret
    exact ⟨rfl, hB⟩

theorem five {o : Int} (h1 : 1 ≤ o) (h2 : o ≤ 5) : o = 1 ∨ o = 2 ∨ o = 3 ∨ o = 4 ∨ o = 5 := by omega
set_option maxRecDepth 100000 in
set_option maxHeartbeats 2000000 in
theorem specOrder (op o : Int) (w : World) :
    Calls Tryz.prog 27 #[.int .i64 op, .int .i64 o] w fun e w' => e = .returned (.bool (ordB op o)) ∧ w' = w := by
  have hd : ordB op o = (decide (1 ≤ o) && decide (o ≤ 5) && (if op = 1 ∨ op = 6 then decide (o ≠ 3) && decide (o ≠ 4) else if op = 2 then decide (o ≠ 2) && decide (o ≠ 4) else true)) := rfl
  by_cases h1 : 1 ≤ o
  · by_cases h2 : o ≤ 5
    · by_cases p1 : op = 1
      · subst p1
        rcases five h1 h2 with rfl | rfl | rfl | rfl | rfl
        all_goals
          clear hd h1 h2
          go_enter Tryz.func27, Tryz.ntmps27
          go_wp2_with fail
          go_ret
          exact ⟨rfl, rfl⟩
      by_cases p6 : op = 6
      · subst p6
        rcases five h1 h2 with rfl | rfl | rfl | rfl | rfl
        all_goals
          clear hd h1 h2
          go_enter Tryz.func27, Tryz.ntmps27
          go_wp2_with fail
          go_ret
          exact ⟨rfl, rfl⟩
      by_cases p2 : op = 2
      · subst p2
        rcases five h1 h2 with rfl | rfl | rfl | rfl | rfl
        all_goals
          clear hd h1 h2
          go_enter Tryz.func27, Tryz.ntmps27
          go_wp2_with fail
          go_ret
          exact ⟨rfl, rfl⟩
      rw [decide_eq_true h1, decide_eq_true h2, if_neg (by omega), if_neg p2] at hd
      rw [hd]
      have q1 : (op == 1) = false := by rw [beq_eq_false_iff_ne]; exact p1
      have q6 : (op == 6) = false := by rw [beq_eq_false_iff_ne]; exact p6
      have q2 : (op == 2) = false := by rw [beq_eq_false_iff_ne]; exact p2
      go_enter Tryz.func27, Tryz.ntmps27
      go_wp2_with fail
      go_ret
      exact ⟨rfl, rfl⟩
    · rw [decide_eq_true h1, decide_eq_false h2] at hd
      rw [hd]
      go_enter Tryz.func27, Tryz.ntmps27
      go_wp2_with fail
      go_ret
      exact ⟨rfl, rfl⟩
  · rw [decide_eq_false h1] at hd
    rw [hd]
    go_enter Tryz.func27, Tryz.ntmps27
    go_wp2_with fail
    go_ret
    exact ⟨rfl, rfl⟩

theorem inB_hit {f : ByteArray} {c k : Nat} (hk : k < f.size) (h : byt f k = c) : inB f c = true := by
  unfold inB
  rw [List.any_eq_true]
  exact ⟨k, List.mem_range.2 hk, by rw [h]; simp⟩
theorem inB_miss {f : ByteArray} {c : Nat} (h : ∀ i, i < f.size → byt f i ≠ c) : inB f c = false := by
  unfold inB
  rw [List.any_eq_false]
  intro i hi
  simpa using h i (List.mem_range.1 hi)
set_option maxRecDepth 100000 in
set_option maxHeartbeats 1000000 in
theorem specIn (f : ByteArray) (c : Nat) (hf : f.size ≤ 1000) (w : World) :
    Calls Tryz.prog 26 #[.string f, .int .u8 (c : Int)] w fun e w' => e = .returned (.bool (inB f c)) ∧ w' = w := by
  obtain ⟨R, hR⟩ : ∃ R, inB f c = R := ⟨_, rfl⟩
  have HR : Hid (inB f c = R) := hR
  rw [hR]
  clear hR
  have hfs : (f.size : Int) ≤ 1000 := by omega
  go_enter Tryz.func26, Tryz.ntmps26
  go_wp2_with fail
  go_loopw [5] (fun i5 wr => ∃ k : Nat, i5 = .int .i64 (k : Int) ∧ k ≤ f.size ∧ (∀ i, i < k → byt f i ≠ c) ∧ wr = w) (fun i5 _ => f.size - (intOf i5).toNat)
  case atStart => exact ⟨0, rfl, by omega, fun i hi => by omega, rfl⟩
  case round =>
    obtain ⟨k, rfl, hk, hall, rfl⟩ := hrel
    have HA : Hid (∀ i, i < k → byt f i ≠ c) := hall
    clear hall
    by_cases hkn : k < f.size
    · have hkn' : (k : Int) < (f.size : Int) := by omega
      have hb := byt_eq f k hkn
      by_cases he : byt f k = c
      · have e := HR.out
        rw [inB_hit hkn he] at e
        subst e
        rw [he] at hb
        go_wp2_with fail
        go_ret
        exact ⟨rfl, rfl⟩
      · have q : ((byt f k : Int) == (c : Int)) = false := by rw [beq_eq_false_iff_ne]; omega
        go_wp2_with fail
        go_roundw
        case rel =>
          refine ⟨k + 1, by go_num, by omega, fun i hi => ?_, trivial⟩
          by_cases hik : i = k
          · rw [hik]; exact he
          · exact HA.out i (by omega)
        case measure => show f.size - ((k : Int) + 1).toNat < f.size - (k : Int).toNat; omega
    · have hkn' : ¬ ((k : Int) < (f.size : Int)) := by omega
      have e := HR.out
      rw [inB_miss (fun i hi => HA.out i (by omega))] at e
      subst e
      go_wp2_with fail
      go_ret
      exact ⟨rfl, rfl⟩

theorem thirteen {op : Int} (h1 : 1 ≤ op) (h2 : op ≤ 13) : op = 1 ∨ op = 2 ∨ op = 3 ∨ op = 4 ∨ op = 5 ∨ op = 6 ∨ op = 7 ∨ op = 8 ∨ op = 9 ∨ op = 10 ∨ op = 11 ∨ op = 12 ∨ op = 13 := by omega
set_option maxRecDepth 100000 in
set_option maxHeartbeats 2000000 in
theorem specForm (op : Int) (h1 : 1 ≤ op) (h2 : op ≤ 13) (w : World) :
    Calls Tryz.prog 24 #[.int .i64 op] w fun e w' => e = .returned (.tuple #[.string (formW op), .string (formF op)]) ∧ w' = w := by
  rcases thirteen h1 h2 with rfl | rfl | rfl | rfl | rfl | rfl | rfl | rfl | rfl | rfl | rfl | rfl | rfl
  all_goals
    clear h1 h2
    go_enter Tryz.func24, Tryz.ntmps24
    go_wp2_with fail
    go_ret2
    exact ⟨rfl, rfl⟩
end Go.Proofs.YthopmdfichfhdaaGreatDoor

namespace Go.Proofs.YthopmdfichfhdaaGreatDoor
open Go.ChangeShapes Go.WideShapes Go.ChangeAt Go.RowKit
set_option linter.unusedVariables false
set_option linter.unusedSimpArgs false

def rvVal (t : ByteArray) : Value := .agg #[.int .i64 (rvR t), .int .i64 (rvN t)]
theorem idx_hit {l : List ByteArray} {t : ByteArray} {k : Nat} (hk : k < l.length) (h : ∀ i (hi : i < l.length), i < k → (l[i].toList == t.toList) = false) (h1 : (l[k].toList == t.toList) = true) : idxV l t = (k : Int) := by
  have : idxO l t = some k := by
    unfold idxO
    rw [List.findIdx?_eq_some_iff_getElem]
    exact ⟨hk, h1, fun j hj => by rw [h j (by omega) hj]; simp⟩
  unfold idxV
  rw [this]
theorem idx_miss {l : List ByteArray} {t : ByteArray} (h : ∀ i (hi : i < l.length), (l[i].toList == t.toList) = false) : idxV l t = -1 := by
  have : idxO l t = none := by
    unfold idxO
    rw [List.findIdx?_eq_none_iff]
    intro x hx
    obtain ⟨i, hi, rfl⟩ := List.getElem_of_mem hx
    exact h i hi
  unfold idxV
  rw [this]
end Go.Proofs.YthopmdfichfhdaaGreatDoor
