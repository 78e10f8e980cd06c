/-
  An instruction's words, as the document reads them and as the program does: operation by operation. No statement of the seat is proved here.
-/
import Derived.Test.YthopmdfichfhdaaGreatDoorS1
namespace Go.Proofs.YthopmdfichfhdaaGreatDoor
open Go.ChangeShapes Go.WideShapes Go.ChangeAt Go.RowKit
set_option linter.unusedVariables false
set_option linter.unusedSimpArgs false

def foldI (f : ByteArray) (ws : List ByteArray) (op : Int) : Nat → Ins
  | 0 => { ins0 with op := op }
  | j + 1 => fldX (byt f j) (ws.getD (j + 1) ⟨#[]⟩) (foldI f ws op j)
theorem readI_fold (f : ByteArray) (ws : List ByteArray) (op : Int) (n : Nat) : ∀ k, readI f ws op n k = if ((List.range k).all fun j => fldB (byt f j) (ws.getD (j + 1) ⟨#[]⟩) (foldI f ws op j) n) = true then some (foldI f ws op k) else none
  | 0 => rfl
  | k + 1 => by
    have ih := readI_fold f ws op n k
    show (match readI f ws op n k with | none => none | some x => if fldB (byt f k) (ws.getD (k + 1) ⟨#[]⟩) x n = true then some (fldX (byt f k) (ws.getD (k + 1) ⟨#[]⟩) x) else none) = _
    rw [ih, List.range_succ, List.all_append]
    cases (List.range k).all fun j => fldB (byt f j) (ws.getD (j + 1) ⟨#[]⟩) (foldI f ws op j) n
    · simp
    · simp [foldI]
def SameI (o : Option Ins) (p : Ins × Bool) : Prop := p.2 = o.isSome ∧ ∀ y, o = some y → p.1 = y
theorem same_of {P P' : Bool} {X X' : Ins} (h1 : P' = P) (h2 : P = true → X' = X) : SameI (if P = true then some X else none) (X', P') := by
  subst h1
  cases P'
  · exact ⟨rfl, fun y hy => by simp at hy⟩
  · exact ⟨rfl, fun y hy => by simp at hy; rw [← hy]; exact h2 rfl⟩
theorem cR_eq (t : ByteArray) : nbB t 114 1 6 = cR true (smallV t 114) := (small_rest (t := t) (c := 114) (lo := 1) (hi := 6) (by decide) (by decide)).1
theorem cR_val {t : ByteArray} (h : cR true (smallV t 114) = true) : smallV t 114 = numV (restT t 114) := ((small_rest (t := t) (c := 114) (lo := 1) (hi := 6) (by decide) (by decide)).2 ((cR_eq t).trans h)).symm
theorem cC_eq (t : ByteArray) {n : Nat} (hn : n ≤ 8) : nbB t 99 0 ((n : Int) - 1) = cC true (smallV t 99) n := by
  rw [(small_rest (t := t) (c := 99) (lo := 0) (hi := (n : Int) - 1) (by decide) (by omega)).1]
  unfold cC
  simp only [if_true]
  congr 1
  exact decide_eq_decide.2 (by omega)
theorem cC_val {t : ByteArray} {n : Nat} (hn : n ≤ 8) (h : cC true (smallV t 99) n = true) : smallV t 99 = numV (restT t 99) := ((small_rest (t := t) (c := 99) (lo := 0) (hi := (n : Int) - 1) (by decide) (by omega)).2 ((cC_eq t hn).trans h)).symm
theorem cT_eqM (t : ByteArray) (b : Bool) : (numB t && (decide (0 ≤ numV t) && decide (numV t ≤ 99))) = (numB t && cT true b (numV t)) := rfl
theorem cT_eqN (t : ByteArray) : (numB t && (decide (0 ≤ numV t) && decide (numV t ≤ 9223372036854775807))) = (numB t && cT false true (numV t)) := by
  unfold cT
  rw [decide_eq_true (num_max t), Bool.and_true]
  rfl
theorem rv_r (t : ByteArray) : rvR t = voR t := (rv_vo t).1
theorem rv_n (t : ByteArray) : rvN t = voN t := (rv_vo t).2.1
theorem rv_b (t : ByteArray) : rvB t = voB t := (rv_vo t).2.2
theorem same1 (ws : List ByteArray) (n : Nat) (hn : n ≤ 8) : SameI (readI (frmFAt 1) ws 1 n (frmFAt 1).size) (insS 1 ws n) := by
  obtain ⟨t1, ht1⟩ : ∃ t, ws.getD 1 ⟨#[]⟩ = t := ⟨_, rfl⟩
  obtain ⟨t2, ht2⟩ : ∃ t, ws.getD 2 ⟨#[]⟩ = t := ⟨_, rfl⟩
  obtain ⟨t3, ht3⟩ : ∃ t, ws.getD 3 ⟨#[]⟩ = t := ⟨_, rfl⟩
  have hP : ((List.range 3).all fun j => fldB (byt (frmFAt 1) j) (ws.getD (j + 1) ⟨#[]⟩) (foldI (frmFAt 1) ws 1 j) n) = (nbB t1 114 1 6 && (nbB t2 99 0 ((n : Int) - 1) && (ordB 1 (idxV ordL t3) && true))) := by
    rw [← ht1, ← ht2, ← ht3]
    first | rfl | kernel_rfl
  have hX : foldI (frmFAt 1) ws 1 3 = (⟨1, numV (restT t2 99), numV (restT t1 114), 0, 0, 0, 0, idxV ordL t3, 0, 0⟩ : Ins) := by
    rw [← ht1, ← ht2, ← ht3]
    first | rfl | kernel_rfl
  have hS : readS (formF 1) ws 1 3 = ((⟨1, smallV t2 99, smallV t1 114, 0, 0, 0, 0, idxV ordL t3, 0, 0⟩ : Ins), (((true && true) && true) && true)) := by
    rw [← ht1, ← ht2, ← ht3]
    first | rfl | kernel_rfl
  have hI : insB (⟨1, smallV t2 99, smallV t1 114, 0, 0, 0, 0, idxV ordL t3, 0, 0⟩ : Ins) n = ((((((((valB (0) (0) && valB (0) (0) && rangeB (0) && rangeB (0)) && cR true (smallV t1 114)) && cC true (smallV t2 99) n) && cV false (0) (0)) && cV false (0) (0)) && cO true 1 (idxV ordL t3)) && cQ false (0)) && cT false false (0)) := by first | rfl | kernel_rfl
  rw [show (frmFAt 1).size = 3 from by first | rfl | kernel_rfl, readI_fold, hP, hX]
  unfold insS
  rw [show (formF 1).size = 3 from by first | rfl | kernel_rfl, hS]
  dsimp only
  rw [hI]
  simp only [cR_eq t1, cC_eq t2 hn, ← cO_eq 1 (idxV ordL t3), show valB 0 0 = true from rfl, show rangeB 0 = true from rfl, show cR false 0 = true from rfl, show cC false 0 (n : Int) = true from rfl, show cV false 0 0 = true from rfl, show cO false 1 0 = true from rfl, show cQ false 0 = true from rfl, show cT false false 0 = true from rfl, cV, Bool.true_or, Bool.and_true, Bool.true_and]
  refine same_of ?_ ?_
  · first
    | rfl
    | (
      generalize cR true (smallV t1 114) = a0
      generalize cC true (smallV t2 99) (n : Int) = a1
      generalize cO true 1 (idxV ordL t3) = a2
      cases a0 <;> cases a1 <;> cases a2 <;> rfl)
  · intro hp
    simp only [Bool.and_eq_true] at hp
    have et1 := cR_val (show cR true (smallV t1 114) = true by first | exact hp | exact hp.1 | exact hp.2 | exact hp.2.1 | exact hp.1.1 | exact hp.1.2 | exact hp.2.1.1 | exact hp.2.2.1)
    have et2 := cC_val hn (show cC true (smallV t2 99) (n : Int) = true by first | exact hp | exact hp.1 | exact hp.2 | exact hp.2.1 | exact hp.1.1 | exact hp.1.2 | exact hp.2.1.1 | exact hp.2.2.1)
    rw [et1, et2]
theorem same2 (ws : List ByteArray) (n : Nat) (hn : n ≤ 8) : SameI (readI (frmFAt 2) ws 2 n (frmFAt 2).size) (insS 2 ws n) := by
  obtain ⟨t1, ht1⟩ : ∃ t, ws.getD 1 ⟨#[]⟩ = t := ⟨_, rfl⟩
  obtain ⟨t2, ht2⟩ : ∃ t, ws.getD 2 ⟨#[]⟩ = t := ⟨_, rfl⟩
  obtain ⟨t3, ht3⟩ : ∃ t, ws.getD 3 ⟨#[]⟩ = t := ⟨_, rfl⟩
  have hP : ((List.range 3).all fun j => fldB (byt (frmFAt 2) j) (ws.getD (j + 1) ⟨#[]⟩) (foldI (frmFAt 2) ws 2 j) n) = (nbB t1 99 0 ((n : Int) - 1) && (voB t2 && (ordB 2 (idxV ordL t3) && true))) := by
    rw [← ht1, ← ht2, ← ht3]
    first | rfl | kernel_rfl
  have hX : foldI (frmFAt 2) ws 2 3 = (⟨2, numV (restT t1 99), 0, voR t2, voN t2, 0, 0, idxV ordL t3, 0, 0⟩ : Ins) := by
    rw [← ht1, ← ht2, ← ht3]
    first | rfl | kernel_rfl
  have hS : readS (formF 2) ws 2 3 = ((⟨2, smallV t1 99, 0, rvR t2, rvN t2, 0, 0, idxV ordL t3, 0, 0⟩ : Ins), (((true && true) && rvB t2) && true)) := by
    rw [← ht1, ← ht2, ← ht3]
    first | rfl | kernel_rfl
  have hI : insB (⟨2, smallV t1 99, 0, rvR t2, rvN t2, 0, 0, idxV ordL t3, 0, 0⟩ : Ins) n = ((((((((valB (rvR t2) (rvN t2) && valB (0) (0) && rangeB (rvN t2) && rangeB (0)) && cR false (0)) && cC true (smallV t1 99) n) && cV true (rvR t2) (rvN t2)) && cV false (0) (0)) && cO true 2 (idxV ordL t3)) && cQ false (0)) && cT false false (0)) := by first | rfl | kernel_rfl
  rw [show (frmFAt 2).size = 3 from by first | rfl | kernel_rfl, readI_fold, hP, hX]
  unfold insS
  rw [show (formF 2).size = 3 from by first | rfl | kernel_rfl, hS]
  dsimp only
  rw [hI]
  simp only [cC_eq t1 hn, rv_r t2, rv_n t2, rv_b t2, (vo_val t2).1, (vo_val t2).2, ← cO_eq 2 (idxV ordL t3), show valB 0 0 = true from rfl, show rangeB 0 = true from rfl, show cR false 0 = true from rfl, show cC false 0 (n : Int) = true from rfl, show cV false 0 0 = true from rfl, show cO false 2 0 = true from rfl, show cQ false 0 = true from rfl, show cT false false 0 = true from rfl, cV, Bool.true_or, Bool.and_true, Bool.true_and]
  refine same_of ?_ ?_
  · first
    | rfl
    | (
      generalize cC true (smallV t1 99) (n : Int) = a0
      generalize voB t2 = a1
      generalize cO true 2 (idxV ordL t3) = a2
      cases a0 <;> cases a1 <;> cases a2 <;> rfl)
  · intro hp
    simp only [Bool.and_eq_true] at hp
    have et1 := cC_val hn (show cC true (smallV t1 99) (n : Int) = true by first | exact hp | exact hp.1 | exact hp.2 | exact hp.2.1 | exact hp.1.1 | exact hp.1.2 | exact hp.2.1.1 | exact hp.2.2.1)
    rw [et1]
theorem same3 (ws : List ByteArray) (n : Nat) (hn : n ≤ 8) : SameI (readI (frmFAt 3) ws 3 n (frmFAt 3).size) (insS 3 ws n) := by
  obtain ⟨t1, ht1⟩ : ∃ t, ws.getD 1 ⟨#[]⟩ = t := ⟨_, rfl⟩
  obtain ⟨t2, ht2⟩ : ∃ t, ws.getD 2 ⟨#[]⟩ = t := ⟨_, rfl⟩
  obtain ⟨t3, ht3⟩ : ∃ t, ws.getD 3 ⟨#[]⟩ = t := ⟨_, rfl⟩
  obtain ⟨t4, ht4⟩ : ∃ t, ws.getD 4 ⟨#[]⟩ = t := ⟨_, rfl⟩
  have hP : ((List.range 4).all fun j => fldB (byt (frmFAt 3) j) (ws.getD (j + 1) ⟨#[]⟩) (foldI (frmFAt 3) ws 3 j) n) = (nbB t1 114 1 6 && (nbB t2 99 0 ((n : Int) - 1) && (voB t3 && (ordB 3 (idxV ordL t4) && true)))) := by
    rw [← ht1, ← ht2, ← ht3, ← ht4]
    first | rfl | kernel_rfl
  have hX : foldI (frmFAt 3) ws 3 4 = (⟨3, numV (restT t2 99), numV (restT t1 114), voR t3, voN t3, 0, 0, idxV ordL t4, 0, 0⟩ : Ins) := by
    rw [← ht1, ← ht2, ← ht3, ← ht4]
    first | rfl | kernel_rfl
  have hS : readS (formF 3) ws 3 4 = ((⟨3, smallV t2 99, smallV t1 114, rvR t3, rvN t3, 0, 0, idxV ordL t4, 0, 0⟩ : Ins), ((((true && true) && true) && rvB t3) && true)) := by
    rw [← ht1, ← ht2, ← ht3, ← ht4]
    first | rfl | kernel_rfl
  have hI : insB (⟨3, smallV t2 99, smallV t1 114, rvR t3, rvN t3, 0, 0, idxV ordL t4, 0, 0⟩ : Ins) n = ((((((((valB (rvR t3) (rvN t3) && valB (0) (0) && rangeB (rvN t3) && rangeB (0)) && cR true (smallV t1 114)) && cC true (smallV t2 99) n) && cV true (rvR t3) (rvN t3)) && cV false (0) (0)) && cO true 3 (idxV ordL t4)) && cQ false (0)) && cT false false (0)) := by first | rfl | kernel_rfl
  rw [show (frmFAt 3).size = 4 from by first | rfl | kernel_rfl, readI_fold, hP, hX]
  unfold insS
  rw [show (formF 3).size = 4 from by first | rfl | kernel_rfl, hS]
  dsimp only
  rw [hI]
  simp only [cR_eq t1, cC_eq t2 hn, rv_r t3, rv_n t3, rv_b t3, (vo_val t3).1, (vo_val t3).2, ← cO_eq 3 (idxV ordL t4), show valB 0 0 = true from rfl, show rangeB 0 = true from rfl, show cR false 0 = true from rfl, show cC false 0 (n : Int) = true from rfl, show cV false 0 0 = true from rfl, show cO false 3 0 = true from rfl, show cQ false 0 = true from rfl, show cT false false 0 = true from rfl, cV, Bool.true_or, Bool.and_true, Bool.true_and]
  refine same_of ?_ ?_
  · first
    | rfl
    | (
      generalize cR true (smallV t1 114) = a0
      generalize cC true (smallV t2 99) (n : Int) = a1
      generalize voB t3 = a2
      generalize cO true 3 (idxV ordL t4) = a3
      cases a0 <;> cases a1 <;> cases a2 <;> cases a3 <;> rfl)
  · intro hp
    simp only [Bool.and_eq_true] at hp
    have et1 := cR_val (show cR true (smallV t1 114) = true by first | exact hp | exact hp.1 | exact hp.2 | exact hp.2.1 | exact hp.1.1 | exact hp.1.2 | exact hp.2.1.1 | exact hp.2.2.1)
    have et2 := cC_val hn (show cC true (smallV t2 99) (n : Int) = true by first | exact hp | exact hp.1 | exact hp.2 | exact hp.2.1 | exact hp.1.1 | exact hp.1.2 | exact hp.2.1.1 | exact hp.2.2.1)
    rw [et1, et2]
theorem same4 (ws : List ByteArray) (n : Nat) (hn : n ≤ 8) : SameI (readI (frmFAt 4) ws 4 n (frmFAt 4).size) (insS 4 ws n) := by
  obtain ⟨t1, ht1⟩ : ∃ t, ws.getD 1 ⟨#[]⟩ = t := ⟨_, rfl⟩
  obtain ⟨t2, ht2⟩ : ∃ t, ws.getD 2 ⟨#[]⟩ = t := ⟨_, rfl⟩
  obtain ⟨t3, ht3⟩ : ∃ t, ws.getD 3 ⟨#[]⟩ = t := ⟨_, rfl⟩
  obtain ⟨t4, ht4⟩ : ∃ t, ws.getD 4 ⟨#[]⟩ = t := ⟨_, rfl⟩
  have hP : ((List.range 4).all fun j => fldB (byt (frmFAt 4) j) (ws.getD (j + 1) ⟨#[]⟩) (foldI (frmFAt 4) ws 4 j) n) = (nbB t1 114 1 6 && (nbB t2 99 0 ((n : Int) - 1) && (voB t3 && (ordB 4 (idxV ordL t4) && true)))) := by
    rw [← ht1, ← ht2, ← ht3, ← ht4]
    first | rfl | kernel_rfl
  have hX : foldI (frmFAt 4) ws 4 4 = (⟨4, numV (restT t2 99), numV (restT t1 114), voR t3, voN t3, 0, 0, idxV ordL t4, 0, 0⟩ : Ins) := by
    rw [← ht1, ← ht2, ← ht3, ← ht4]
    first | rfl | kernel_rfl
  have hS : readS (formF 4) ws 4 4 = ((⟨4, smallV t2 99, smallV t1 114, rvR t3, rvN t3, 0, 0, idxV ordL t4, 0, 0⟩ : Ins), ((((true && true) && true) && rvB t3) && true)) := by
    rw [← ht1, ← ht2, ← ht3, ← ht4]
    first | rfl | kernel_rfl
  have hI : insB (⟨4, smallV t2 99, smallV t1 114, rvR t3, rvN t3, 0, 0, idxV ordL t4, 0, 0⟩ : Ins) n = ((((((((valB (rvR t3) (rvN t3) && valB (0) (0) && rangeB (rvN t3) && rangeB (0)) && cR true (smallV t1 114)) && cC true (smallV t2 99) n) && cV true (rvR t3) (rvN t3)) && cV false (0) (0)) && cO true 4 (idxV ordL t4)) && cQ false (0)) && cT false false (0)) := by first | rfl | kernel_rfl
  rw [show (frmFAt 4).size = 4 from by first | rfl | kernel_rfl, readI_fold, hP, hX]
  unfold insS
  rw [show (formF 4).size = 4 from by first | rfl | kernel_rfl, hS]
  dsimp only
  rw [hI]
  simp only [cR_eq t1, cC_eq t2 hn, rv_r t3, rv_n t3, rv_b t3, (vo_val t3).1, (vo_val t3).2, ← cO_eq 4 (idxV ordL t4), show valB 0 0 = true from rfl, show rangeB 0 = true from rfl, show cR false 0 = true from rfl, show cC false 0 (n : Int) = true from rfl, show cV false 0 0 = true from rfl, show cO false 4 0 = true from rfl, show cQ false 0 = true from rfl, show cT false false 0 = true from rfl, cV, Bool.true_or, Bool.and_true, Bool.true_and]
  refine same_of ?_ ?_
  · first
    | rfl
    | (
      generalize cR true (smallV t1 114) = a0
      generalize cC true (smallV t2 99) (n : Int) = a1
      generalize voB t3 = a2
      generalize cO true 4 (idxV ordL t4) = a3
      cases a0 <;> cases a1 <;> cases a2 <;> cases a3 <;> rfl)
  · intro hp
    simp only [Bool.and_eq_true] at hp
    have et1 := cR_val (show cR true (smallV t1 114) = true by first | exact hp | exact hp.1 | exact hp.2 | exact hp.2.1 | exact hp.1.1 | exact hp.1.2 | exact hp.2.1.1 | exact hp.2.2.1)
    have et2 := cC_val hn (show cC true (smallV t2 99) (n : Int) = true by first | exact hp | exact hp.1 | exact hp.2 | exact hp.2.1 | exact hp.1.1 | exact hp.1.2 | exact hp.2.1.1 | exact hp.2.2.1)
    rw [et1, et2]
theorem same5 (ws : List ByteArray) (n : Nat) (hn : n ≤ 8) : SameI (readI (frmFAt 5) ws 5 n (frmFAt 5).size) (insS 5 ws n) := by
  obtain ⟨t1, ht1⟩ : ∃ t, ws.getD 1 ⟨#[]⟩ = t := ⟨_, rfl⟩
  obtain ⟨t2, ht2⟩ : ∃ t, ws.getD 2 ⟨#[]⟩ = t := ⟨_, rfl⟩
  obtain ⟨t3, ht3⟩ : ∃ t, ws.getD 3 ⟨#[]⟩ = t := ⟨_, rfl⟩
  obtain ⟨t4, ht4⟩ : ∃ t, ws.getD 4 ⟨#[]⟩ = t := ⟨_, rfl⟩
  obtain ⟨t5, ht5⟩ : ∃ t, ws.getD 5 ⟨#[]⟩ = t := ⟨_, rfl⟩
  have hP : ((List.range 5).all fun j => fldB (byt (frmFAt 5) j) (ws.getD (j + 1) ⟨#[]⟩) (foldI (frmFAt 5) ws 5 j) n) = (nbB t1 114 1 6 && (nbB t2 99 0 ((n : Int) - 1) && (voB t3 && (voB t4 && (ordB 5 (idxV ordL t5) && true))))) := by
    rw [← ht1, ← ht2, ← ht3, ← ht4, ← ht5]
    first | rfl | kernel_rfl
  have hX : foldI (frmFAt 5) ws 5 5 = (⟨5, numV (restT t2 99), numV (restT t1 114), voR t3, voN t3, voR t4, voN t4, idxV ordL t5, 0, 0⟩ : Ins) := by
    rw [← ht1, ← ht2, ← ht3, ← ht4, ← ht5]
    first | rfl | kernel_rfl
  have hS : readS (formF 5) ws 5 5 = ((⟨5, smallV t2 99, smallV t1 114, rvR t3, rvN t3, rvR t4, rvN t4, idxV ordL t5, 0, 0⟩ : Ins), (((((true && true) && true) && rvB t3) && rvB t4) && true)) := by
    rw [← ht1, ← ht2, ← ht3, ← ht4, ← ht5]
    first | rfl | kernel_rfl
  have hI : insB (⟨5, smallV t2 99, smallV t1 114, rvR t3, rvN t3, rvR t4, rvN t4, idxV ordL t5, 0, 0⟩ : Ins) n = ((((((((valB (rvR t3) (rvN t3) && valB (rvR t4) (rvN t4) && rangeB (rvN t3) && rangeB (rvN t4)) && cR true (smallV t1 114)) && cC true (smallV t2 99) n) && cV true (rvR t3) (rvN t3)) && cV true (rvR t4) (rvN t4)) && cO true 5 (idxV ordL t5)) && cQ false (0)) && cT false false (0)) := by first | rfl | kernel_rfl
  rw [show (frmFAt 5).size = 5 from by first | rfl | kernel_rfl, readI_fold, hP, hX]
  unfold insS
  rw [show (formF 5).size = 5 from by first | rfl | kernel_rfl, hS]
  dsimp only
  rw [hI]
  simp only [cR_eq t1, cC_eq t2 hn, rv_r t3, rv_n t3, rv_b t3, (vo_val t3).1, (vo_val t3).2, rv_r t4, rv_n t4, rv_b t4, (vo_val t4).1, (vo_val t4).2, ← cO_eq 5 (idxV ordL t5), show valB 0 0 = true from rfl, show rangeB 0 = true from rfl, show cR false 0 = true from rfl, show cC false 0 (n : Int) = true from rfl, show cV false 0 0 = true from rfl, show cO false 5 0 = true from rfl, show cQ false 0 = true from rfl, show cT false false 0 = true from rfl, cV, Bool.true_or, Bool.and_true, Bool.true_and]
  refine same_of ?_ ?_
  · first
    | rfl
    | (
      generalize cR true (smallV t1 114) = a0
      generalize cC true (smallV t2 99) (n : Int) = a1
      generalize voB t3 = a2
      generalize voB t4 = a3
      generalize cO true 5 (idxV ordL t5) = a4
      cases a0 <;> cases a1 <;> cases a2 <;> cases a3 <;> cases a4 <;> rfl)
  · intro hp
    simp only [Bool.and_eq_true] at hp
    have et1 := cR_val (show cR true (smallV t1 114) = true by first | exact hp | exact hp.1 | exact hp.2 | exact hp.2.1 | exact hp.1.1 | exact hp.1.2 | exact hp.2.1.1 | exact hp.2.2.1)
    have et2 := cC_val hn (show cC true (smallV t2 99) (n : Int) = true by first | exact hp | exact hp.1 | exact hp.2 | exact hp.2.1 | exact hp.1.1 | exact hp.1.2 | exact hp.2.1.1 | exact hp.2.2.1)
    rw [et1, et2]
theorem same6 (ws : List ByteArray) (n : Nat) (hn : n ≤ 8) : SameI (readI (frmFAt 6) ws 6 n (frmFAt 6).size) (insS 6 ws n) := by
  obtain ⟨t1, ht1⟩ : ∃ t, ws.getD 1 ⟨#[]⟩ = t := ⟨_, rfl⟩
  obtain ⟨t2, ht2⟩ : ∃ t, ws.getD 2 ⟨#[]⟩ = t := ⟨_, rfl⟩
  obtain ⟨t3, ht3⟩ : ∃ t, ws.getD 3 ⟨#[]⟩ = t := ⟨_, rfl⟩
  obtain ⟨t4, ht4⟩ : ∃ t, ws.getD 4 ⟨#[]⟩ = t := ⟨_, rfl⟩
  obtain ⟨t5, ht5⟩ : ∃ t, ws.getD 5 ⟨#[]⟩ = t := ⟨_, rfl⟩
  have hP : ((List.range 5).all fun j => fldB (byt (frmFAt 6) j) (ws.getD (j + 1) ⟨#[]⟩) (foldI (frmFAt 6) ws 6 j) n) = (nbB t1 114 1 6 && (nbB t2 99 0 ((n : Int) - 1) && (decide (0 < idxV cndL t3) && (voB t4 && (ordB 6 (idxV ordL t5) && true))))) := by
    rw [← ht1, ← ht2, ← ht3, ← ht4, ← ht5]
    first | rfl | kernel_rfl
  have hX : foldI (frmFAt 6) ws 6 5 = (⟨6, numV (restT t2 99), numV (restT t1 114), voR t4, voN t4, 0, 0, idxV ordL t5, idxV cndL t3, 0⟩ : Ins) := by
    rw [← ht1, ← ht2, ← ht3, ← ht4, ← ht5]
    first | rfl | kernel_rfl
  have hS : readS (formF 6) ws 6 5 = ((⟨6, smallV t2 99, smallV t1 114, rvR t4, rvN t4, 0, 0, idxV ordL t5, idxV cndL t3, 0⟩ : Ins), (((((true && true) && true) && true) && rvB t4) && true)) := by
    rw [← ht1, ← ht2, ← ht3, ← ht4, ← ht5]
    first | rfl | kernel_rfl
  have hI : insB (⟨6, smallV t2 99, smallV t1 114, rvR t4, rvN t4, 0, 0, idxV ordL t5, idxV cndL t3, 0⟩ : Ins) n = ((((((((valB (rvR t4) (rvN t4) && valB (0) (0) && rangeB (rvN t4) && rangeB (0)) && cR true (smallV t1 114)) && cC true (smallV t2 99) n) && cV true (rvR t4) (rvN t4)) && cV false (0) (0)) && cO true 6 (idxV ordL t5)) && cQ true (idxV cndL t3)) && cT false false (0)) := by first | rfl | kernel_rfl
  rw [show (frmFAt 6).size = 5 from by first | rfl | kernel_rfl, readI_fold, hP, hX]
  unfold insS
  rw [show (formF 6).size = 5 from by first | rfl | kernel_rfl, hS]
  dsimp only
  rw [hI]
  simp only [cR_eq t1, cC_eq t2 hn, q_eq t3, rv_r t4, rv_n t4, rv_b t4, (vo_val t4).1, (vo_val t4).2, ← cO_eq 6 (idxV ordL t5), show valB 0 0 = true from rfl, show rangeB 0 = true from rfl, show cR false 0 = true from rfl, show cC false 0 (n : Int) = true from rfl, show cV false 0 0 = true from rfl, show cO false 6 0 = true from rfl, show cQ false 0 = true from rfl, show cT false false 0 = true from rfl, cV, Bool.true_or, Bool.and_true, Bool.true_and]
  refine same_of ?_ ?_
  · first
    | rfl
    | (
      generalize cR true (smallV t1 114) = a0
      generalize cC true (smallV t2 99) (n : Int) = a1
      generalize cQ true (idxV cndL t3) = a2
      generalize voB t4 = a3
      generalize cO true 6 (idxV ordL t5) = a4
      cases a0 <;> cases a1 <;> cases a2 <;> cases a3 <;> cases a4 <;> rfl)
  · intro hp
    simp only [Bool.and_eq_true] at hp
    have et1 := cR_val (show cR true (smallV t1 114) = true by first | exact hp | exact hp.1 | exact hp.2 | exact hp.2.1 | exact hp.1.1 | exact hp.1.2 | exact hp.2.1.1 | exact hp.2.2.1)
    have et2 := cC_val hn (show cC true (smallV t2 99) (n : Int) = true by first | exact hp | exact hp.1 | exact hp.2 | exact hp.2.1 | exact hp.1.1 | exact hp.1.2 | exact hp.2.1.1 | exact hp.2.2.1)
    rw [et1, et2]
theorem same7 (ws : List ByteArray) (n : Nat) (hn : n ≤ 8) : SameI (readI (frmFAt 7) ws 7 n (frmFAt 7).size) (insS 7 ws n) := by
  have hP : ((List.range 0).all fun j => fldB (byt (frmFAt 7) j) (ws.getD (j + 1) ⟨#[]⟩) (foldI (frmFAt 7) ws 7 j) n) = true := by
    first | rfl | kernel_rfl
  have hX : foldI (frmFAt 7) ws 7 0 = (⟨7, 0, 0, 0, 0, 0, 0, 0, 0, 0⟩ : Ins) := by
    first | rfl | kernel_rfl
  have hS : readS (formF 7) ws 7 0 = ((⟨7, 0, 0, 0, 0, 0, 0, 0, 0, 0⟩ : Ins), true) := by
    first | rfl | kernel_rfl
  have hI : insB (⟨7, 0, 0, 0, 0, 0, 0, 0, 0, 0⟩ : Ins) n = ((((((((valB (0) (0) && valB (0) (0) && rangeB (0) && rangeB (0)) && cR false (0)) && cC false (0) n) && cV false (0) (0)) && cV false (0) (0)) && cO false 7 (0)) && cQ false (0)) && cT false false (0)) := by first | rfl | kernel_rfl
  rw [show (frmFAt 7).size = 0 from by first | rfl | kernel_rfl, readI_fold, hP, hX]
  unfold insS
  rw [show (formF 7).size = 0 from by first | rfl | kernel_rfl, hS]
  dsimp only
  rw [hI]
  exact same_of (by first | rfl | kernel_rfl) (fun _ => rfl)
theorem same8 (ws : List ByteArray) (n : Nat) (hn : n ≤ 8) : SameI (readI (frmFAt 8) ws 8 n (frmFAt 8).size) (insS 8 ws n) := by
  obtain ⟨t1, ht1⟩ : ∃ t, ws.getD 1 ⟨#[]⟩ = t := ⟨_, rfl⟩
  obtain ⟨t2, ht2⟩ : ∃ t, ws.getD 2 ⟨#[]⟩ = t := ⟨_, rfl⟩
  have hP : ((List.range 2).all fun j => fldB (byt (frmFAt 8) j) (ws.getD (j + 1) ⟨#[]⟩) (foldI (frmFAt 8) ws 8 j) n) = (nbB t1 114 1 6 && (voB t2 && true)) := by
    rw [← ht1, ← ht2]
    first | rfl | kernel_rfl
  have hX : foldI (frmFAt 8) ws 8 2 = (⟨8, 0, numV (restT t1 114), voR t2, voN t2, 0, 0, 0, 0, 0⟩ : Ins) := by
    rw [← ht1, ← ht2]
    first | rfl | kernel_rfl
  have hS : readS (formF 8) ws 8 2 = ((⟨8, 0, smallV t1 114, rvR t2, rvN t2, 0, 0, 0, 0, 0⟩ : Ins), ((true && true) && rvB t2)) := by
    rw [← ht1, ← ht2]
    first | rfl | kernel_rfl
  have hI : insB (⟨8, 0, smallV t1 114, rvR t2, rvN t2, 0, 0, 0, 0, 0⟩ : Ins) n = ((((((((valB (rvR t2) (rvN t2) && valB (0) (0) && rangeB (rvN t2) && rangeB (0)) && cR true (smallV t1 114)) && cC false (0) n) && cV true (rvR t2) (rvN t2)) && cV false (0) (0)) && cO false 8 (0)) && cQ false (0)) && cT false false (0)) := by first | rfl | kernel_rfl
  rw [show (frmFAt 8).size = 2 from by first | rfl | kernel_rfl, readI_fold, hP, hX]
  unfold insS
  rw [show (formF 8).size = 2 from by first | rfl | kernel_rfl, hS]
  dsimp only
  rw [hI]
  simp only [cR_eq t1, rv_r t2, rv_n t2, rv_b t2, (vo_val t2).1, (vo_val t2).2, show valB 0 0 = true from rfl, show rangeB 0 = true from rfl, show cR false 0 = true from rfl, show cC false 0 (n : Int) = true from rfl, show cV false 0 0 = true from rfl, show cO false 8 0 = true from rfl, show cQ false 0 = true from rfl, show cT false false 0 = true from rfl, cV, Bool.true_or, Bool.and_true, Bool.true_and]
  refine same_of ?_ ?_
  · first
    | rfl
    | (
      generalize cR true (smallV t1 114) = a0
      generalize voB t2 = a1
      cases a0 <;> cases a1 <;> rfl)
  · intro hp
    simp only [Bool.and_eq_true] at hp
    have et1 := cR_val (show cR true (smallV t1 114) = true by first | exact hp | exact hp.1 | exact hp.2 | exact hp.2.1 | exact hp.1.1 | exact hp.1.2 | exact hp.2.1.1 | exact hp.2.2.1)
    rw [et1]
theorem same9 (ws : List ByteArray) (n : Nat) (hn : n ≤ 8) : SameI (readI (frmFAt 9) ws 9 n (frmFAt 9).size) (insS 9 ws n) := by
  obtain ⟨t1, ht1⟩ : ∃ t, ws.getD 1 ⟨#[]⟩ = t := ⟨_, rfl⟩
  obtain ⟨t2, ht2⟩ : ∃ t, ws.getD 2 ⟨#[]⟩ = t := ⟨_, rfl⟩
  have hP : ((List.range 2).all fun j => fldB (byt (frmFAt 9) j) (ws.getD (j + 1) ⟨#[]⟩) (foldI (frmFAt 9) ws 9 j) n) = (nbB t1 114 1 6 && (voB t2 && true)) := by
    rw [← ht1, ← ht2]
    first | rfl | kernel_rfl
  have hX : foldI (frmFAt 9) ws 9 2 = (⟨9, 0, numV (restT t1 114), voR t2, voN t2, 0, 0, 0, 0, 0⟩ : Ins) := by
    rw [← ht1, ← ht2]
    first | rfl | kernel_rfl
  have hS : readS (formF 9) ws 9 2 = ((⟨9, 0, smallV t1 114, rvR t2, rvN t2, 0, 0, 0, 0, 0⟩ : Ins), ((true && true) && rvB t2)) := by
    rw [← ht1, ← ht2]
    first | rfl | kernel_rfl
  have hI : insB (⟨9, 0, smallV t1 114, rvR t2, rvN t2, 0, 0, 0, 0, 0⟩ : Ins) n = ((((((((valB (rvR t2) (rvN t2) && valB (0) (0) && rangeB (rvN t2) && rangeB (0)) && cR true (smallV t1 114)) && cC false (0) n) && cV true (rvR t2) (rvN t2)) && cV false (0) (0)) && cO false 9 (0)) && cQ false (0)) && cT false false (0)) := by first | rfl | kernel_rfl
  rw [show (frmFAt 9).size = 2 from by first | rfl | kernel_rfl, readI_fold, hP, hX]
  unfold insS
  rw [show (formF 9).size = 2 from by first | rfl | kernel_rfl, hS]
  dsimp only
  rw [hI]
  simp only [cR_eq t1, rv_r t2, rv_n t2, rv_b t2, (vo_val t2).1, (vo_val t2).2, show valB 0 0 = true from rfl, show rangeB 0 = true from rfl, show cR false 0 = true from rfl, show cC false 0 (n : Int) = true from rfl, show cV false 0 0 = true from rfl, show cO false 9 0 = true from rfl, show cQ false 0 = true from rfl, show cT false false 0 = true from rfl, cV, Bool.true_or, Bool.and_true, Bool.true_and]
  refine same_of ?_ ?_
  · first
    | rfl
    | (
      generalize cR true (smallV t1 114) = a0
      generalize voB t2 = a1
      cases a0 <;> cases a1 <;> rfl)
  · intro hp
    simp only [Bool.and_eq_true] at hp
    have et1 := cR_val (show cR true (smallV t1 114) = true by first | exact hp | exact hp.1 | exact hp.2 | exact hp.2.1 | exact hp.1.1 | exact hp.1.2 | exact hp.2.1.1 | exact hp.2.2.1)
    rw [et1]
theorem same10 (ws : List ByteArray) (n : Nat) (hn : n ≤ 8) : SameI (readI (frmFAt 10) ws 10 n (frmFAt 10).size) (insS 10 ws n) := by
  obtain ⟨t1, ht1⟩ : ∃ t, ws.getD 1 ⟨#[]⟩ = t := ⟨_, rfl⟩
  obtain ⟨t2, ht2⟩ : ∃ t, ws.getD 2 ⟨#[]⟩ = t := ⟨_, rfl⟩
  obtain ⟨t3, ht3⟩ : ∃ t, ws.getD 3 ⟨#[]⟩ = t := ⟨_, rfl⟩
  obtain ⟨t4, ht4⟩ : ∃ t, ws.getD 4 ⟨#[]⟩ = t := ⟨_, rfl⟩
  have hP : ((List.range 4).all fun j => fldB (byt (frmFAt 10) j) (ws.getD (j + 1) ⟨#[]⟩) (foldI (frmFAt 10) ws 10 j) n) = (voB t1 && (decide (0 < idxV cndL t2) && (voB t3 && ((numB t4 && (decide (0 ≤ numV t4) && decide (numV t4 ≤ 9223372036854775807))) && true)))) := by
    rw [← ht1, ← ht2, ← ht3, ← ht4]
    first | rfl | kernel_rfl
  have hX : foldI (frmFAt 10) ws 10 4 = (⟨10, 0, 0, voR t1, voN t1, voR t3, voN t3, 0, idxV cndL t2, numV t4⟩ : Ins) := by
    rw [← ht1, ← ht2, ← ht3, ← ht4]
    first | rfl | kernel_rfl
  have hS : readS (formF 10) ws 10 4 = ((⟨10, 0, 0, rvR t1, rvN t1, rvR t3, rvN t3, 0, idxV cndL t2, numV t4⟩ : Ins), ((((true && rvB t1) && true) && rvB t3) && numB t4)) := by
    rw [← ht1, ← ht2, ← ht3, ← ht4]
    first | rfl | kernel_rfl
  have hI : insB (⟨10, 0, 0, rvR t1, rvN t1, rvR t3, rvN t3, 0, idxV cndL t2, numV t4⟩ : Ins) n = ((((((((valB (rvR t1) (rvN t1) && valB (rvR t3) (rvN t3) && rangeB (rvN t1) && rangeB (rvN t3)) && cR false (0)) && cC false (0) n) && cV true (rvR t1) (rvN t1)) && cV true (rvR t3) (rvN t3)) && cO false 10 (0)) && cQ true (idxV cndL t2)) && cT false true (numV t4)) := by first | rfl | kernel_rfl
  rw [show (frmFAt 10).size = 4 from by first | rfl | kernel_rfl, readI_fold, hP, hX]
  unfold insS
  rw [show (formF 10).size = 4 from by first | rfl | kernel_rfl, hS]
  dsimp only
  rw [hI]
  simp only [rv_r t1, rv_n t1, rv_b t1, (vo_val t1).1, (vo_val t1).2, q_eq t2, rv_r t3, rv_n t3, rv_b t3, (vo_val t3).1, (vo_val t3).2, cT_eqN t4, show valB 0 0 = true from rfl, show rangeB 0 = true from rfl, show cR false 0 = true from rfl, show cC false 0 (n : Int) = true from rfl, show cV false 0 0 = true from rfl, show cO false 10 0 = true from rfl, show cQ false 0 = true from rfl, show cT false false 0 = true from rfl, cV, Bool.true_or, Bool.and_true, Bool.true_and]
  refine same_of ?_ ?_
  · first
    | rfl
    | (
      generalize voB t1 = a0
      generalize cQ true (idxV cndL t2) = a1
      generalize voB t3 = a2
      generalize numB t4 = a3
      generalize cT false true (numV t4) = a4
      cases a0 <;> cases a1 <;> cases a2 <;> cases a3 <;> cases a4 <;> rfl)
  · intro _; rfl
theorem same11 (ws : List ByteArray) (n : Nat) (hn : n ≤ 8) : SameI (readI (frmFAt 11) ws 11 n (frmFAt 11).size) (insS 11 ws n) := by
  obtain ⟨t1, ht1⟩ : ∃ t, ws.getD 1 ⟨#[]⟩ = t := ⟨_, rfl⟩
  obtain ⟨t2, ht2⟩ : ∃ t, ws.getD 2 ⟨#[]⟩ = t := ⟨_, rfl⟩
  have hP : ((List.range 2).all fun j => fldB (byt (frmFAt 11) j) (ws.getD (j + 1) ⟨#[]⟩) (foldI (frmFAt 11) ws 11 j) n) = ((numB t1 && (decide (0 ≤ numV t1) && decide (numV t1 ≤ 99))) && (voB t2 && true)) := by
    rw [← ht1, ← ht2]
    first | rfl | kernel_rfl
  have hX : foldI (frmFAt 11) ws 11 2 = (⟨11, 0, 0, voR t2, voN t2, 0, 0, 0, 0, numV t1⟩ : Ins) := by
    rw [← ht1, ← ht2]
    first | rfl | kernel_rfl
  have hS : readS (formF 11) ws 11 2 = ((⟨11, 0, 0, rvR t2, rvN t2, 0, 0, 0, 0, numV t1⟩ : Ins), ((true && numB t1) && rvB t2)) := by
    rw [← ht1, ← ht2]
    first | rfl | kernel_rfl
  have hI : insB (⟨11, 0, 0, rvR t2, rvN t2, 0, 0, 0, 0, numV t1⟩ : Ins) n = ((((((((valB (rvR t2) (rvN t2) && valB (0) (0) && rangeB (rvN t2) && rangeB (0)) && cR false (0)) && cC false (0) n) && cV true (rvR t2) (rvN t2)) && cV false (0) (0)) && cO false 11 (0)) && cQ false (0)) && cT true false (numV t1)) := by first | rfl | kernel_rfl
  rw [show (frmFAt 11).size = 2 from by first | rfl | kernel_rfl, readI_fold, hP, hX]
  unfold insS
  rw [show (formF 11).size = 2 from by first | rfl | kernel_rfl, hS]
  dsimp only
  rw [hI]
  simp only [cT_eqM t1 false, rv_r t2, rv_n t2, rv_b t2, (vo_val t2).1, (vo_val t2).2, show valB 0 0 = true from rfl, show rangeB 0 = true from rfl, show cR false 0 = true from rfl, show cC false 0 (n : Int) = true from rfl, show cV false 0 0 = true from rfl, show cO false 11 0 = true from rfl, show cQ false 0 = true from rfl, show cT false false 0 = true from rfl, cV, Bool.true_or, Bool.and_true, Bool.true_and]
  refine same_of ?_ ?_
  · first
    | rfl
    | (
      generalize numB t1 = a0
      generalize cT true false (numV t1) = a1
      generalize voB t2 = a2
      cases a0 <;> cases a1 <;> cases a2 <;> rfl)
  · intro _; rfl
theorem same12 (ws : List ByteArray) (n : Nat) (hn : n ≤ 8) : SameI (readI (frmFAt 12) ws 12 n (frmFAt 12).size) (insS 12 ws n) := by
  obtain ⟨t1, ht1⟩ : ∃ t, ws.getD 1 ⟨#[]⟩ = t := ⟨_, rfl⟩
  have hP : ((List.range 1).all fun j => fldB (byt (frmFAt 12) j) (ws.getD (j + 1) ⟨#[]⟩) (foldI (frmFAt 12) ws 12 j) n) = (voB t1 && true) := by
    rw [← ht1]
    first | rfl | kernel_rfl
  have hX : foldI (frmFAt 12) ws 12 1 = (⟨12, 0, 0, voR t1, voN t1, 0, 0, 0, 0, 0⟩ : Ins) := by
    rw [← ht1]
    first | rfl | kernel_rfl
  have hS : readS (formF 12) ws 12 1 = ((⟨12, 0, 0, rvR t1, rvN t1, 0, 0, 0, 0, 0⟩ : Ins), (true && rvB t1)) := by
    rw [← ht1]
    first | rfl | kernel_rfl
  have hI : insB (⟨12, 0, 0, rvR t1, rvN t1, 0, 0, 0, 0, 0⟩ : Ins) n = ((((((((valB (rvR t1) (rvN t1) && valB (0) (0) && rangeB (rvN t1) && rangeB (0)) && cR false (0)) && cC false (0) n) && cV true (rvR t1) (rvN t1)) && cV false (0) (0)) && cO false 12 (0)) && cQ false (0)) && cT false false (0)) := by first | rfl | kernel_rfl
  rw [show (frmFAt 12).size = 1 from by first | rfl | kernel_rfl, readI_fold, hP, hX]
  unfold insS
  rw [show (formF 12).size = 1 from by first | rfl | kernel_rfl, hS]
  dsimp only
  rw [hI]
  simp only [rv_r t1, rv_n t1, rv_b t1, (vo_val t1).1, (vo_val t1).2, show valB 0 0 = true from rfl, show rangeB 0 = true from rfl, show cR false 0 = true from rfl, show cC false 0 (n : Int) = true from rfl, show cV false 0 0 = true from rfl, show cO false 12 0 = true from rfl, show cQ false 0 = true from rfl, show cT false false 0 = true from rfl, cV, Bool.true_or, Bool.and_true, Bool.true_and]
  refine same_of ?_ ?_
  · first
    | rfl
    | (
      generalize voB t1 = a0
      cases a0 <;> rfl)
  · intro _; rfl
theorem same13 (ws : List ByteArray) (n : Nat) (hn : n ≤ 8) : SameI (readI (frmFAt 13) ws 13 n (frmFAt 13).size) (insS 13 ws n) := by
  obtain ⟨t1, ht1⟩ : ∃ t, ws.getD 1 ⟨#[]⟩ = t := ⟨_, rfl⟩
  obtain ⟨t2, ht2⟩ : ∃ t, ws.getD 2 ⟨#[]⟩ = t := ⟨_, rfl⟩
  obtain ⟨t3, ht3⟩ : ∃ t, ws.getD 3 ⟨#[]⟩ = t := ⟨_, rfl⟩
  have hP : ((List.range 3).all fun j => fldB (byt (frmFAt 13) j) (ws.getD (j + 1) ⟨#[]⟩) (foldI (frmFAt 13) ws 13 j) n) = (voB t1 && (decide (0 < idxV cndL t2) && (voB t3 && true))) := by
    rw [← ht1, ← ht2, ← ht3]
    first | rfl | kernel_rfl
  have hX : foldI (frmFAt 13) ws 13 3 = (⟨13, 0, 0, voR t1, voN t1, voR t3, voN t3, 0, idxV cndL t2, 0⟩ : Ins) := by
    rw [← ht1, ← ht2, ← ht3]
    first | rfl | kernel_rfl
  have hS : readS (formF 13) ws 13 3 = ((⟨13, 0, 0, rvR t1, rvN t1, rvR t3, rvN t3, 0, idxV cndL t2, 0⟩ : Ins), (((true && rvB t1) && true) && rvB t3)) := by
    rw [← ht1, ← ht2, ← ht3]
    first | rfl | kernel_rfl
  have hI : insB (⟨13, 0, 0, rvR t1, rvN t1, rvR t3, rvN t3, 0, idxV cndL t2, 0⟩ : Ins) n = ((((((((valB (rvR t1) (rvN t1) && valB (rvR t3) (rvN t3) && rangeB (rvN t1) && rangeB (rvN t3)) && cR false (0)) && cC false (0) n) && cV true (rvR t1) (rvN t1)) && cV true (rvR t3) (rvN t3)) && cO false 13 (0)) && cQ true (idxV cndL t2)) && cT false false (0)) := by first | rfl | kernel_rfl
  rw [show (frmFAt 13).size = 3 from by first | rfl | kernel_rfl, readI_fold, hP, hX]
  unfold insS
  rw [show (formF 13).size = 3 from by first | rfl | kernel_rfl, hS]
  dsimp only
  rw [hI]
  simp only [rv_r t1, rv_n t1, rv_b t1, (vo_val t1).1, (vo_val t1).2, q_eq t2, rv_r t3, rv_n t3, rv_b t3, (vo_val t3).1, (vo_val t3).2, show valB 0 0 = true from rfl, show rangeB 0 = true from rfl, show cR false 0 = true from rfl, show cC false 0 (n : Int) = true from rfl, show cV false 0 0 = true from rfl, show cO false 13 0 = true from rfl, show cQ false 0 = true from rfl, show cT false false 0 = true from rfl, cV, Bool.true_or, Bool.and_true, Bool.true_and]
  refine same_of ?_ ?_
  · first
    | rfl
    | (
      generalize voB t1 = a0
      generalize cQ true (idxV cndL t2) = a1
      generalize voB t3 = a2
      cases a0 <;> cases a1 <;> cases a2 <;> rfl)
  · intro _; rfl
theorem frm_form {k : Nat} (h1 : 1 ≤ k) (h2 : k ≤ 13) : (frmFAt k).size = (formF (k : Int)).size ∧ frmWAt k = formW (k : Int) := by
  rcases (by omega : k = 1 ∨ k = 2 ∨ k = 3 ∨ k = 4 ∨ k = 5 ∨ k = 6 ∨ k = 7 ∨ k = 8 ∨ k = 9 ∨ k = 10 ∨ k = 11 ∨ k = 12 ∨ k = 13) with rfl | rfl | rfl | rfl | rfl | rfl | rfl | rfl | rfl | rfl | rfl | rfl | rfl <;> exact ⟨rfl, rfl⟩
theorem same_ins {k : Nat} (h1 : 1 ≤ k) (h2 : k ≤ 13) (ws : List ByteArray) (n : Nat) (hn : n ≤ 8) : SameI (readI (frmFAt k) ws (k : Int) n (frmFAt k).size) (insS (k : Int) ws n) := by
  rcases (by omega : k = 1 ∨ k = 2 ∨ k = 3 ∨ k = 4 ∨ k = 5 ∨ k = 6 ∨ k = 7 ∨ k = 8 ∨ k = 9 ∨ k = 10 ∨ k = 11 ∨ k = 12 ∨ k = 13) with rfl | rfl | rfl | rfl | rfl | rfl | rfl | rfl | rfl | rfl | rfl | rfl | rfl
  · exact same1 ws n hn
  · exact same2 ws n hn
  · exact same3 ws n hn
  · exact same4 ws n hn
  · exact same5 ws n hn
  · exact same6 ws n hn
  · exact same7 ws n hn
  · exact same8 ws n hn
  · exact same9 ws n hn
  · exact same10 ws n hn
  · exact same11 ws n hn
  · exact same12 ws n hn
  · exact same13 ws n hn
/-- The word names the operation k. -/
theorem insI_at {ws : List ByteArray} {n k : Nat} (h : idxV frmW (ws.getD 0 ⟨#[]⟩) = (k : Int)) : insI ws n = if ws.length ≠ 1 + (frmFAt k).size then none else readI (frmFAt k) ws (k : Int) n (frmFAt k).size := by
  unfold insI
  rw [h, if_neg (by omega), Int.toNat_natCast]
theorem insI_no {ws : List ByteArray} {n : Nat} (h : idxV frmW (ws.getD 0 ⟨#[]⟩) < 0) : insI ws n = none := by
  unfold insI
  rw [if_pos h]
end Go.Proofs.YthopmdfichfhdaaGreatDoor
