/-
  An instruction's words, written and read again. No statement of the seat is proved here.
-/
import Derived.Test.YthopmdfichfhdaaGreatDoorT2
import Derived.Test.YthopmdfichfhdaaGreatDoorS2
namespace Go.Proofs.YthopmdfichfhdaaGreatDoor
open Go.ChangeShapes Go.WideShapes Go.ChangeAt Go.RowKit
set_option linter.unusedVariables false
set_option linter.unusedSimpArgs false

def valT (r n : Int) : List UInt8 := if r ≠ 0 then 114 :: Lib.itoa r else Lib.itoa n
def wordAt (l : List ByteArray) (i : Int) : ByteArray := if 0 ≤ i ∧ i ≤ (l.length : Int) - 1 then l.getD i.toNat ⟨#[]⟩ else ⟨#[]⟩
/-- A field's word, as the program writes it. -/
def fieldT (x : Ins) (c : Nat) : List UInt8 :=
  if c = 82 then 114 :: Lib.itoa x.reg else if c = 67 then 99 :: Lib.itoa x.cell else if c = 65 then valT x.ar x.an else if c = 66 then valT x.br x.bn else if c = 79 then (wordAt ordL x.ord).data.toList else if c = 63 then (wordAt cndL x.cnd).data.toList else Lib.itoa x.tgt
/-- An instruction's words; none where it has no such operation. -/
def wordsI (x : Ins) : List (List UInt8) := if 1 ≤ x.op ∧ x.op ≤ 13 then (frmWAt x.op.toNat).data.toList :: (List.range (frmFAt x.op.toNat).size).map (fun j => fieldT x (byt (frmFAt x.op.toNat) j)) else []
theorem val_back {r n : Int} (hv : valB r n = true) (hn : rangeB n = true) : voB (mkT (valT r n)) = true ∧ voR (mkT (valT r n)) = r ∧ voN (mkT (valT r n)) = n := by
  unfold valB at hv
  simp only [Bool.or_eq_true, Bool.and_eq_true, decide_eq_true_eq] at hv
  by_cases h0 : r = 0
  · subst h0
    have hb : nbB (itoaT n) 114 1 6 = false := by
      unfold nbB
      rw [beg_no]
      rfl
    obtain ⟨q1, q2⟩ := itoa_read hn
    have hs : mkT (valT 0 n) = itoaT n := by unfold valT; rw [if_neg (by decide)]; rfl
    rw [hs]
    unfold voB voR voN
    rw [hb]
    simp only [Bool.false_eq_true, if_false]
    exact ⟨q1, trivial, q2⟩
  · rcases hv with hv | ⟨⟨h1, h6⟩, hz⟩
    · exact absurd hv h0
    · have hr : rangeB r = true := by unfold rangeB; rw [decide_eq_true (by omega), decide_eq_true (by omega)]; rfl
      obtain ⟨q1', q2'⟩ := nb_lett 114 hr h1 h6
      rw [show (114 : UInt8).toNat = 114 from rfl] at q1' q2'
      have hs : mkT (valT r n) = mkT (114 :: Lib.itoa r) := by unfold valT; rw [if_pos h0]
      rw [hs]
      unfold voB voR voN
      rw [q1']
      simp only [if_true]
      exact ⟨trivial, q2', hz.symm⟩
theorem ord_back {o : Int} (h1 : 1 ≤ o) (h2 : o ≤ 5) : idxV ordL (mkT (wordAt ordL o).data.toList) = o := by
  rcases five h1 h2 with rfl | rfl | rfl | rfl | rfl <;> kernel_rfl
theorem cnd_back {o : Int} (h1 : 1 ≤ o) (h2 : o ≤ 4) : idxV cndL (mkT (wordAt cndL o).data.toList) = o := by
  rcases (by omega : o = 1 ∨ o = 2 ∨ o = 3 ∨ o = 4) with rfl | rfl | rfl | rfl <;> kernel_rfl
theorem reg_back {r : Int} (h : cR true r = true) : nbB (mkT (114 :: Lib.itoa r)) 114 1 6 = true ∧ numV (restT (mkT (114 :: Lib.itoa r)) 114) = r := by
  unfold cR at h
  simp only [if_true, Bool.and_eq_true, decide_eq_true_eq] at h
  have hr : rangeB r = true := by unfold rangeB; rw [decide_eq_true (by omega), decide_eq_true (by omega)]; rfl
  have q := nb_lett 114 hr h.1 h.2
  rw [show (114 : UInt8).toNat = 114 from rfl] at q
  exact q
theorem cell_back {r : Int} {n : Nat} (hn : n ≤ 8) (h : cC true r n = true) : nbB (mkT (99 :: Lib.itoa r)) 99 0 ((n : Int) - 1) = true ∧ numV (restT (mkT (99 :: Lib.itoa r)) 99) = r := by
  unfold cC at h
  simp only [if_true, Bool.and_eq_true, decide_eq_true_eq] at h
  have hr : rangeB r = true := by unfold rangeB; rw [decide_eq_true (by omega), decide_eq_true (by omega)]; rfl
  have q := nb_lett (lo := 0) (hi := (n : Int) - 1) 99 hr h.1 (by omega)
  rw [show (99 : UInt8).toNat = 99 from rfl] at q
  exact q
theorem ordB_range {op o : Int} (h : ordB op o = true) : 1 ≤ o ∧ o ≤ 5 := by
  unfold ordB at h
  simp only [Bool.and_eq_true, decide_eq_true_eq] at h
  exact ⟨h.1.1, h.1.2⟩
theorem cnd_range {q : Int} (h : cQ true q = true) : 1 ≤ q ∧ q ≤ 4 := by
  unfold cQ at h
  simpa only [if_true, Bool.and_eq_true, decide_eq_true_eq] using h
theorem back1 (ce rg ar an br bn od cq tg : Int) (n : Nat) (hn : n ≤ 8) (ht : rangeB tg = true) (h : insB (⟨1, ce, rg, ar, an, br, bn, od, cq, tg⟩ : Ins) n = true) : insI ((wordsI ⟨1, ce, rg, ar, an, br, bn, od, cq, tg⟩).map mkT) n = some ⟨1, ce, rg, ar, an, br, bn, od, cq, tg⟩ := by
  have hI : insB (⟨1, ce, rg, ar, an, br, bn, od, cq, tg⟩ : Ins) n = ((((((((valB ar an && valB br bn && rangeB an && rangeB bn) && cR true rg) && cC true ce n) && cV false ar an) && cV false br bn) && cO true 1 od) && cQ false cq) && cT false false tg) := by first | rfl | kernel_rfl
  rw [hI] at h
  simp only [Bool.and_eq_true] at h
  obtain ⟨⟨⟨⟨⟨⟨⟨⟨⟨⟨hva, hvb⟩, hra⟩, hrb⟩, hR⟩, hC⟩, hA⟩, hB⟩, hO⟩, hQ⟩, hT⟩ := h
  have zA : ar = 0 ∧ an = 0 := by simpa [cV] using hA
  have zB : br = 0 ∧ bn = 0 := by simpa [cV] using hB
  have zQ : cq = 0 := by simpa [cQ] using hQ
  have zT : tg = 0 := by simpa [cT] using hT
  have hw : (wordsI ⟨1, ce, rg, ar, an, br, bn, od, cq, tg⟩).map mkT = [frmWAt 1, mkT (114 :: Lib.itoa rg), mkT (99 :: Lib.itoa ce), mkT (wordAt ordL od).data.toList] := by kernel_rfl
  have hid : idxV frmW (([frmWAt 1, mkT (114 :: Lib.itoa rg), mkT (99 :: Lib.itoa ce), mkT (wordAt ordL od).data.toList] : List ByteArray).getD 0 ⟨#[]⟩) = ((1 : Nat) : Int) := by kernel_rfl
  have hsz : (frmFAt 1).size = 3 := by first | rfl | kernel_rfl
  rw [hw, insI_at hid, hsz, if_neg (by simp), readI_fold]
  clear hw hid hI
  obtain ⟨r1, r2⟩ := reg_back hR
  obtain ⟨c1, c2⟩ := cell_back hn hC
  have hOB : ordB 1 od = true := hO
  have o2 := ord_back (ordB_range hOB).1 (ordB_range hOB).2
  have o1 : ordB 1 (idxV ordL (mkT (wordAt ordL od).data.toList)) = true := by rw [o2]; exact hOB
  generalize mkT (114 :: Lib.itoa rg) = w1 at r1 r2 ⊢
  generalize mkT (99 :: Lib.itoa ce) = w2 at c1 c2 ⊢
  generalize mkT (wordAt ordL od).data.toList = w3 at o1 o2 ⊢
  have hP : ((List.range 3).all fun j => fldB (byt (frmFAt 1) j) (([frmWAt 1, w1, w2, w3] : List ByteArray).getD (j + 1) ⟨#[]⟩) (foldI (frmFAt 1) [frmWAt 1, w1, w2, w3] ((1 : Nat) : Int) j) n) = (nbB (w1) 114 1 6 && (nbB (w2) 99 0 ((n : Int) - 1) && (ordB 1 (idxV ordL (w3)) && true))) := by first | rfl | kernel_rfl
  have hX : foldI (frmFAt 1) [frmWAt 1, w1, w2, w3] ((1 : Nat) : Int) 3 = (⟨1, numV (restT (w2) 99), numV (restT (w1) 114), 0, 0, 0, 0, idxV ordL (w3), 0, 0⟩ : Ins) := by first | rfl | kernel_rfl
  rw [hP, hX, r1, c1, o1]
  simp only [Bool.and_true, if_true]
  rw [r2, c2, o2]
  simp only [zA.1, zA.2, zB.1, zB.2, zQ, zT]
theorem back2 (ce rg ar an br bn od cq tg : Int) (n : Nat) (hn : n ≤ 8) (ht : rangeB tg = true) (h : insB (⟨2, ce, rg, ar, an, br, bn, od, cq, tg⟩ : Ins) n = true) : insI ((wordsI ⟨2, ce, rg, ar, an, br, bn, od, cq, tg⟩).map mkT) n = some ⟨2, ce, rg, ar, an, br, bn, od, cq, tg⟩ := by
  have hI : insB (⟨2, ce, rg, ar, an, br, bn, od, cq, tg⟩ : Ins) n = ((((((((valB ar an && valB br bn && rangeB an && rangeB bn) && cR false rg) && cC true ce n) && cV true ar an) && cV false br bn) && cO true 2 od) && cQ false cq) && cT false false tg) := by first | rfl | kernel_rfl
  rw [hI] at h
  simp only [Bool.and_eq_true] at h
  obtain ⟨⟨⟨⟨⟨⟨⟨⟨⟨⟨hva, hvb⟩, hra⟩, hrb⟩, hR⟩, hC⟩, hA⟩, hB⟩, hO⟩, hQ⟩, hT⟩ := h
  have zR : rg = 0 := by simpa [cR] using hR
  have zB : br = 0 ∧ bn = 0 := by simpa [cV] using hB
  have zQ : cq = 0 := by simpa [cQ] using hQ
  have zT : tg = 0 := by simpa [cT] using hT
  have hw : (wordsI ⟨2, ce, rg, ar, an, br, bn, od, cq, tg⟩).map mkT = [frmWAt 2, mkT (99 :: Lib.itoa ce), mkT (valT ar an), mkT (wordAt ordL od).data.toList] := by kernel_rfl
  have hid : idxV frmW (([frmWAt 2, mkT (99 :: Lib.itoa ce), mkT (valT ar an), mkT (wordAt ordL od).data.toList] : List ByteArray).getD 0 ⟨#[]⟩) = ((2 : Nat) : Int) := by kernel_rfl
  have hsz : (frmFAt 2).size = 3 := by first | rfl | kernel_rfl
  rw [hw, insI_at hid, hsz, if_neg (by simp), readI_fold]
  clear hw hid hI
  obtain ⟨c1, c2⟩ := cell_back hn hC
  obtain ⟨a1, a2, a3⟩ := val_back hva hra
  have hOB : ordB 2 od = true := hO
  have o2 := ord_back (ordB_range hOB).1 (ordB_range hOB).2
  have o1 : ordB 2 (idxV ordL (mkT (wordAt ordL od).data.toList)) = true := by rw [o2]; exact hOB
  generalize mkT (99 :: Lib.itoa ce) = w1 at c1 c2 ⊢
  generalize mkT (valT ar an) = w2 at a1 a2 a3 ⊢
  generalize mkT (wordAt ordL od).data.toList = w3 at o1 o2 ⊢
  have hP : ((List.range 3).all fun j => fldB (byt (frmFAt 2) j) (([frmWAt 2, w1, w2, w3] : List ByteArray).getD (j + 1) ⟨#[]⟩) (foldI (frmFAt 2) [frmWAt 2, w1, w2, w3] ((2 : Nat) : Int) j) n) = (nbB (w1) 99 0 ((n : Int) - 1) && (voB (w2) && (ordB 2 (idxV ordL (w3)) && true))) := by first | rfl | kernel_rfl
  have hX : foldI (frmFAt 2) [frmWAt 2, w1, w2, w3] ((2 : Nat) : Int) 3 = (⟨2, numV (restT (w1) 99), 0, voR (w2), voN (w2), 0, 0, idxV ordL (w3), 0, 0⟩ : Ins) := by first | rfl | kernel_rfl
  rw [hP, hX, c1, a1, o1]
  simp only [Bool.and_true, if_true]
  rw [c2, a2, a3, o2]
  simp only [zR, zB.1, zB.2, zQ, zT]
theorem back3 (ce rg ar an br bn od cq tg : Int) (n : Nat) (hn : n ≤ 8) (ht : rangeB tg = true) (h : insB (⟨3, ce, rg, ar, an, br, bn, od, cq, tg⟩ : Ins) n = true) : insI ((wordsI ⟨3, ce, rg, ar, an, br, bn, od, cq, tg⟩).map mkT) n = some ⟨3, ce, rg, ar, an, br, bn, od, cq, tg⟩ := by
  have hI : insB (⟨3, ce, rg, ar, an, br, bn, od, cq, tg⟩ : Ins) n = ((((((((valB ar an && valB br bn && rangeB an && rangeB bn) && cR true rg) && cC true ce n) && cV true ar an) && cV false br bn) && cO true 3 od) && cQ false cq) && cT false false tg) := by first | rfl | kernel_rfl
  rw [hI] at h
  simp only [Bool.and_eq_true] at h
  obtain ⟨⟨⟨⟨⟨⟨⟨⟨⟨⟨hva, hvb⟩, hra⟩, hrb⟩, hR⟩, hC⟩, hA⟩, hB⟩, hO⟩, hQ⟩, hT⟩ := h
  have zB : br = 0 ∧ bn = 0 := by simpa [cV] using hB
  have zQ : cq = 0 := by simpa [cQ] using hQ
  have zT : tg = 0 := by simpa [cT] using hT
  have hw : (wordsI ⟨3, ce, rg, ar, an, br, bn, od, cq, tg⟩).map mkT = [frmWAt 3, mkT (114 :: Lib.itoa rg), mkT (99 :: Lib.itoa ce), mkT (valT ar an), mkT (wordAt ordL od).data.toList] := by kernel_rfl
  have hid : idxV frmW (([frmWAt 3, mkT (114 :: Lib.itoa rg), mkT (99 :: Lib.itoa ce), mkT (valT ar an), mkT (wordAt ordL od).data.toList] : List ByteArray).getD 0 ⟨#[]⟩) = ((3 : Nat) : Int) := by kernel_rfl
  have hsz : (frmFAt 3).size = 4 := by first | rfl | kernel_rfl
  rw [hw, insI_at hid, hsz, if_neg (by simp), readI_fold]
  clear hw hid hI
  obtain ⟨r1, r2⟩ := reg_back hR
  obtain ⟨c1, c2⟩ := cell_back hn hC
  obtain ⟨a1, a2, a3⟩ := val_back hva hra
  have hOB : ordB 3 od = true := hO
  have o2 := ord_back (ordB_range hOB).1 (ordB_range hOB).2
  have o1 : ordB 3 (idxV ordL (mkT (wordAt ordL od).data.toList)) = true := by rw [o2]; exact hOB
  generalize mkT (114 :: Lib.itoa rg) = w1 at r1 r2 ⊢
  generalize mkT (99 :: Lib.itoa ce) = w2 at c1 c2 ⊢
  generalize mkT (valT ar an) = w3 at a1 a2 a3 ⊢
  generalize mkT (wordAt ordL od).data.toList = w4 at o1 o2 ⊢
  have hP : ((List.range 4).all fun j => fldB (byt (frmFAt 3) j) (([frmWAt 3, w1, w2, w3, w4] : List ByteArray).getD (j + 1) ⟨#[]⟩) (foldI (frmFAt 3) [frmWAt 3, w1, w2, w3, w4] ((3 : Nat) : Int) j) n) = (nbB (w1) 114 1 6 && (nbB (w2) 99 0 ((n : Int) - 1) && (voB (w3) && (ordB 3 (idxV ordL (w4)) && true)))) := by first | rfl | kernel_rfl
  have hX : foldI (frmFAt 3) [frmWAt 3, w1, w2, w3, w4] ((3 : Nat) : Int) 4 = (⟨3, numV (restT (w2) 99), numV (restT (w1) 114), voR (w3), voN (w3), 0, 0, idxV ordL (w4), 0, 0⟩ : Ins) := by first | rfl | kernel_rfl
  rw [hP, hX, r1, c1, a1, o1]
  simp only [Bool.and_true, if_true]
  rw [r2, c2, a2, a3, o2]
  simp only [zB.1, zB.2, zQ, zT]
theorem back4 (ce rg ar an br bn od cq tg : Int) (n : Nat) (hn : n ≤ 8) (ht : rangeB tg = true) (h : insB (⟨4, ce, rg, ar, an, br, bn, od, cq, tg⟩ : Ins) n = true) : insI ((wordsI ⟨4, ce, rg, ar, an, br, bn, od, cq, tg⟩).map mkT) n = some ⟨4, ce, rg, ar, an, br, bn, od, cq, tg⟩ := by
  have hI : insB (⟨4, ce, rg, ar, an, br, bn, od, cq, tg⟩ : Ins) n = ((((((((valB ar an && valB br bn && rangeB an && rangeB bn) && cR true rg) && cC true ce n) && cV true ar an) && cV false br bn) && cO true 4 od) && cQ false cq) && cT false false tg) := by first | rfl | kernel_rfl
  rw [hI] at h
  simp only [Bool.and_eq_true] at h
  obtain ⟨⟨⟨⟨⟨⟨⟨⟨⟨⟨hva, hvb⟩, hra⟩, hrb⟩, hR⟩, hC⟩, hA⟩, hB⟩, hO⟩, hQ⟩, hT⟩ := h
  have zB : br = 0 ∧ bn = 0 := by simpa [cV] using hB
  have zQ : cq = 0 := by simpa [cQ] using hQ
  have zT : tg = 0 := by simpa [cT] using hT
  have hw : (wordsI ⟨4, ce, rg, ar, an, br, bn, od, cq, tg⟩).map mkT = [frmWAt 4, mkT (114 :: Lib.itoa rg), mkT (99 :: Lib.itoa ce), mkT (valT ar an), mkT (wordAt ordL od).data.toList] := by kernel_rfl
  have hid : idxV frmW (([frmWAt 4, mkT (114 :: Lib.itoa rg), mkT (99 :: Lib.itoa ce), mkT (valT ar an), mkT (wordAt ordL od).data.toList] : List ByteArray).getD 0 ⟨#[]⟩) = ((4 : Nat) : Int) := by kernel_rfl
  have hsz : (frmFAt 4).size = 4 := by first | rfl | kernel_rfl
  rw [hw, insI_at hid, hsz, if_neg (by simp), readI_fold]
  clear hw hid hI
  obtain ⟨r1, r2⟩ := reg_back hR
  obtain ⟨c1, c2⟩ := cell_back hn hC
  obtain ⟨a1, a2, a3⟩ := val_back hva hra
  have hOB : ordB 4 od = true := hO
  have o2 := ord_back (ordB_range hOB).1 (ordB_range hOB).2
  have o1 : ordB 4 (idxV ordL (mkT (wordAt ordL od).data.toList)) = true := by rw [o2]; exact hOB
  generalize mkT (114 :: Lib.itoa rg) = w1 at r1 r2 ⊢
  generalize mkT (99 :: Lib.itoa ce) = w2 at c1 c2 ⊢
  generalize mkT (valT ar an) = w3 at a1 a2 a3 ⊢
  generalize mkT (wordAt ordL od).data.toList = w4 at o1 o2 ⊢
  have hP : ((List.range 4).all fun j => fldB (byt (frmFAt 4) j) (([frmWAt 4, w1, w2, w3, w4] : List ByteArray).getD (j + 1) ⟨#[]⟩) (foldI (frmFAt 4) [frmWAt 4, w1, w2, w3, w4] ((4 : Nat) : Int) j) n) = (nbB (w1) 114 1 6 && (nbB (w2) 99 0 ((n : Int) - 1) && (voB (w3) && (ordB 4 (idxV ordL (w4)) && true)))) := by first | rfl | kernel_rfl
  have hX : foldI (frmFAt 4) [frmWAt 4, w1, w2, w3, w4] ((4 : Nat) : Int) 4 = (⟨4, numV (restT (w2) 99), numV (restT (w1) 114), voR (w3), voN (w3), 0, 0, idxV ordL (w4), 0, 0⟩ : Ins) := by first | rfl | kernel_rfl
  rw [hP, hX, r1, c1, a1, o1]
  simp only [Bool.and_true, if_true]
  rw [r2, c2, a2, a3, o2]
  simp only [zB.1, zB.2, zQ, zT]
theorem back5 (ce rg ar an br bn od cq tg : Int) (n : Nat) (hn : n ≤ 8) (ht : rangeB tg = true) (h : insB (⟨5, ce, rg, ar, an, br, bn, od, cq, tg⟩ : Ins) n = true) : insI ((wordsI ⟨5, ce, rg, ar, an, br, bn, od, cq, tg⟩).map mkT) n = some ⟨5, ce, rg, ar, an, br, bn, od, cq, tg⟩ := by
  have hI : insB (⟨5, ce, rg, ar, an, br, bn, od, cq, tg⟩ : Ins) n = ((((((((valB ar an && valB br bn && rangeB an && rangeB bn) && cR true rg) && cC true ce n) && cV true ar an) && cV true br bn) && cO true 5 od) && cQ false cq) && cT false false tg) := by first | rfl | kernel_rfl
  rw [hI] at h
  simp only [Bool.and_eq_true] at h
  obtain ⟨⟨⟨⟨⟨⟨⟨⟨⟨⟨hva, hvb⟩, hra⟩, hrb⟩, hR⟩, hC⟩, hA⟩, hB⟩, hO⟩, hQ⟩, hT⟩ := h
  have zQ : cq = 0 := by simpa [cQ] using hQ
  have zT : tg = 0 := by simpa [cT] using hT
  have hw : (wordsI ⟨5, ce, rg, ar, an, br, bn, od, cq, tg⟩).map mkT = [frmWAt 5, mkT (114 :: Lib.itoa rg), mkT (99 :: Lib.itoa ce), mkT (valT ar an), mkT (valT br bn), mkT (wordAt ordL od).data.toList] := by kernel_rfl
  have hid : idxV frmW (([frmWAt 5, mkT (114 :: Lib.itoa rg), mkT (99 :: Lib.itoa ce), mkT (valT ar an), mkT (valT br bn), mkT (wordAt ordL od).data.toList] : List ByteArray).getD 0 ⟨#[]⟩) = ((5 : Nat) : Int) := by kernel_rfl
  have hsz : (frmFAt 5).size = 5 := by first | rfl | kernel_rfl
  rw [hw, insI_at hid, hsz, if_neg (by simp), readI_fold]
  clear hw hid hI
  obtain ⟨r1, r2⟩ := reg_back hR
  obtain ⟨c1, c2⟩ := cell_back hn hC
  obtain ⟨a1, a2, a3⟩ := val_back hva hra
  obtain ⟨v1, v2, v3⟩ := val_back hvb hrb
  have hOB : ordB 5 od = true := hO
  have o2 := ord_back (ordB_range hOB).1 (ordB_range hOB).2
  have o1 : ordB 5 (idxV ordL (mkT (wordAt ordL od).data.toList)) = true := by rw [o2]; exact hOB
  generalize mkT (114 :: Lib.itoa rg) = w1 at r1 r2 ⊢
  generalize mkT (99 :: Lib.itoa ce) = w2 at c1 c2 ⊢
  generalize mkT (valT ar an) = w3 at a1 a2 a3 ⊢
  generalize mkT (valT br bn) = w4 at v1 v2 v3 ⊢
  generalize mkT (wordAt ordL od).data.toList = w5 at o1 o2 ⊢
  have hP : ((List.range 5).all fun j => fldB (byt (frmFAt 5) j) (([frmWAt 5, w1, w2, w3, w4, w5] : List ByteArray).getD (j + 1) ⟨#[]⟩) (foldI (frmFAt 5) [frmWAt 5, w1, w2, w3, w4, w5] ((5 : Nat) : Int) j) n) = (nbB (w1) 114 1 6 && (nbB (w2) 99 0 ((n : Int) - 1) && (voB (w3) && (voB (w4) && (ordB 5 (idxV ordL (w5)) && true))))) := by first | rfl | kernel_rfl
  have hX : foldI (frmFAt 5) [frmWAt 5, w1, w2, w3, w4, w5] ((5 : Nat) : Int) 5 = (⟨5, numV (restT (w2) 99), numV (restT (w1) 114), voR (w3), voN (w3), voR (w4), voN (w4), idxV ordL (w5), 0, 0⟩ : Ins) := by first | rfl | kernel_rfl
  rw [hP, hX, r1, c1, a1, v1, o1]
  simp only [Bool.and_true, if_true]
  rw [r2, c2, a2, a3, v2, v3, o2]
  simp only [zQ, zT]
theorem back6 (ce rg ar an br bn od cq tg : Int) (n : Nat) (hn : n ≤ 8) (ht : rangeB tg = true) (h : insB (⟨6, ce, rg, ar, an, br, bn, od, cq, tg⟩ : Ins) n = true) : insI ((wordsI ⟨6, ce, rg, ar, an, br, bn, od, cq, tg⟩).map mkT) n = some ⟨6, ce, rg, ar, an, br, bn, od, cq, tg⟩ := by
  have hI : insB (⟨6, ce, rg, ar, an, br, bn, od, cq, tg⟩ : Ins) n = ((((((((valB ar an && valB br bn && rangeB an && rangeB bn) && cR true rg) && cC true ce n) && cV true ar an) && cV false br bn) && cO true 6 od) && cQ true cq) && cT false false tg) := by first | rfl | kernel_rfl
  rw [hI] at h
  simp only [Bool.and_eq_true] at h
  obtain ⟨⟨⟨⟨⟨⟨⟨⟨⟨⟨hva, hvb⟩, hra⟩, hrb⟩, hR⟩, hC⟩, hA⟩, hB⟩, hO⟩, hQ⟩, hT⟩ := h
  have zB : br = 0 ∧ bn = 0 := by simpa [cV] using hB
  have zT : tg = 0 := by simpa [cT] using hT
  have hw : (wordsI ⟨6, ce, rg, ar, an, br, bn, od, cq, tg⟩).map mkT = [frmWAt 6, mkT (114 :: Lib.itoa rg), mkT (99 :: Lib.itoa ce), mkT (wordAt cndL cq).data.toList, mkT (valT ar an), mkT (wordAt ordL od).data.toList] := by kernel_rfl
  have hid : idxV frmW (([frmWAt 6, mkT (114 :: Lib.itoa rg), mkT (99 :: Lib.itoa ce), mkT (wordAt cndL cq).data.toList, mkT (valT ar an), mkT (wordAt ordL od).data.toList] : List ByteArray).getD 0 ⟨#[]⟩) = ((6 : Nat) : Int) := by kernel_rfl
  have hsz : (frmFAt 6).size = 5 := by first | rfl | kernel_rfl
  rw [hw, insI_at hid, hsz, if_neg (by simp), readI_fold]
  clear hw hid hI
  obtain ⟨r1, r2⟩ := reg_back hR
  obtain ⟨c1, c2⟩ := cell_back hn hC
  have q2 := cnd_back (cnd_range hQ).1 (cnd_range hQ).2
  have q1 : decide (0 < idxV cndL (mkT (wordAt cndL cq).data.toList)) = true := by rw [q2]; exact decide_eq_true (by have := (cnd_range hQ).1; omega)
  obtain ⟨a1, a2, a3⟩ := val_back hva hra
  have hOB : ordB 6 od = true := hO
  have o2 := ord_back (ordB_range hOB).1 (ordB_range hOB).2
  have o1 : ordB 6 (idxV ordL (mkT (wordAt ordL od).data.toList)) = true := by rw [o2]; exact hOB
  generalize mkT (114 :: Lib.itoa rg) = w1 at r1 r2 ⊢
  generalize mkT (99 :: Lib.itoa ce) = w2 at c1 c2 ⊢
  generalize mkT (wordAt cndL cq).data.toList = w3 at q1 q2 ⊢
  generalize mkT (valT ar an) = w4 at a1 a2 a3 ⊢
  generalize mkT (wordAt ordL od).data.toList = w5 at o1 o2 ⊢
  have hP : ((List.range 5).all fun j => fldB (byt (frmFAt 6) j) (([frmWAt 6, w1, w2, w3, w4, w5] : List ByteArray).getD (j + 1) ⟨#[]⟩) (foldI (frmFAt 6) [frmWAt 6, w1, w2, w3, w4, w5] ((6 : Nat) : Int) j) n) = (nbB (w1) 114 1 6 && (nbB (w2) 99 0 ((n : Int) - 1) && (decide (0 < idxV cndL (w3)) && (voB (w4) && (ordB 6 (idxV ordL (w5)) && true))))) := by first | rfl | kernel_rfl
  have hX : foldI (frmFAt 6) [frmWAt 6, w1, w2, w3, w4, w5] ((6 : Nat) : Int) 5 = (⟨6, numV (restT (w2) 99), numV (restT (w1) 114), voR (w4), voN (w4), 0, 0, idxV ordL (w5), idxV cndL (w3), 0⟩ : Ins) := by first | rfl | kernel_rfl
  rw [hP, hX, r1, c1, q1, a1, o1]
  simp only [Bool.and_true, if_true]
  rw [r2, c2, q2, a2, a3, o2]
  simp only [zB.1, zB.2, zT]
theorem back7 (ce rg ar an br bn od cq tg : Int) (n : Nat) (hn : n ≤ 8) (ht : rangeB tg = true) (h : insB (⟨7, ce, rg, ar, an, br, bn, od, cq, tg⟩ : Ins) n = true) : insI ((wordsI ⟨7, ce, rg, ar, an, br, bn, od, cq, tg⟩).map mkT) n = some ⟨7, ce, rg, ar, an, br, bn, od, cq, tg⟩ := by
  have hI : insB (⟨7, ce, rg, ar, an, br, bn, od, cq, tg⟩ : Ins) n = ((((((((valB ar an && valB br bn && rangeB an && rangeB bn) && cR false rg) && cC false ce n) && cV false ar an) && cV false br bn) && cO false 7 od) && cQ false cq) && cT false false tg) := by first | rfl | kernel_rfl
  rw [hI] at h
  simp only [Bool.and_eq_true] at h
  obtain ⟨⟨⟨⟨⟨⟨⟨⟨⟨⟨hva, hvb⟩, hra⟩, hrb⟩, hR⟩, hC⟩, hA⟩, hB⟩, hO⟩, hQ⟩, hT⟩ := h
  have zR : rg = 0 := by simpa [cR] using hR
  have zC : ce = 0 := by simpa [cC] using hC
  have zA : ar = 0 ∧ an = 0 := by simpa [cV] using hA
  have zB : br = 0 ∧ bn = 0 := by simpa [cV] using hB
  have zO : od = 0 := by simpa [cO] using hO
  have zQ : cq = 0 := by simpa [cQ] using hQ
  have zT : tg = 0 := by simpa [cT] using hT
  have hw : (wordsI ⟨7, ce, rg, ar, an, br, bn, od, cq, tg⟩).map mkT = [frmWAt 7] := by kernel_rfl
  have hid : idxV frmW (([frmWAt 7] : List ByteArray).getD 0 ⟨#[]⟩) = ((7 : Nat) : Int) := by kernel_rfl
  have hsz : (frmFAt 7).size = 0 := by first | rfl | kernel_rfl
  rw [hw, insI_at hid, hsz, if_neg (by simp), readI_fold]
  clear hw hid hI
  have hP : ((List.range 0).all fun j => fldB (byt (frmFAt 7) j) (([frmWAt 7] : List ByteArray).getD (j + 1) ⟨#[]⟩) (foldI (frmFAt 7) [frmWAt 7] ((7 : Nat) : Int) j) n) = true := by first | rfl | kernel_rfl
  have hX : foldI (frmFAt 7) [frmWAt 7] ((7 : Nat) : Int) 0 = (⟨7, 0, 0, 0, 0, 0, 0, 0, 0, 0⟩ : Ins) := by first | rfl | kernel_rfl
  rw [hP, hX]
  simp only [Bool.and_true, if_true]
  simp only [zR, zC, zA.1, zA.2, zB.1, zB.2, zO, zQ, zT]
theorem back8 (ce rg ar an br bn od cq tg : Int) (n : Nat) (hn : n ≤ 8) (ht : rangeB tg = true) (h : insB (⟨8, ce, rg, ar, an, br, bn, od, cq, tg⟩ : Ins) n = true) : insI ((wordsI ⟨8, ce, rg, ar, an, br, bn, od, cq, tg⟩).map mkT) n = some ⟨8, ce, rg, ar, an, br, bn, od, cq, tg⟩ := by
  have hI : insB (⟨8, ce, rg, ar, an, br, bn, od, cq, tg⟩ : Ins) n = ((((((((valB ar an && valB br bn && rangeB an && rangeB bn) && cR true rg) && cC false ce n) && cV true ar an) && cV false br bn) && cO false 8 od) && cQ false cq) && cT false false tg) := by first | rfl | kernel_rfl
  rw [hI] at h
  simp only [Bool.and_eq_true] at h
  obtain ⟨⟨⟨⟨⟨⟨⟨⟨⟨⟨hva, hvb⟩, hra⟩, hrb⟩, hR⟩, hC⟩, hA⟩, hB⟩, hO⟩, hQ⟩, hT⟩ := h
  have zC : ce = 0 := by simpa [cC] using hC
  have zB : br = 0 ∧ bn = 0 := by simpa [cV] using hB
  have zO : od = 0 := by simpa [cO] using hO
  have zQ : cq = 0 := by simpa [cQ] using hQ
  have zT : tg = 0 := by simpa [cT] using hT
  have hw : (wordsI ⟨8, ce, rg, ar, an, br, bn, od, cq, tg⟩).map mkT = [frmWAt 8, mkT (114 :: Lib.itoa rg), mkT (valT ar an)] := by kernel_rfl
  have hid : idxV frmW (([frmWAt 8, mkT (114 :: Lib.itoa rg), mkT (valT ar an)] : List ByteArray).getD 0 ⟨#[]⟩) = ((8 : Nat) : Int) := by kernel_rfl
  have hsz : (frmFAt 8).size = 2 := by first | rfl | kernel_rfl
  rw [hw, insI_at hid, hsz, if_neg (by simp), readI_fold]
  clear hw hid hI
  obtain ⟨r1, r2⟩ := reg_back hR
  obtain ⟨a1, a2, a3⟩ := val_back hva hra
  generalize mkT (114 :: Lib.itoa rg) = w1 at r1 r2 ⊢
  generalize mkT (valT ar an) = w2 at a1 a2 a3 ⊢
  have hP : ((List.range 2).all fun j => fldB (byt (frmFAt 8) j) (([frmWAt 8, w1, w2] : List ByteArray).getD (j + 1) ⟨#[]⟩) (foldI (frmFAt 8) [frmWAt 8, w1, w2] ((8 : Nat) : Int) j) n) = (nbB (w1) 114 1 6 && (voB (w2) && true)) := by first | rfl | kernel_rfl
  have hX : foldI (frmFAt 8) [frmWAt 8, w1, w2] ((8 : Nat) : Int) 2 = (⟨8, 0, numV (restT (w1) 114), voR (w2), voN (w2), 0, 0, 0, 0, 0⟩ : Ins) := by first | rfl | kernel_rfl
  rw [hP, hX, r1, a1]
  simp only [Bool.and_true, if_true]
  rw [r2, a2, a3]
  simp only [zC, zB.1, zB.2, zO, zQ, zT]
theorem back9 (ce rg ar an br bn od cq tg : Int) (n : Nat) (hn : n ≤ 8) (ht : rangeB tg = true) (h : insB (⟨9, ce, rg, ar, an, br, bn, od, cq, tg⟩ : Ins) n = true) : insI ((wordsI ⟨9, ce, rg, ar, an, br, bn, od, cq, tg⟩).map mkT) n = some ⟨9, ce, rg, ar, an, br, bn, od, cq, tg⟩ := by
  have hI : insB (⟨9, ce, rg, ar, an, br, bn, od, cq, tg⟩ : Ins) n = ((((((((valB ar an && valB br bn && rangeB an && rangeB bn) && cR true rg) && cC false ce n) && cV true ar an) && cV false br bn) && cO false 9 od) && cQ false cq) && cT false false tg) := by first | rfl | kernel_rfl
  rw [hI] at h
  simp only [Bool.and_eq_true] at h
  obtain ⟨⟨⟨⟨⟨⟨⟨⟨⟨⟨hva, hvb⟩, hra⟩, hrb⟩, hR⟩, hC⟩, hA⟩, hB⟩, hO⟩, hQ⟩, hT⟩ := h
  have zC : ce = 0 := by simpa [cC] using hC
  have zB : br = 0 ∧ bn = 0 := by simpa [cV] using hB
  have zO : od = 0 := by simpa [cO] using hO
  have zQ : cq = 0 := by simpa [cQ] using hQ
  have zT : tg = 0 := by simpa [cT] using hT
  have hw : (wordsI ⟨9, ce, rg, ar, an, br, bn, od, cq, tg⟩).map mkT = [frmWAt 9, mkT (114 :: Lib.itoa rg), mkT (valT ar an)] := by kernel_rfl
  have hid : idxV frmW (([frmWAt 9, mkT (114 :: Lib.itoa rg), mkT (valT ar an)] : List ByteArray).getD 0 ⟨#[]⟩) = ((9 : Nat) : Int) := by kernel_rfl
  have hsz : (frmFAt 9).size = 2 := by first | rfl | kernel_rfl
  rw [hw, insI_at hid, hsz, if_neg (by simp), readI_fold]
  clear hw hid hI
  obtain ⟨r1, r2⟩ := reg_back hR
  obtain ⟨a1, a2, a3⟩ := val_back hva hra
  generalize mkT (114 :: Lib.itoa rg) = w1 at r1 r2 ⊢
  generalize mkT (valT ar an) = w2 at a1 a2 a3 ⊢
  have hP : ((List.range 2).all fun j => fldB (byt (frmFAt 9) j) (([frmWAt 9, w1, w2] : List ByteArray).getD (j + 1) ⟨#[]⟩) (foldI (frmFAt 9) [frmWAt 9, w1, w2] ((9 : Nat) : Int) j) n) = (nbB (w1) 114 1 6 && (voB (w2) && true)) := by first | rfl | kernel_rfl
  have hX : foldI (frmFAt 9) [frmWAt 9, w1, w2] ((9 : Nat) : Int) 2 = (⟨9, 0, numV (restT (w1) 114), voR (w2), voN (w2), 0, 0, 0, 0, 0⟩ : Ins) := by first | rfl | kernel_rfl
  rw [hP, hX, r1, a1]
  simp only [Bool.and_true, if_true]
  rw [r2, a2, a3]
  simp only [zC, zB.1, zB.2, zO, zQ, zT]
theorem back10 (ce rg ar an br bn od cq tg : Int) (n : Nat) (hn : n ≤ 8) (ht : rangeB tg = true) (h : insB (⟨10, ce, rg, ar, an, br, bn, od, cq, tg⟩ : Ins) n = true) : insI ((wordsI ⟨10, ce, rg, ar, an, br, bn, od, cq, tg⟩).map mkT) n = some ⟨10, ce, rg, ar, an, br, bn, od, cq, tg⟩ := by
  have hI : insB (⟨10, ce, rg, ar, an, br, bn, od, cq, tg⟩ : Ins) n = ((((((((valB ar an && valB br bn && rangeB an && rangeB bn) && cR false rg) && cC false ce n) && cV true ar an) && cV true br bn) && cO false 10 od) && cQ true cq) && cT false true tg) := by first | rfl | kernel_rfl
  rw [hI] at h
  simp only [Bool.and_eq_true] at h
  obtain ⟨⟨⟨⟨⟨⟨⟨⟨⟨⟨hva, hvb⟩, hra⟩, hrb⟩, hR⟩, hC⟩, hA⟩, hB⟩, hO⟩, hQ⟩, hT⟩ := h
  have zR : rg = 0 := by simpa [cR] using hR
  have zC : ce = 0 := by simpa [cC] using hC
  have zO : od = 0 := by simpa [cO] using hO
  have hw : (wordsI ⟨10, ce, rg, ar, an, br, bn, od, cq, tg⟩).map mkT = [frmWAt 10, mkT (valT ar an), mkT (wordAt cndL cq).data.toList, mkT (valT br bn), mkT (Lib.itoa tg)] := by kernel_rfl
  have hid : idxV frmW (([frmWAt 10, mkT (valT ar an), mkT (wordAt cndL cq).data.toList, mkT (valT br bn), mkT (Lib.itoa tg)] : List ByteArray).getD 0 ⟨#[]⟩) = ((10 : Nat) : Int) := by kernel_rfl
  have hsz : (frmFAt 10).size = 4 := by first | rfl | kernel_rfl
  rw [hw, insI_at hid, hsz, if_neg (by simp), readI_fold]
  clear hw hid hI
  obtain ⟨a1, a2, a3⟩ := val_back hva hra
  have q2 := cnd_back (cnd_range hQ).1 (cnd_range hQ).2
  have q1 : decide (0 < idxV cndL (mkT (wordAt cndL cq).data.toList)) = true := by rw [q2]; exact decide_eq_true (by have := (cnd_range hQ).1; omega)
  obtain ⟨v1, v2, v3⟩ := val_back hvb hrb
  obtain ⟨t1, t2⟩ := itoa_read ht
  unfold itoaT at t1 t2
  have hTT : 0 ≤ tg ∧ tg ≤ 9223372036854775807 := by
    have h9 := ht
    unfold rangeB at h9
    unfold cT at hT
    simp only [Bool.and_eq_true, decide_eq_true_eq, if_true, if_false, Bool.false_eq_true] at h9 hT
    omega
  have t3 : (numB (mkT (Lib.itoa tg)) && (decide (0 ≤ numV (mkT (Lib.itoa tg))) && decide (numV (mkT (Lib.itoa tg)) ≤ 9223372036854775807))) = true := by rw [t1, t2, decide_eq_true hTT.1, decide_eq_true hTT.2]; rfl
  generalize mkT (valT ar an) = w1 at a1 a2 a3 ⊢
  generalize mkT (wordAt cndL cq).data.toList = w2 at q1 q2 ⊢
  generalize mkT (valT br bn) = w3 at v1 v2 v3 ⊢
  generalize mkT (Lib.itoa tg) = w4 at t1 t2 t3 ⊢
  have hP : ((List.range 4).all fun j => fldB (byt (frmFAt 10) j) (([frmWAt 10, w1, w2, w3, w4] : List ByteArray).getD (j + 1) ⟨#[]⟩) (foldI (frmFAt 10) [frmWAt 10, w1, w2, w3, w4] ((10 : Nat) : Int) j) n) = (voB (w1) && (decide (0 < idxV cndL (w2)) && (voB (w3) && ((numB (w4) && (decide (0 ≤ numV (w4)) && decide (numV (w4) ≤ 9223372036854775807))) && true)))) := by first | rfl | kernel_rfl
  have hX : foldI (frmFAt 10) [frmWAt 10, w1, w2, w3, w4] ((10 : Nat) : Int) 4 = (⟨10, 0, 0, voR (w1), voN (w1), voR (w3), voN (w3), 0, idxV cndL (w2), numV (w4)⟩ : Ins) := by first | rfl | kernel_rfl
  rw [hP, hX, a1, q1, v1, t3]
  simp only [Bool.and_true, if_true]
  rw [a2, a3, q2, v2, v3, t2]
  simp only [zR, zC, zO]
theorem back11 (ce rg ar an br bn od cq tg : Int) (n : Nat) (hn : n ≤ 8) (ht : rangeB tg = true) (h : insB (⟨11, ce, rg, ar, an, br, bn, od, cq, tg⟩ : Ins) n = true) : insI ((wordsI ⟨11, ce, rg, ar, an, br, bn, od, cq, tg⟩).map mkT) n = some ⟨11, ce, rg, ar, an, br, bn, od, cq, tg⟩ := by
  have hI : insB (⟨11, ce, rg, ar, an, br, bn, od, cq, tg⟩ : Ins) n = ((((((((valB ar an && valB br bn && rangeB an && rangeB bn) && cR false rg) && cC false ce n) && cV true ar an) && cV false br bn) && cO false 11 od) && cQ false cq) && cT true false tg) := by first | rfl | kernel_rfl
  rw [hI] at h
  simp only [Bool.and_eq_true] at h
  obtain ⟨⟨⟨⟨⟨⟨⟨⟨⟨⟨hva, hvb⟩, hra⟩, hrb⟩, hR⟩, hC⟩, hA⟩, hB⟩, hO⟩, hQ⟩, hT⟩ := h
  have zR : rg = 0 := by simpa [cR] using hR
  have zC : ce = 0 := by simpa [cC] using hC
  have zB : br = 0 ∧ bn = 0 := by simpa [cV] using hB
  have zO : od = 0 := by simpa [cO] using hO
  have zQ : cq = 0 := by simpa [cQ] using hQ
  have hw : (wordsI ⟨11, ce, rg, ar, an, br, bn, od, cq, tg⟩).map mkT = [frmWAt 11, mkT (Lib.itoa tg), mkT (valT ar an)] := by kernel_rfl
  have hid : idxV frmW (([frmWAt 11, mkT (Lib.itoa tg), mkT (valT ar an)] : List ByteArray).getD 0 ⟨#[]⟩) = ((11 : Nat) : Int) := by kernel_rfl
  have hsz : (frmFAt 11).size = 2 := by first | rfl | kernel_rfl
  rw [hw, insI_at hid, hsz, if_neg (by simp), readI_fold]
  clear hw hid hI
  obtain ⟨t1, t2⟩ := itoa_read ht
  unfold itoaT at t1 t2
  have hTT : 0 ≤ tg ∧ tg ≤ 99 := by
    have h9 := ht
    unfold rangeB at h9
    unfold cT at hT
    simp only [Bool.and_eq_true, decide_eq_true_eq, if_true, if_false, Bool.false_eq_true] at h9 hT
    omega
  have t3 : (numB (mkT (Lib.itoa tg)) && (decide (0 ≤ numV (mkT (Lib.itoa tg))) && decide (numV (mkT (Lib.itoa tg)) ≤ 99))) = true := by rw [t1, t2, decide_eq_true hTT.1, decide_eq_true hTT.2]; rfl
  obtain ⟨a1, a2, a3⟩ := val_back hva hra
  generalize mkT (Lib.itoa tg) = w1 at t1 t2 t3 ⊢
  generalize mkT (valT ar an) = w2 at a1 a2 a3 ⊢
  have hP : ((List.range 2).all fun j => fldB (byt (frmFAt 11) j) (([frmWAt 11, w1, w2] : List ByteArray).getD (j + 1) ⟨#[]⟩) (foldI (frmFAt 11) [frmWAt 11, w1, w2] ((11 : Nat) : Int) j) n) = ((numB (w1) && (decide (0 ≤ numV (w1)) && decide (numV (w1) ≤ 99))) && (voB (w2) && true)) := by first | rfl | kernel_rfl
  have hX : foldI (frmFAt 11) [frmWAt 11, w1, w2] ((11 : Nat) : Int) 2 = (⟨11, 0, 0, voR (w2), voN (w2), 0, 0, 0, 0, numV (w1)⟩ : Ins) := by first | rfl | kernel_rfl
  rw [hP, hX, t3, a1]
  simp only [Bool.and_true, if_true]
  rw [t2, a2, a3]
  simp only [zR, zC, zB.1, zB.2, zO, zQ]
theorem back12 (ce rg ar an br bn od cq tg : Int) (n : Nat) (hn : n ≤ 8) (ht : rangeB tg = true) (h : insB (⟨12, ce, rg, ar, an, br, bn, od, cq, tg⟩ : Ins) n = true) : insI ((wordsI ⟨12, ce, rg, ar, an, br, bn, od, cq, tg⟩).map mkT) n = some ⟨12, ce, rg, ar, an, br, bn, od, cq, tg⟩ := by
  have hI : insB (⟨12, ce, rg, ar, an, br, bn, od, cq, tg⟩ : Ins) n = ((((((((valB ar an && valB br bn && rangeB an && rangeB bn) && cR false rg) && cC false ce n) && cV true ar an) && cV false br bn) && cO false 12 od) && cQ false cq) && cT false false tg) := by first | rfl | kernel_rfl
  rw [hI] at h
  simp only [Bool.and_eq_true] at h
  obtain ⟨⟨⟨⟨⟨⟨⟨⟨⟨⟨hva, hvb⟩, hra⟩, hrb⟩, hR⟩, hC⟩, hA⟩, hB⟩, hO⟩, hQ⟩, hT⟩ := h
  have zR : rg = 0 := by simpa [cR] using hR
  have zC : ce = 0 := by simpa [cC] using hC
  have zB : br = 0 ∧ bn = 0 := by simpa [cV] using hB
  have zO : od = 0 := by simpa [cO] using hO
  have zQ : cq = 0 := by simpa [cQ] using hQ
  have zT : tg = 0 := by simpa [cT] using hT
  have hw : (wordsI ⟨12, ce, rg, ar, an, br, bn, od, cq, tg⟩).map mkT = [frmWAt 12, mkT (valT ar an)] := by kernel_rfl
  have hid : idxV frmW (([frmWAt 12, mkT (valT ar an)] : List ByteArray).getD 0 ⟨#[]⟩) = ((12 : Nat) : Int) := by kernel_rfl
  have hsz : (frmFAt 12).size = 1 := by first | rfl | kernel_rfl
  rw [hw, insI_at hid, hsz, if_neg (by simp), readI_fold]
  clear hw hid hI
  obtain ⟨a1, a2, a3⟩ := val_back hva hra
  generalize mkT (valT ar an) = w1 at a1 a2 a3 ⊢
  have hP : ((List.range 1).all fun j => fldB (byt (frmFAt 12) j) (([frmWAt 12, w1] : List ByteArray).getD (j + 1) ⟨#[]⟩) (foldI (frmFAt 12) [frmWAt 12, w1] ((12 : Nat) : Int) j) n) = (voB (w1) && true) := by first | rfl | kernel_rfl
  have hX : foldI (frmFAt 12) [frmWAt 12, w1] ((12 : Nat) : Int) 1 = (⟨12, 0, 0, voR (w1), voN (w1), 0, 0, 0, 0, 0⟩ : Ins) := by first | rfl | kernel_rfl
  rw [hP, hX, a1]
  simp only [Bool.and_true, if_true]
  rw [a2, a3]
  simp only [zR, zC, zB.1, zB.2, zO, zQ, zT]
theorem back13 (ce rg ar an br bn od cq tg : Int) (n : Nat) (hn : n ≤ 8) (ht : rangeB tg = true) (h : insB (⟨13, ce, rg, ar, an, br, bn, od, cq, tg⟩ : Ins) n = true) : insI ((wordsI ⟨13, ce, rg, ar, an, br, bn, od, cq, tg⟩).map mkT) n = some ⟨13, ce, rg, ar, an, br, bn, od, cq, tg⟩ := by
  have hI : insB (⟨13, ce, rg, ar, an, br, bn, od, cq, tg⟩ : Ins) n = ((((((((valB ar an && valB br bn && rangeB an && rangeB bn) && cR false rg) && cC false ce n) && cV true ar an) && cV true br bn) && cO false 13 od) && cQ true cq) && cT false false tg) := by first | rfl | kernel_rfl
  rw [hI] at h
  simp only [Bool.and_eq_true] at h
  obtain ⟨⟨⟨⟨⟨⟨⟨⟨⟨⟨hva, hvb⟩, hra⟩, hrb⟩, hR⟩, hC⟩, hA⟩, hB⟩, hO⟩, hQ⟩, hT⟩ := h
  have zR : rg = 0 := by simpa [cR] using hR
  have zC : ce = 0 := by simpa [cC] using hC
  have zO : od = 0 := by simpa [cO] using hO
  have zT : tg = 0 := by simpa [cT] using hT
  have hw : (wordsI ⟨13, ce, rg, ar, an, br, bn, od, cq, tg⟩).map mkT = [frmWAt 13, mkT (valT ar an), mkT (wordAt cndL cq).data.toList, mkT (valT br bn)] := by kernel_rfl
  have hid : idxV frmW (([frmWAt 13, mkT (valT ar an), mkT (wordAt cndL cq).data.toList, mkT (valT br bn)] : List ByteArray).getD 0 ⟨#[]⟩) = ((13 : Nat) : Int) := by kernel_rfl
  have hsz : (frmFAt 13).size = 3 := by first | rfl | kernel_rfl
  rw [hw, insI_at hid, hsz, if_neg (by simp), readI_fold]
  clear hw hid hI
  obtain ⟨a1, a2, a3⟩ := val_back hva hra
  have q2 := cnd_back (cnd_range hQ).1 (cnd_range hQ).2
  have q1 : decide (0 < idxV cndL (mkT (wordAt cndL cq).data.toList)) = true := by rw [q2]; exact decide_eq_true (by have := (cnd_range hQ).1; omega)
  obtain ⟨v1, v2, v3⟩ := val_back hvb hrb
  generalize mkT (valT ar an) = w1 at a1 a2 a3 ⊢
  generalize mkT (wordAt cndL cq).data.toList = w2 at q1 q2 ⊢
  generalize mkT (valT br bn) = w3 at v1 v2 v3 ⊢
  have hP : ((List.range 3).all fun j => fldB (byt (frmFAt 13) j) (([frmWAt 13, w1, w2, w3] : List ByteArray).getD (j + 1) ⟨#[]⟩) (foldI (frmFAt 13) [frmWAt 13, w1, w2, w3] ((13 : Nat) : Int) j) n) = (voB (w1) && (decide (0 < idxV cndL (w2)) && (voB (w3) && true))) := by first | rfl | kernel_rfl
  have hX : foldI (frmFAt 13) [frmWAt 13, w1, w2, w3] ((13 : Nat) : Int) 3 = (⟨13, 0, 0, voR (w1), voN (w1), voR (w3), voN (w3), 0, idxV cndL (w2), 0⟩ : Ins) := by first | rfl | kernel_rfl
  rw [hP, hX, a1, q1, v1]
  simp only [Bool.and_true, if_true]
  rw [a2, a3, q2, v2, v3]
  simp only [zR, zC, zO, zT]
/-- An instruction's words are read as it. -/
theorem ins_back {x : Ins} {n : Nat} (hn : n ≤ 8) (ht : rangeB x.tgt = true) (h : insB x n = true) : insI ((wordsI x).map mkT) n = some x := by
  obtain ⟨op, ce, rg, ar, an, br, bn, od, cq, tg⟩ := x
  have hop : 1 ≤ op ∧ op ≤ 13 := by
    unfold insB at h
    simp only [Bool.and_eq_true, Bool.not_eq_true', Bool.or_eq_false_iff, decide_eq_false_iff_not] at h
    have h1 := h.1
    omega
  rcases thirteen hop.1 hop.2 with rfl | rfl | rfl | rfl | rfl | rfl | rfl | rfl | rfl | rfl | rfl | rfl | rfl
  · exact back1 ce rg ar an br bn od cq tg n hn ht h
  · exact back2 ce rg ar an br bn od cq tg n hn ht h
  · exact back3 ce rg ar an br bn od cq tg n hn ht h
  · exact back4 ce rg ar an br bn od cq tg n hn ht h
  · exact back5 ce rg ar an br bn od cq tg n hn ht h
  · exact back6 ce rg ar an br bn od cq tg n hn ht h
  · exact back7 ce rg ar an br bn od cq tg n hn ht h
  · exact back8 ce rg ar an br bn od cq tg n hn ht h
  · exact back9 ce rg ar an br bn od cq tg n hn ht h
  · exact back10 ce rg ar an br bn od cq tg n hn ht h
  · exact back11 ce rg ar an br bn od cq tg n hn ht h
  · exact back12 ce rg ar an br bn od cq tg n hn ht h
  · exact back13 ce rg ar an br bn od cq tg n hn ht h
end Go.Proofs.YthopmdfichfhdaaGreatDoor
