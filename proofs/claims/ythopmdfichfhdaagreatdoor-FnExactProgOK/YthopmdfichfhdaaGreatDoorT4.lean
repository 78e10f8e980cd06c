/-
  A right program's text is read as it. No statement of the seat is proved here.
-/
import Derived.Test.YthopmdfichfhdaaGreatDoorT3
import Derived.Test.YthopmdfichfhdaaGreatDoorS6a
namespace Go.Proofs.YthopmdfichfhdaaGreatDoor
open Go.ChangeShapes Go.WideShapes Go.ChangeAt Go.RowKit
set_option linter.unusedVariables false
set_option linter.unusedSimpArgs false

/-- The document's rule for a program. -/
structure OkP (ini : List Int) (thr : List (List Ins)) : Prop where
  i1 : 1 ≤ ini.length
  i8 : ini.length ≤ 8
  t1 : 1 ≤ thr.length
  t4 : thr.length ≤ 4
  nums : ∀ v ∈ ini, rangeB v = true
  len : ∀ c ∈ thr, c.length ≤ 40
  ins : ∀ c ∈ thr, ∀ x ∈ c, insB x ini.length = true
  jmp : ∀ c ∈ thr, ∀ x ∈ c, x.op = 10 → x.tgt ≤ (c.length : Int)
def cellsL (ini : List Int) : List UInt8 := Lib.join (cellsW.data.toList :: ini.map Lib.itoa) [32]
def insL (x : Ins) : List UInt8 := 32 :: 32 :: Lib.join (wordsI x) [32]
def thrL (c : List Ins) : List (List UInt8) := threadW.data.toList :: c.map insL
def linesP (ini : List Int) (thr : List (List Ins)) : List (List UInt8) := cellsL ini :: (thr.map thrL).flatten
/-- A program's text, as the program writes it. -/
def textP (ini : List Int) (thr : List (List Ins)) : ByteArray := mkT (Lib.join (linesP ini thr) [10] ++ [10])
theorem mkT_self (t : ByteArray) : mkT t.data.toList = t := rfl
/-! ### Bytes that are not there -/
def Fine (l : List UInt8) : Prop := l ≠ [] ∧ Plain 32 l ∧ Plain 10 l ∧ Plain 35 l
theorem fine_itoa (n : Int) : Fine (Lib.itoa n) := ⟨itoa_ne n, itoa_plain n 32 (by decide), itoa_plain n 10 (by decide), itoa_plain n 35 (by decide)⟩
theorem fine_lett {c : UInt8} (n : Int) (h : c ≠ 32 ∧ c ≠ 10 ∧ c ≠ 35) : Fine (c :: Lib.itoa n) := by
  obtain ⟨h1, h2, h3, h4⟩ := fine_itoa n
  refine ⟨by simp, ?_, ?_, ?_⟩ <;> intro b hb <;> rcases List.mem_cons.1 hb with rfl | hb
  · exact h.1
  · exact h2 b hb
  · exact h.2.1
  · exact h3 b hb
  · exact h.2.2
  · exact h4 b hb
def fineB (l : List UInt8) : Bool := !l.isEmpty && l.all (fun b => b != 32 && b != 10 && b != 35)
theorem fine_of {l : List UInt8} (h : fineB l = true) : Fine l := by
  unfold fineB at h
  rw [Bool.and_eq_true, List.all_eq_true] at h
  obtain ⟨h1, h2⟩ := h
  have key : ∀ b ∈ l, b ≠ 32 ∧ b ≠ 10 ∧ b ≠ 35 := fun b hb => by
    have := h2 b hb
    simp only [Bool.and_eq_true, bne_iff_ne] at this
    exact ⟨this.1.1, this.1.2, this.2⟩
  exact ⟨by cases l with
    | nil => cases h1
    | cons a t => simp, fun b hb => (key b hb).1, fun b hb => (key b hb).2.1, fun b hb => (key b hb).2.2⟩
theorem fine_val (r n : Int) : Fine (valT r n) := by
  unfold valT
  split
  · exact fine_lett r (by decide)
  · exact fine_itoa n
theorem fine_ord {o : Int} (h1 : 1 ≤ o) (h2 : o ≤ 5) : Fine (wordAt ordL o).data.toList := by
  rcases five h1 h2 with rfl | rfl | rfl | rfl | rfl <;> exact fine_of (by kernel_rfl)
theorem fine_cnd {o : Int} (h1 : 1 ≤ o) (h2 : o ≤ 4) : Fine (wordAt cndL o).data.toList := by
  rcases (by omega : o = 1 ∨ o = 2 ∨ o = 3 ∨ o = 4) with rfl | rfl | rfl | rfl <;> exact fine_of (by kernel_rfl)
def frmFine : Bool := (List.range 13).all fun k => fineB (frmWAt (k + 1)).data.toList && (List.range (frmFAt (k + 1)).size).all (fun j => (byt (frmFAt (k + 1)) j != 79 || inB (formF ((k + 1 : Nat) : Int)) 79) && (byt (frmFAt (k + 1)) j != 63 || inB (formF ((k + 1 : Nat) : Int)) 81))
theorem frm_fine : frmFine = true := by kernel_rfl
theorem words_fine {x : Ins} {n : Nat} (h : insB x n = true) : ∀ w ∈ wordsI x, Fine w := by
  have hop : 1 ≤ x.op ∧ x.op ≤ 13 := by
    unfold insB at h
    simp only [Bool.and_eq_true, Bool.not_eq_true', Bool.or_eq_false_iff, decide_eq_false_iff_not] at h
    have h1 := h.1
    omega
  obtain ⟨k, hk⟩ := Int.eq_ofNat_of_zero_le (show 0 ≤ x.op by omega)
  have hf := frm_fine
  unfold frmFine at hf
  rw [List.all_eq_true] at hf
  have hf1 := hf (k - 1) (List.mem_range.2 (by omega))
  rw [show k - 1 + 1 = k by omega, Bool.and_eq_true, List.all_eq_true] at hf1
  have hO : inB (formF x.op) 79 = true → 1 ≤ x.ord ∧ x.ord ≤ 5 := fun hi => by
    unfold insB at h
    simp only [Bool.and_eq_true] at h
    have := h.2.1.1.2
    rw [hi] at this
    exact ordB_range this
  have hQ : inB (formF x.op) 81 = true → 1 ≤ x.cnd ∧ x.cnd ≤ 4 := fun hi => by
    unfold insB at h
    simp only [Bool.and_eq_true] at h
    have := h.2.1.2
    rw [hi] at this
    exact cnd_range this
  intro w hw
  unfold wordsI at hw
  rw [if_pos hop, hk, Int.toNat_natCast] at hw
  rcases List.mem_cons.1 hw with rfl | hw
  · exact fine_of hf1.1
  · obtain ⟨j, hj, rfl⟩ := List.mem_map.1 hw
    have hfj := hf1.2 j hj
    simp only [Bool.and_eq_true, Bool.or_eq_true, bne_iff_ne] at hfj
    rw [← hk] at hfj
    unfold fieldT
    repeat' split
    · exact fine_lett _ (by decide)
    · exact fine_lett _ (by decide)
    · exact fine_val _ _
    · exact fine_val _ _
    · rename_i e
      have := hO (hfj.1.resolve_left (fun h => h e))
      exact fine_ord this.1 this.2
    · rename_i e
      have := hQ (hfj.2.resolve_left (fun h => h e))
      exact fine_cnd this.1 this.2
    · exact fine_itoa _
theorem line_plain {ws : List (List UInt8)} {g : UInt8} (h : ∀ w ∈ ws, Plain g w) (hg : g ≠ 32) : Plain g (Lib.join ws [32]) := plain_join (fun b hb => by rw [List.mem_singleton.1 hb]; exact Ne.symm hg) ws h
theorem plain_blank {l : List UInt8} {g : UInt8} (h : Plain g l) (hg : g ≠ 32) : Plain g (32 :: 32 :: l) := by
  intro b hb
  rcases List.mem_cons.1 hb with rfl | hb
  · exact Ne.symm hg
  · rcases List.mem_cons.1 hb with rfl | hb
    · exact Ne.symm hg
    · exact h b hb
/-! ### Lines that are read -/
theorem read_words (s : Rd) {l : List UInt8} (h : Plain 35 l) : readR s (mkT l) = wordsR s (wordsF (mkT l)) := by
  unfold readR
  rw [line_back h]
theorem fine_cellsW : Fine cellsW.data.toList := fine_of (by kernel_rfl)
theorem fine_threadW : Fine threadW.data.toList := fine_of (by kernel_rfl)
theorem read_cells (s : Rd) {ini : List Int} (h1 : 1 ≤ ini.length) (h8 : ini.length ≤ 8) (hn : ∀ v ∈ ini, rangeB v = true) (hs : s.ini = []) : readR s (mkT (cellsL ini)) = (0, { s with ini := ini }) := by
  have hf : ∀ w ∈ cellsW.data.toList :: ini.map Lib.itoa, Fine w := by
    intro w hw
    rcases List.mem_cons.1 hw with rfl | hw
    · exact fine_cellsW
    · obtain ⟨v, _, rfl⟩ := List.mem_map.1 hw
      exact fine_itoa v
  unfold cellsL
  rw [read_words s (line_plain (fun w hw => (hf w hw).2.2.2) (by decide)), words_back (fun w hw => ⟨(hf w hw).1, (hf w hw).2.1⟩), List.map_cons, mkT_self]
  have e9 : wordsR s (cellsW :: (ini.map Lib.itoa).map mkT) = cellsR s ((ini.map Lib.itoa).map mkT) := by simp only [wordsR, if_true]
  rw [e9]
  unfold cellsR
  rw [hs, if_neg (by simp only [List.length_nil, List.length_map]; omega), if_pos (by
    rw [List.all_eq_true]
    intro t ht
    rw [List.map_map] at ht
    obtain ⟨v, hv, rfl⟩ := List.mem_map.1 ht
    exact (itoa_read (hn v hv)).1)]
  congr 2
  rw [List.nil_append, List.map_map, List.map_map]
  conv => rhs; rw [← List.map_id ini]
  refine List.map_congr_left fun v hv => ?_
  exact (itoa_read (hn v hv)).2
theorem read_thread (s : Rd) (hi : s.ini.length ≠ 0) (ht : s.thr.length ≠ 4) : readR s (mkT threadW.data.toList) = (0, { s with thr := s.thr ++ [[]] }) := by
  have hw : wordsF (mkT threadW.data.toList) = [threadW] := by
    have := words_back (ws := [threadW.data.toList]) (fun w hw => by rw [List.mem_singleton.1 hw]; exact ⟨fine_threadW.1, fine_threadW.2.1⟩)
    rw [join_single] at this
    exact this
  rw [read_words s fine_threadW.2.2.2, hw]
  have e9 : wordsR s [threadW] = threadR s [] := by
    simp only [wordsR, if_true]
    rw [if_neg (fun h => absurd (congrArg ByteArray.size h) (by decide))]
  rw [e9]
  unfold threadR
  rw [if_neg hi, if_neg (by simp), if_neg ht]
theorem read_ins (s : Rd) {x : Ins} {th : List (List Ins)} {c : List Ins} (hi : s.ini.length ≤ 8) (hs : s.thr = th ++ [c]) (hc : c.length ≠ 40) (hx : insB x s.ini.length = true) (ht : rangeB x.tgt = true) : readR s (mkT (insL x)) = (0, growR s th c x) := by
  have hf := words_fine hx
  have hb := ins_back hi ht hx
  unfold insL
  rw [read_words s (plain_blank (line_plain (fun w hw => (hf w hw).2.2.2) (by decide)) (by decide)), words_back2 (fun w hw => ⟨(hf w hw).1, (hf w hw).2.1⟩)]
  cases hw : (wordsI x).map mkT with
  | nil =>
    rw [hw] at hb
    have : insI [] s.ini.length = none := by
      rw [insI_at (ws := []) (k := 0) (by kernel_rfl), if_pos (by simp only [List.length_nil]; omega)]
    rw [this] at hb
    cases hb
  | cons y ws =>
    rw [hw] at hb
    have h1 : y ≠ cellsW := fun e => by rw [e, cells_no] at hb; cases hb
    have h2 : y ≠ threadW := fun e => by rw [e, thread_no] at hb; cases hb
    simp only [wordsR]
    rw [if_neg h1, if_neg h2]
    unfold instrR
    rw [hb, hs]
    simp only [List.getLast?_append, List.getLast?_singleton, Option.some_or, instrF]
    rw [if_neg hc]
    congr 2
    rw [hs]
    simp
theorem read_last (s : Rd) : readR s (mkT []) = (0, s) := by
  have hw : wordsF (mkT []) = [] := by
    have := words_back (ws := []) (fun w hw => by cases hw)
    rwa [join_nil] at this
  rw [read_words s (fun b hb => by cases hb), hw]
  rfl
/-! ### All of them -/
def JOk (thr : List (List Ins)) (l : List Jmp) : Prop := ∀ j ∈ l, ¬ ((thr.getD j.th.toNat []).length : Int) < j.aim
theorem run_code {ini : List Int} {thr : List (List Ins)} {th : List (List Ins)} (hi : ini.length ≤ 8) (rest : List ByteArray) : ∀ (c2 c1 : List Ins) (s : Rd), s.ini = ini → s.thr = th ++ [c1] → (c1 ++ c2).length ≤ 40 → (∀ x ∈ c2, insB x ini.length = true) → (∀ x ∈ c2, x.op = 10 → x.tgt ≤ ((c1 ++ c2).length : Int)) → thr[th.length]? = some (c1 ++ c2) → JOk thr s.jmp →
    ∃ s2 : Rd, s2.ini = ini ∧ s2.thr = th ++ [c1 ++ c2] ∧ JOk thr s2.jmp ∧ runR s (c2.map (fun x => mkT (insL x)) ++ rest) = runR s2 rest
  | [], c1, s, h1, h2, _, _, _, _, hj => ⟨s, h1, by rw [List.append_nil]; exact h2, hj, rfl⟩
  | x :: c2, c1, s, h1, h2, h3, h4, h5, h6, hj => by
    have hx := h4 x (List.mem_cons_self ..)
    have ht : rangeB x.tgt = true := by
      have hT : x.op = 10 ∨ x.op ≠ 10 := by omega
      have hlen : ((c1 ++ x :: c2).length : Int) ≤ 40 := by omega
      have hb : 0 ≤ x.tgt ∧ x.tgt ≤ 99 := by
        have hx2 := hx
        unfold insB at hx2
        simp only [Bool.and_eq_true] at hx2
        have hc := hx2.2.2
        have h10 : x.op ≠ 10 → inB (formF x.op) 78 = false := fun hne => by
          have hop := hx2.1
          simp only [Bool.not_eq_true', Bool.or_eq_false_iff, decide_eq_false_iff_not] at hop
          obtain ⟨k, hk⟩ := Int.eq_ofNat_of_zero_le (show 0 ≤ x.op by omega)
          have key : (List.range 14).all (fun k => k == 10 || !inB (formF ((k : Nat) : Int)) 78) = true := by kernel_rfl
          rw [List.all_eq_true] at key
          have := key k (List.mem_range.2 (by omega))
          rw [hk]
          have hk10 : (k == 10) = false := by rw [beq_eq_false_iff_ne]; omega
          rw [hk10, Bool.false_or, Bool.not_eq_true'] at this
          exact this
        unfold cT at hc
        rcases hT with e | hne
        · have := h5 x (List.mem_cons_self ..) e
          split at hc
          · simp only [Bool.and_eq_true, decide_eq_true_eq] at hc; omega
          · split at hc
            · simp only [decide_eq_true_eq] at hc; omega
            · simp only [decide_eq_true_eq] at hc; omega
        · rw [h10 hne] at hc
          split at hc
          · simp only [Bool.and_eq_true, decide_eq_true_eq] at hc; omega
          · simp only [Bool.false_eq_true, if_false, decide_eq_true_eq] at hc; omega
      unfold rangeB
      rw [decide_eq_true (by omega), decide_eq_true (by omega)]
      rfl
    simp only [List.length_append, List.length_cons] at h3
    have hr := read_ins { s with ln := s.ln + 1 } (x := x) (th := th) (c := c1) (by rw [h1]; exact hi) h2 (by omega) (by rw [h1]; exact hx) ht
    have hg : ∀ j ∈ (growR { s with ln := s.ln + 1 } th c1 x).jmp, ¬ ((thr.getD j.th.toNat []).length : Int) < j.aim := by
      intro j hjm
      simp only [growR] at hjm
      split at hjm
      · rename_i hop
        rcases List.mem_append.1 hjm with hjm | hjm
        · exact hj j hjm
        · rw [List.mem_singleton.1 hjm]
          dsimp only
          rw [Int.toNat_natCast, List.getD_eq_getElem?_getD, h6]
          have := h5 x (List.mem_cons_self ..) hop
          simp only [Option.getD_some]
          omega
      · exact hj j hjm
    obtain ⟨s2, q1, q2, q3, q4⟩ := run_code hi rest c2 (c1 ++ [x]) (growR { s with ln := s.ln + 1 } th c1 x) h1 rfl (by simp only [List.length_append, List.length_cons, List.length_nil]; omega) (fun y hy => h4 y (List.mem_cons_of_mem _ hy)) (fun y hy e => by have := h5 y (List.mem_cons_of_mem _ hy) e; rw [List.append_assoc]; exact this) (by rw [List.append_assoc]; exact h6) hg
    refine ⟨s2, q1, by rw [q2, List.append_assoc]; rfl, q3, ?_⟩
    rw [← q4]
    show runR s (mkT (insL x) :: (c2.map (fun x => mkT (insL x)) ++ rest)) = _
    simp only [runR]
    rw [hr, if_pos rfl]
theorem run_threads {ini : List Int} {thr : List (List Ins)} (ok : OkP ini thr) : ∀ (t2 t1 : List (List Ins)) (s : Rd), thr = t1 ++ t2 → s.ini = ini → s.thr = t1 → JOk thr s.jmp →
    ∃ s2 : Rd, s2.ini = ini ∧ s2.thr = thr ∧ JOk thr s2.jmp ∧ runR s ((t2.map thrL).flatten.map mkT ++ [mkT []]) = (0, s2)
  | [], t1, s, h0, h1, h2, hj => by
    refine ⟨{ s with ln := s.ln + 1 }, h1, by rw [h0, List.append_nil]; exact h2, hj, ?_⟩
    simp only [List.map_nil, List.flatten_nil, List.nil_append, runR]
    rw [read_last]
    simp
  | c :: t2, t1, s, h0, h1, h2, hj => by
    have hcm : c ∈ thr := by rw [h0]; simp
    have hlt : t1.length < 4 := by have := ok.t4; rw [h0] at this; simp at this; omega
    have hr := read_thread { s with ln := s.ln + 1 } (by rw [h1]; have := ok.i1; omega) (by rw [h2]; omega)
    obtain ⟨s2, q1, q2, q3, q4⟩ := run_code (ini := ini) (thr := thr) (th := t1) ok.i8 ((t2.map thrL).flatten.map mkT ++ [mkT []]) c [] { s with ln := s.ln + 1, thr := s.thr ++ [[]] } h1 (by rw [h2]) (by rw [List.nil_append]; exact ok.len c hcm) (ok.ins c hcm) (fun x hx e => by rw [List.nil_append]; exact ok.jmp c hcm x hx e) (by rw [List.nil_append, h0]; simp) hj
    obtain ⟨s3, p1, p2, p3, p4⟩ := run_threads ok t2 (t1 ++ [c]) s2 (by rw [h0, List.append_assoc]; rfl) q1 q2 q3
    refine ⟨s3, p1, p2, p3, ?_⟩
    rw [← p4, ← q4]
    rw [List.map_cons, List.flatten_cons, List.map_append, List.append_assoc]
    unfold thrL
    rw [List.map_cons, List.map_map]
    show runR s (mkT threadW.data.toList :: _) = _
    simp only [runR]
    rw [hr, if_pos rfl]
    rfl
theorem lines_plain {ini : List Int} {thr : List (List Ins)} (ok : OkP ini thr) : ∀ w ∈ linesP ini thr, Plain 10 w := by
  intro w hw
  rcases List.mem_cons.1 hw with rfl | hw
  · refine line_plain (fun v hv => ?_) (by decide)
    rcases List.mem_cons.1 hv with rfl | hv
    · exact fine_cellsW.2.2.1
    · obtain ⟨n, _, rfl⟩ := List.mem_map.1 hv
      exact (fine_itoa n).2.2.1
  · obtain ⟨l, hl, hw⟩ := List.mem_flatten.1 hw
    obtain ⟨c, hc, rfl⟩ := List.mem_map.1 hl
    rcases List.mem_cons.1 hw with rfl | hw
    · exact fine_threadW.2.2.1
    · obtain ⟨x, hx, rfl⟩ := List.mem_map.1 hw
      exact plain_blank (line_plain (fun v hv => (words_fine (ok.ins c hc x hx) v hv).2.2.1) (by decide)) (by decide)
/-- THE ROUND TRIP: a right program's text is read as it. -/
theorem text_back {ini : List Int} {thr : List (List Ins)} (ok : OkP ini thr) : doneR (runR rd0 (cutF (textP ini thr) 10)) = ⟨ini, thr, 0, 0⟩ := by
  unfold textP
  rw [lines_back (by unfold linesP; simp) (lines_plain ok)]
  unfold linesP
  rw [List.map_cons, List.cons_append]
  have hc := read_cells { rd0 with ln := rd0.ln + 1 } ok.i1 ok.i8 ok.nums rfl
  obtain ⟨s2, q1, q2, q3, q4⟩ := run_threads ok thr [] { rd0 with ln := rd0.ln + 1, ini := ini } rfl rfl rfl (fun j hj => by cases hj)
  simp only [runR]
  rw [hc, if_pos rfl]
  show doneR (runR { rd0 with ln := rd0.ln + 1, ini := ini } _) = _
  rw [q4]
  unfold doneR
  rw [if_pos rfl, outR_ok (by rw [q2]; have := ok.t1; omega) (by rw [q2]; exact far_none q3), q1, q2]
end Go.Proofs.YthopmdfichfhdaaGreatDoor
