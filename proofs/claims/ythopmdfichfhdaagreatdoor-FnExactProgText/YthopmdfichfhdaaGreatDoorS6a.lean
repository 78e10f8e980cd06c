/-
  The document's reading of a program's text against the program's: jumps by their lines. The document's reading of a program's text: what goes on from line to line, plain. No statement of the seat is proved here.
-/
import Derived.Test.YthopmdfichfhdaaGreatDoorI15
import Derived.Test.YthopmdfichfhdaaGreatDoorS2
import Derived.Test.YthopmdfichfhdaaGreatDoorJ3b
namespace Go.Proofs.YthopmdfichfhdaaGreatDoor
open Go.ChangeShapes Go.WideShapes Go.ChangeAt Go.RowKit
set_option linter.unusedVariables false
set_option linter.unusedSimpArgs false

/-- The lines of all instructions, against the jumps that were noted. -/
structure WhOk (s : Rd) (wh : List (List Int)) : Prop where
  len : wh.length = s.thr.length
  lens : ∀ (i : Nat) (c : List Ins) (r : List Int), s.thr[i]? = some c → wh[i]? = some r → r.length = c.length
  back : ∀ j ∈ s.jmp, ∃ (i k : Nat) (c : List Ins) (r : List Int) (x : Ins), s.thr[i]? = some c ∧ c[k]? = some x ∧ wh[i]? = some r ∧ r[k]? = some j.ln ∧ j.th = (i : Int) ∧ x.op = 10 ∧ j.aim = x.tgt
  forth : ∀ (i k : Nat) (c : List Ins) (r : List Int) (x : Ins) (l : Int), s.thr[i]? = some c → c[k]? = some x → x.op = 10 → wh[i]? = some r → r[k]? = some l → ∃ j ∈ s.jmp, j.ln = l ∧ j.th = (i : Int) ∧ j.aim = x.tgt
  rise : s.jmp.Pairwise (fun a b => a.ln < b.ln)
  upto : ∀ j ∈ s.jmp, 1 ≤ j.ln ∧ j.ln ≤ s.ln
theorem whok0 (l : Int) : WhOk ⟨[], [], l, []⟩ [] := ⟨rfl, (fun i c r h => by cases h), (fun j h => by cases h), (fun i k c r x l h => by cases h), List.Pairwise.nil, (fun j h => by cases h)⟩
section
variable {s : Rd} {wh : List (List Int)}
theorem WhOk.line (h : WhOk s wh) {l : Int} (hl : s.ln ≤ l) : WhOk { s with ln := l } wh :=
  ⟨h.len, h.lens, h.back, h.forth, h.rise, fun j hj => ⟨(h.upto j hj).1, Int.le_trans (h.upto j hj).2 hl⟩⟩
theorem WhOk.ini (h : WhOk s wh) (l : List Int) : WhOk { s with ini := l } wh := ⟨h.len, h.lens, h.back, h.forth, h.rise, h.upto⟩
theorem get_snoc {α : Type} {l : List α} {a x : α} {i : Nat} (h : (l ++ [a])[i]? = some x) : l[i]? = some x ∨ (i = l.length ∧ x = a) := by
  by_cases hi : i < l.length
  · rw [List.getElem?_append_left hi] at h
    exact .inl h
  · have h2 := (List.getElem?_eq_some_iff.1 h).1
    simp at h2
    have : i = l.length := by omega
    subst this
    rw [List.getElem?_append_right (Nat.le_refl _), Nat.sub_self] at h
    simp at h
    exact .inr ⟨rfl, h.symm⟩
theorem get_old {α : Type} {l : List α} {a x : α} {i : Nat} (h : l[i]? = some x) : (l ++ [a])[i]? = some x := by
  rw [List.getElem?_append_left (List.getElem?_eq_some_iff.1 h).1]
  exact h
theorem WhOk.thread (h : WhOk s wh) : WhOk { s with thr := s.thr ++ [[]] } (wh ++ [[]]) := by
  have hl := h.len
  refine ⟨by simp [hl], fun i c r h1 h2 => ?_, fun j hj => ?_, fun i k c r x l h1 h2 h3 h4 h5 => ?_, h.rise, h.upto⟩
  · rcases get_snoc h1 with h1 | ⟨e1, e2⟩
    · rcases get_snoc h2 with h2 | ⟨e3, e4⟩
      · exact h.lens i c r h1 h2
      · have := (List.getElem?_eq_some_iff.1 h1).1; omega
    · rcases get_snoc h2 with h2 | ⟨e3, e4⟩
      · have := (List.getElem?_eq_some_iff.1 h2).1; omega
      · rw [e2, e4]; rfl
  · obtain ⟨i, k, c, r, x, h1, h2, h3, h4⟩ := h.back j hj
    exact ⟨i, k, c, r, x, get_old h1, h2, get_old h3, h4⟩
  · rcases get_snoc h1 with h1 | ⟨e1, e2⟩
    · rcases get_snoc h4 with h4 | ⟨e3, e4⟩
      · exact h.forth i k c r x l h1 h2 h3 h4 h5
      · subst e4; cases h5
    · subst e2; cases h2
theorem WhOk.instr {th : List (List Ins)} {c : List Ins} {wt : List (List Int)} {r : List Int} (h : WhOk s (wt ++ [r])) (hs : s.thr = th ++ [c]) (hj0 : ∀ j ∈ s.jmp, j.ln < s.ln) (h1 : 1 ≤ s.ln) (x : Ins) : WhOk (growR s th c x) (wt ++ [r ++ [s.ln]]) := by
  have hl := h.len
  rw [hs] at hl
  simp at hl
  have hlr : r.length = c.length := h.lens th.length c r (by rw [hs]; simp) (by rw [← hl]; simp)
  have hmid : ∀ (i : Nat) (c' : List Ins) (r' : List Int), (th ++ [c ++ [x]])[i]? = some c' → (wt ++ [r ++ [s.ln]])[i]? = some r' → (i < th.length ∧ s.thr[i]? = some c' ∧ (wt ++ [r])[i]? = some r') ∨ (i = th.length ∧ c' = c ++ [x] ∧ r' = r ++ [s.ln]) := by
    intro i c' r' h1 h2
    rcases get_snoc h1 with h1 | ⟨e1, e2⟩
    · rcases get_snoc h2 with h2 | ⟨e3, e4⟩
      · have := (List.getElem?_eq_some_iff.1 h1).1
        exact .inl ⟨this, by rw [hs]; exact get_old h1, get_old h2⟩
      · have := (List.getElem?_eq_some_iff.1 h1).1; omega
    · rcases get_snoc h2 with h2 | ⟨e3, e4⟩
      · have := (List.getElem?_eq_some_iff.1 h2).1; omega
      · exact .inr ⟨e1, e2, e4⟩
  have hold : ∀ (i k : Nat) (c0 : List Ins) (r0 : List Int) (y : Ins) (l : Int), s.thr[i]? = some c0 → c0[k]? = some y → (wt ++ [r])[i]? = some r0 → r0[k]? = some l → ∃ c1 r1, (th ++ [c ++ [x]])[i]? = some c1 ∧ c1[k]? = some y ∧ (wt ++ [r ++ [s.ln]])[i]? = some r1 ∧ r1[k]? = some l := by
    intro i k c0 r0 y l h1 h2 h3 h4
    rw [hs] at h1
    rcases get_snoc h1 with h1 | ⟨e1, e2⟩
    · rcases get_snoc h3 with h3 | ⟨e3, e4⟩
      · exact ⟨c0, r0, get_old h1, h2, get_old h3, h4⟩
      · have := (List.getElem?_eq_some_iff.1 h1).1; omega
    · rcases get_snoc h3 with h3 | ⟨e3, e4⟩
      · have := (List.getElem?_eq_some_iff.1 h3).1; omega
      · subst e2 e4 e1
        exact ⟨c0 ++ [x], r0 ++ [s.ln], by simp, get_old h2, by rw [e3]; simp, get_old h4⟩
  have hnew : (th ++ [c ++ [x]])[th.length]? = some (c ++ [x]) ∧ (wt ++ [r ++ [s.ln]])[th.length]? = some (r ++ [s.ln]) := ⟨by simp, by rw [← hl]; simp⟩
  unfold growR
  refine ⟨by simp [hl], fun i c' r' h1 h2 => ?_, ?_, ?_, ?_, ?_⟩
  · rcases hmid i c' r' h1 h2 with ⟨_, h3, h4⟩ | ⟨_, rfl, rfl⟩
    · exact h.lens i c' r' h3 h4
    · simp [hlr]
  · intro j hj
    have key : (j ∈ s.jmp) ∨ (x.op = 10 ∧ j = ⟨s.ln, (th.length : Int), x.tgt⟩) := by
      dsimp only at hj
      split at hj
      · rename_i hop
        rcases List.mem_append.1 hj with hj | hj
        · exact .inl hj
        · exact .inr ⟨hop, List.mem_singleton.1 hj⟩
      · exact .inl hj
    rcases key with hj | ⟨hop, rfl⟩
    · obtain ⟨i, k, c0, r0, y, g1, g2, g3, g4, g5, g6, g7⟩ := h.back j hj
      obtain ⟨c1, r1, q1, q2, q3, q4⟩ := hold i k c0 r0 y j.ln g1 g2 g3 g4
      exact ⟨i, k, c1, r1, y, q1, q2, q3, q4, g5, g6, g7⟩
    · exact ⟨th.length, c.length, _, _, x, hnew.1, by simp, hnew.2, by rw [← hlr]; simp, rfl, hop, rfl⟩
  · intro i k c' r' y l g1 g2 g3 g4 g5
    dsimp only at g1 ⊢
    have sub : ∀ j ∈ s.jmp, j ∈ (if x.op = 10 then s.jmp ++ [⟨s.ln, (th.length : Int), x.tgt⟩] else s.jmp) := by
      intro j hj
      split
      · exact List.mem_append_left _ hj
      · exact hj
    rcases hmid i c' r' g1 g4 with ⟨_, h3, h4⟩ | ⟨e1, rfl, rfl⟩
    · obtain ⟨j, hj, q⟩ := h.forth i k c' r' y l h3 g2 g3 h4 g5
      exact ⟨j, sub j hj, q⟩
    · rcases get_snoc g2 with g2 | ⟨e2, e3⟩
      · rcases get_snoc g5 with g5 | ⟨e4, e5⟩
        · obtain ⟨j, hj, q⟩ := h.forth i k c r y l (by rw [hs, e1]; simp) g2 g3 (by rw [e1, ← hl]; simp) g5
          exact ⟨j, sub j hj, q⟩
        · have := (List.getElem?_eq_some_iff.1 g2).1; omega
      · rcases get_snoc g5 with g5 | ⟨e4, e5⟩
        · have := (List.getElem?_eq_some_iff.1 g5).1; omega
        · subst e3 e5
          rw [if_pos g3]
          exact ⟨_, List.mem_append_right _ (List.mem_singleton.2 rfl), rfl, by rw [e1], rfl⟩
  · dsimp only
    split
    · rw [List.pairwise_append]
      exact ⟨h.rise, List.pairwise_singleton _ _, fun a ha b hb => by rw [List.mem_singleton.1 hb]; exact hj0 a ha⟩
    · exact h.rise
  · intro j hj
    dsimp only at hj ⊢
    split at hj
    · rcases List.mem_append.1 hj with hj | hj
      · exact h.upto j hj
      · rw [List.mem_singleton.1 hj]
        exact ⟨h1, Int.le_refl _⟩
    · exact h.upto j hj
/-- Behind a line: how the lines of all instructions go on. -/
theorem far_none {thr : List (List Ins)} : ∀ {l : List Jmp}, (∀ j ∈ l, ¬ ((thr.getD j.th.toNat []).length : Int) < j.aim) → farF thr l = (0, 0)
  | [], _ => rfl
  | a :: t, h => by
    unfold farF
    rw [if_neg (h a (List.mem_cons_self ..))]
    exact far_none (fun j hj => h j (List.mem_cons_of_mem _ hj))
theorem far_some {thr : List (List Ins)} {L : Int} : ∀ {l : List Jmp}, l.Pairwise (fun a b => a.ln < b.ln) → (∃ j ∈ l, ((thr.getD j.th.toNat []).length : Int) < j.aim ∧ j.ln = L) → (∀ j ∈ l, ((thr.getD j.th.toNat []).length : Int) < j.aim → L ≤ j.ln) → farF thr l = (9, L)
  | [], _, ⟨j, hj, _⟩, _ => by cases hj
  | a :: t, hp, ⟨j, hj, h1, h2⟩, hl => by
    unfold farF
    rw [List.pairwise_cons] at hp
    by_cases ha : ((thr.getD a.th.toNat []).length : Int) < a.aim
    · rw [if_pos ha]
      have h3 := hl a (List.mem_cons_self ..) ha
      rcases List.mem_cons.1 hj with rfl | hj
      · rw [h2]
      · have := hp.1 j hj
        omega
    · rw [if_neg ha]
      rcases List.mem_cons.1 hj with rfl | hj
      · exact absurd h1 ha
      · exact far_some hp.2 ⟨j, hj, h1, h2⟩ (fun j hj => hl j (List.mem_cons_of_mem _ hj))
/-- The instruction k of the thread i jumps too far; its line is l. -/
def FarAt (s : Rd) (wh : List (List Int)) (i k : Nat) (l : Int) : Prop := ∃ c r x, s.thr[i]? = some c ∧ c[k]? = some x ∧ x.op = 10 ∧ (c.length : Int) < x.tgt ∧ wh[i]? = some r ∧ r[k]? = some l
/-- The least line of those that have been seen: of the threads ahead of i, of the instructions ahead of k of the thread i. -/
def LeastUp (s : Rd) (wh : List (List Int)) (i k : Nat) (L : Int) : Prop := (L = 0 ∧ ∀ i' k' l, FarAt s wh i' k' l → ¬ (i' < i ∨ (i' = i ∧ k' < k))) ∨ (0 < L ∧ (∃ i' k', FarAt s wh i' k' L) ∧ ∀ i' k' l, FarAt s wh i' k' l → (i' < i ∨ (i' = i ∧ k' < k)) → L ≤ l)
theorem FarAt.pos (h : WhOk s wh) {i k : Nat} {l : Int} (hf : FarAt s wh i k l) : 1 ≤ l := by
  obtain ⟨c, r, x, h1, h2, h3, h4, h5, h6⟩ := hf
  obtain ⟨j, hj, e1, _⟩ := h.forth i k c r x l h1 h2 h3 h5 h6
  rw [← e1]
  exact (h.upto j hj).1
theorem LeastUp.start : LeastUp s wh 0 0 0 := .inl ⟨rfl, fun i k l _ h => by omega⟩
/-- The next instruction is none that jumps too far. -/
theorem LeastUp.skip {i k : Nat} {L : Int} (h : LeastUp s wh i k L) (hn : ∀ l, ¬ FarAt s wh i k l) : LeastUp s wh i (k + 1) L := by
  have key : ∀ i' k' l, FarAt s wh i' k' l → (i' < i ∨ (i' = i ∧ k' < k + 1)) → (i' < i ∨ (i' = i ∧ k' < k)) := by
    intro i' k' l hf hb
    by_cases e : i' = i ∧ k' = k
    · obtain ⟨rfl, rfl⟩ := e
      exact absurd hf (hn l)
    · omega
  rcases h with ⟨e, h⟩ | ⟨e, h1, h2⟩
  · exact .inl ⟨e, fun i' k' l hf hb => h i' k' l hf (key i' k' l hf hb)⟩
  · exact .inr ⟨e, h1, fun i' k' l hf hb => h2 i' k' l hf (key i' k' l hf hb)⟩
theorem FarAt.uniq {i k : Nat} {l l' : Int} (h : FarAt s wh i k l) (h' : FarAt s wh i k l') : l = l' := by
  obtain ⟨c, r, x, h1, h2, h3, h4, h5, h6⟩ := h
  obtain ⟨c', r', x', g1, g2, g3, g4, g5, g6⟩ := h'
  rw [h5] at g5
  injection g5 with g5
  subst g5
  rw [h6] at g6
  injection g6
theorem LeastUp.take (ok : WhOk s wh) {i k : Nat} {L l : Int} (h : LeastUp s wh i k L) (hf : FarAt s wh i k l) (ht : L = 0 ∨ l < L) : LeastUp s wh i (k + 1) l := by
  refine .inr ⟨by have := hf.pos ok; omega, ⟨i, k, hf⟩, fun i' k' l' hf' hb => ?_⟩
  by_cases e : i' = i ∧ k' = k
  · obtain ⟨rfl, rfl⟩ := e
    rw [hf.uniq hf']
    exact Int.le_refl _
  · have hb' : i' < i ∨ (i' = i ∧ k' < k) := by omega
    rcases h with ⟨e0, h⟩ | ⟨e0, h1, h2⟩
    · exact absurd hb' (h i' k' l' hf')
    · have := h2 i' k' l' hf' hb'
      omega
theorem LeastUp.stay {i k : Nat} {L l : Int} (h : LeastUp s wh i k L) (hf : FarAt s wh i k l) (h0 : L ≠ 0) (ht : ¬ l < L) : LeastUp s wh i (k + 1) L := by
  rcases h with ⟨e0, h⟩ | ⟨e0, h1, h2⟩
  · exact absurd e0 h0
  · refine .inr ⟨e0, h1, fun i' k' l' hf' hb => ?_⟩
    by_cases e : i' = i ∧ k' = k
    · obtain ⟨rfl, rfl⟩ := e
      rw [← hf.uniq hf']
      omega
    · exact h2 i' k' l' hf' (by omega)
theorem LeastUp.next {i k : Nat} {L : Int} {c : List Ins} (h : LeastUp s wh i k L) (hc : s.thr[i]? = some c) (hk : c.length ≤ k) : LeastUp s wh (i + 1) 0 L := by
  have key : ∀ i' k' l, FarAt s wh i' k' l → (i' < i + 1 ∨ (i' = i + 1 ∧ k' < 0)) → (i' < i ∨ (i' = i ∧ k' < k)) := by
    intro i' k' l hf hb
    by_cases e : i' = i
    · subst e
      obtain ⟨c', r, x, h1, h2, _⟩ := hf
      rw [hc] at h1
      injection h1 with h1
      subst h1
      have := (List.getElem?_eq_some_iff.1 h2).1
      omega
    · omega
  rcases h with ⟨e, h⟩ | ⟨e, h1, h2⟩
  · exact .inl ⟨e, fun i' k' l hf hb => h i' k' l hf (key i' k' l hf hb)⟩
  · exact .inr ⟨e, h1, fun i' k' l hf hb => h2 i' k' l hf (key i' k' l hf hb)⟩
/-- At the end: the least line is the first jump's that goes too far. -/
theorem LeastUp.fin (ok : WhOk s wh) {L : Int} (h : LeastUp s wh s.thr.length 0 L) : 0 ≤ L ∧ (farF s.thr s.jmp = if L = 0 then (0, 0) else (9, L)) := by
  have key : ∀ j ∈ s.jmp, ((s.thr.getD j.th.toNat []).length : Int) < j.aim → ∃ i' k', FarAt s wh i' k' j.ln ∧ i' < s.thr.length := by
    intro j hj hfar
    obtain ⟨i, k, c, r, x, h1, h2, h3, h4, h5, h6, h7⟩ := ok.back j hj
    refine ⟨i, k, ⟨c, r, x, h1, h2, h6, ?_, h3, h4⟩, (List.getElem?_eq_some_iff.1 h1).1⟩
    rw [h5, Int.toNat_natCast, List.getD_eq_getElem?_getD, h1, h7] at hfar
    exact hfar
  rcases h with ⟨e, h⟩ | ⟨e, ⟨i, k, hf⟩, h2⟩
  · subst e
    refine ⟨Int.le_refl _, ?_⟩
    rw [if_pos rfl]
    refine far_none (fun j hj hfar => ?_)
    obtain ⟨i', k', hf, hi⟩ := key j hj hfar
    exact h i' k' j.ln hf (.inl hi)
  · refine ⟨by omega, ?_⟩
    rw [if_neg (by omega)]
    refine far_some ok.rise ?_ (fun j hj hfar => ?_)
    · obtain ⟨c, r, x, h1, h3, h4, h5, h6, h7⟩ := hf
      obtain ⟨j, hj, g1, g2, g3⟩ := ok.forth i k c r x L h1 h3 h4 h6 h7
      refine ⟨j, hj, ?_, g1⟩
      rw [g2, Int.toNat_natCast, List.getD_eq_getElem?_getD, h1, g3]
      exact h5
    · obtain ⟨i', k', hf', hi⟩ := key j hj hfar
      exact h2 i' k' j.ln hf' (.inl hi)
end
end Go.Proofs.YthopmdfichfhdaaGreatDoor

namespace Go.Proofs.YthopmdfichfhdaaGreatDoor
open Go.ChangeShapes Go.WideShapes Go.ChangeAt Go.RowKit
set_option linter.unusedVariables false
set_option linter.unusedSimpArgs false

/-! ### Words are not empty -/
theorem byteAt_lt {t : ByteArray} {k g : Nat} (h : byteAt t k = g) (hg : 0 < g) : k < t.size := by
  unfold byteAt at h
  split at h
  · assumption
  · omega
theorem wordsUp_ne (t : ByteArray) : ∀ k, ∀ y ∈ (wordsUp t k).1, 0 < y.size
  | 0 => fun y hy => by cases hy
  | k + 1 => by
    rw [wordsUp_succ]
    split
    · rename_i hb
      have hk := byteAt_lt hb (by decide)
      dsimp only
      split
      · rename_i hlt
        intro y hy
        rcases List.mem_append.1 hy with hy | hy
        · exact wordsUp_ne t k y hy
        · rw [List.mem_singleton.1 hy, ByteArray.size_extract]; omega
      · exact wordsUp_ne t k
    · exact wordsUp_ne t k
theorem wordsF_ne (t : ByteArray) : ∀ y ∈ wordsF t, y ≠ ⟨#[]⟩ := by
  have key : ∀ y ∈ wordsF t, 0 < y.size := by
    intro y hy
    unfold wordsF at hy
    split at hy
    · rename_i hlt
      rcases List.mem_append.1 hy with hy | hy
      · exact wordsUp_ne t _ y hy
      · rw [List.mem_singleton.1 hy, ByteArray.size_extract]; omega
    · exact wordsUp_ne t _ y hy
  intro y hy e
  have := key y hy
  rw [e] at this
  exact absurd this (by decide)
/-! ### Lines -/
/-- Where a thread is there, the cells are. -/
def IniFst (s : Rd) : Prop := 0 < s.thr.length → 0 < s.ini.length
theorem cells_no {ws : List ByteArray} {n : Nat} : insI (cellsW :: ws) n = none := insI_no (by show idxV frmW cellsW < 0; have : idxV frmW cellsW = -1 := (by kernel_rfl); rw [this]; decide)
theorem thread_no {ws : List ByteArray} {n : Nat} : insI (threadW :: ws) n = none := insI_no (by show idxV frmW threadW < 0; have : idxV frmW threadW = -1 := (by kernel_rfl); rw [this]; decide)
theorem instrF_none (s : Rd) (c : Option (List Ins)) : instrF s c none = (4, s) := by cases c <;> rfl
/-- A line that is neither the cells nor a thread is an instruction, or a fault. -/
theorem line_else {s : Rd} (hi : IniFst s) {y : ByteArray} {ws : List ByteArray} (h1 : ¬ (y = cellsW ∧ s.ini.length = 0 ∧ s.thr.length = 0)) (h2 : ¬ (y = threadW ∧ ws.length = 0 ∧ 0 < s.ini.length)) : wordsR s (y :: ws) = instrR s (y :: ws) := by
  show (if y = cellsW then cellsR s ws else if y = threadW then threadR s ws else instrR s (y :: ws)) = _
  by_cases hc : y = cellsW
  · rw [if_pos hc]
    unfold cellsR instrR
    rw [hc, cells_no, instrF_none, if_pos]
    left
    by_cases h0 : s.ini.length = 0
    · have h3 : 0 < s.thr.length := Nat.pos_of_ne_zero (fun h => h1 ⟨hc, h0, h⟩)
      exact hi h3
    · omega
  · rw [if_neg hc]
    by_cases ht : y = threadW
    · rw [if_pos ht]
      unfold threadR instrR
      rw [ht, thread_no, instrF_none]
      by_cases h0 : s.ini.length = 0
      · rw [if_pos h0]
      · rw [if_neg h0, if_pos]
        exact Nat.pos_of_ne_zero (fun h => h2 ⟨ht, h, by omega⟩)
    · rw [if_neg ht]
theorem read_ini {s : Rd} (hi : IniFst s) (t : ByteArray) (h0 : (readR s t).1 = 0) : IniFst (readR s t).2 := by
  unfold readR at h0 ⊢
  cases hw : wordsF (lineF t) with
  | nil => exact hi
  | cons y ws =>
    rw [hw] at h0
    simp only [wordsR] at h0 ⊢
    split at h0
    · rename_i h1
      rw [if_pos h1]
      unfold cellsR at h0 ⊢
      split at h0
      · cases h0
      · rename_i h2
        split at h0
        · rename_i h3
          rw [if_neg h2, if_pos h3]
          intro _
          simp only [List.length_append, List.length_map]
          omega
        · cases h0
    · rename_i h1
      rw [if_neg h1]
      split at h0
      · rename_i h2
        rw [if_pos h2]
        unfold threadR at h0 ⊢
        split at h0
        · cases h0
        · rename_i h3
          split at h0
          · cases h0
          · rename_i h4
            split at h0
            · cases h0
            · rename_i h5
              rw [if_neg h3, if_neg h4, if_neg h5]
              intro _
              dsimp only
              omega
      · rename_i h2
        rw [if_neg h2]
        unfold instrR at h0 ⊢
        cases hg : s.thr.getLast? with
        | none => rw [hg] at h0; cases h0
        | some c =>
          cases hx : insI (y :: ws) s.ini.length with
          | none => rw [hg, hx] at h0; cases h0
          | some x =>
            rw [hg, hx] at h0
            simp only [instrF] at h0 ⊢
            split at h0
            · cases h0
            · rename_i h3
              rw [if_neg h3]
              intro _
              show 0 < s.ini.length
              refine hi ?_
              cases hs : s.thr with
              | nil => rw [hs] at hg; cases hg
              | cons a l => simp
/-- What is kept of all lines ahead. -/
structure Ahead (ls : List ByteArray) (i : Nat) (s : Rd) (wh : List (List Int)) : Prop where
  run : runR rd0 (ls.take i) = (0, s)
  fit : RdFit s
  jin : JmpsIn s
  who : WhOk s wh
  fst : IniFst s
theorem Ahead.ln {ls : List ByteArray} {i : Nat} {s : Rd} {wh : List (List Int)} (h : Ahead ls i s wh) (hi : i ≤ ls.length) : s.ln = (i : Int) := by
  have := runR_ln rd0 (ls.take i) (by rw [h.run])
  rw [h.run, List.length_take] at this
  simp only [rd0] at this
  omega
/-- A line that is read. -/
theorem Ahead.next {ls : List ByteArray} {i : Nat} {s : Rd} {wh : List (List Int)} (h : Ahead ls i s wh) (hi : i < ls.length) {s' : Rd} (hr : readR { s with ln := s.ln + 1 } ls[i] = (0, s')) {wh' : List (List Int)} (hw : WhOk s' wh') : Ahead ls (i + 1) s' wh' := by
  have hf : RdFit { s with ln := s.ln + 1 } := ⟨h.fit.ini, h.fit.thr, h.fit.cod, h.fit.jmp⟩
  refine ⟨?_, ?_, ?_, hw, ?_⟩
  · rw [List.take_add_one, List.getElem?_eq_getElem hi]
    show runR rd0 (ls.take i ++ [ls[i]]) = _
    rw [runR_snoc _ _ _ (by rw [h.run]), h.run]
    simp only [runR]
    rw [hr]
    rfl
  · have := read_fit hf ls[i] (by rw [hr]); rwa [hr] at this
  · have := read_in (s := { s with ln := s.ln + 1 }) h.jin ls[i] (by rw [hr]); rwa [hr] at this
  · have := read_ini (s := { s with ln := s.ln + 1 }) h.fst ls[i] (by rw [hr]); rwa [hr] at this
/-- A line with a fault. -/
theorem Ahead.bad {ls : List ByteArray} {i : Nat} {s : Rd} {wh : List (List Int)} (h : Ahead ls i s wh) (hi : i < ls.length) {c : Int} {s' : Rd} (hr : readR { s with ln := s.ln + 1 } ls[i] = (c, s')) (hc : c ≠ 0) : doneR (runR rd0 ls) = ⟨[], [], c, (i : Int) + 1⟩ := by
  have e : ls = (ls.take i ++ [ls[i]]) ++ ls.drop (i + 1) := by
    rw [List.append_assoc]
    show ls = ls.take i ++ (ls[i] :: ls.drop (i + 1))
    rw [← List.drop_eq_getElem_cons hi, List.take_append_drop]
  have h1 : runR rd0 (ls.take i ++ [ls[i]]) = (c, { s with ln := s.ln + 1 }) := by
    rw [runR_snoc _ _ _ (by rw [h.run]), h.run]
    simp only [runR]
    rw [hr, if_neg hc]
  have h2 := runR_stop (ls.take i ++ [ls[i]]) (ls.drop (i + 1)) rd0 (by rw [h1]; exact hc)
  rw [← e, h1] at h2
  rw [h2]
  unfold doneR
  dsimp only
  rw [if_neg hc, h.ln (by omega)]
theorem Ahead.start (ls : List ByteArray) : Ahead ls 0 rd0 [] := ⟨by rw [List.take_zero]; rfl, ⟨by simp [rd0], by simp [rd0], by simp [rd0], by simp [rd0]⟩, (fun j hj => by cases hj), whok0 0, (fun h => by simp [rd0] at h)⟩
/-- Where there is no end's fault the program stands; else its code and line. -/
theorem outR_ok {s : Rd} (h0 : s.thr.length ≠ 0) (h : farF s.thr s.jmp = (0, 0)) : outR s = ⟨s.ini, s.thr, 0, 0⟩ := by
  unfold outR endR
  rw [if_neg h0, h]
  rfl
theorem outR_far {s : Rd} (h0 : s.thr.length ≠ 0) {l : Int} (h : farF s.thr s.jmp = (9, l)) : outR s = ⟨[], [], 9, l⟩ := by
  unfold outR endR
  rw [if_neg h0, h]
  rfl
theorem outR_none {s : Rd} (h0 : s.thr.length = 0) : outR s = ⟨[], [], 4, s.ln⟩ := by
  unfold outR endR
  rw [if_pos h0]
  rfl
end Go.Proofs.YthopmdfichfhdaaGreatDoor
