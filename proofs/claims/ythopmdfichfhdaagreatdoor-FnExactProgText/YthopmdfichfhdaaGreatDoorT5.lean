/-
  What is read is a right program. No statement of the seat is proved here.
-/
import Derived.Test.YthopmdfichfhdaaGreatDoorT4
namespace Go.Proofs.YthopmdfichfhdaaGreatDoor
open Go.ChangeShapes Go.WideShapes Go.ChangeAt Go.RowKit
set_option linter.unusedVariables false
set_option linter.unusedSimpArgs false

/-- What holds of a reader from line to line. -/
structure RdInv (s : Rd) : Prop where
  fit : RdFit s
  fst : IniFst s
  nums : ∀ v ∈ s.ini, rangeB v = true
  ins : ∀ c ∈ s.thr, ∀ x ∈ c, insB x s.ini.length = true
  who : ∃ wh, WhOk s wh
theorem insI_ok {ws : List ByteArray} {n : Nat} {x : Ins} (hn : n ≤ 8) (hne : ws.getD 0 ⟨#[]⟩ ≠ ⟨#[]⟩) (h : insI ws n = some x) : insB x n = true := by
  rcases idx_range (l := frmW) (t := ws.getD 0 ⟨#[]⟩) with h1 | ⟨k, hk, h1⟩
  · rw [insI_no (by rw [h1]; decide)] at h
    cases h
  · have hk14 : k < 14 := hk
    have hk1 : 1 ≤ k := by
      rcases Nat.eq_zero_or_pos k with e | e
      · subst e
        exfalso
        unfold idxV at h1
        cases hi : idxO frmW (ws.getD 0 ⟨#[]⟩) with
        | none => rw [hi] at h1; cases h1
        | some j =>
          rw [hi] at h1
          have hj : j = 0 := by have : ((j : Nat) : Int) = ((0 : Nat) : Int) := h1; omega
          subst hj
          unfold idxO at hi
          rw [List.findIdx?_eq_some_iff_getElem] at hi
          obtain ⟨hlt, hb, _⟩ := hi
          rw [beq_bytes] at hb
          exact hne (of_decide_eq_true hb).symm
      · exact e
    rw [insI_at h1] at h
    split at h
    · cases h
    · have hs := same_ins hk1 (by omega) ws n hn
      rw [h] at hs
      have h2 := hs.1
      have h3 := hs.2 x rfl
      unfold insS at h2 h3
      dsimp only at h2 h3
      rw [h3] at h2
      simp only [Option.isSome_some, Bool.and_eq_true] at h2
      exact h2.2
theorem inv0 : RdInv rd0 := ⟨⟨by simp [rd0], by simp [rd0], by simp [rd0], by simp [rd0]⟩, (fun h => by simp [rd0] at h), (fun v h => by cases h), (fun c h => by cases h), ⟨[], whok0 0⟩⟩
theorem read_inv {s : Rd} (h : RdInv s) (t : ByteArray) (h0 : (readR { s with ln := s.ln + 1 } t).1 = 0) (hl : 0 ≤ s.ln) : RdInv (readR { s with ln := s.ln + 1 } t).2 := by
  have hf : RdFit { s with ln := s.ln + 1 } := ⟨h.fit.ini, h.fit.thr, h.fit.cod, h.fit.jmp⟩
  have hfit := read_fit hf t h0
  have hfst := read_ini (s := { s with ln := s.ln + 1 }) h.fst t h0
  obtain ⟨wh, hwh⟩ := h.who
  have hw1 := hwh.line (l := s.ln + 1) (by omega)
  have key : (∀ v ∈ (readR { s with ln := s.ln + 1 } t).2.ini, rangeB v = true) ∧ (∀ c ∈ (readR { s with ln := s.ln + 1 } t).2.thr, ∀ x ∈ c, insB x (readR { s with ln := s.ln + 1 } t).2.ini.length = true) ∧ ∃ wh, WhOk (readR { s with ln := s.ln + 1 } t).2 wh := by
    unfold readR at h0 ⊢
    have hne := wordsF_ne (lineF t)
    cases hw : wordsF (lineF t) with
    | nil => exact ⟨h.nums, h.ins, ⟨wh, hw1⟩⟩
    | cons y ws =>
      rw [hw] at h0 hne
      simp only [wordsR] at h0 ⊢
      split at h0
      · rename_i h1
        rw [if_pos h1]
        unfold cellsR at h0 ⊢
        split at h0
        · cases h0
        · rename_i h2
          split at h0
          · rename_i h3
            rw [if_neg h2, if_pos h3]
            have hi0 : s.ini = [] := List.eq_nil_of_length_eq_zero (by simp only [not_or, Nat.not_lt] at h2; omega)
            have ht0 : s.thr = [] := by
              cases ht : s.thr with
              | nil => rfl
              | cons a l =>
                have := h.fst (by rw [ht]; simp)
                rw [hi0] at this
                simp at this
            refine ⟨?_, ?_, ⟨wh, hw1.ini _⟩⟩
            · intro v hv
              dsimp only at hv
              rw [hi0, List.nil_append] at hv
              obtain ⟨z, _, rfl⟩ := List.mem_map.1 hv
              exact num_range z
            · intro c hc
              dsimp only at hc
              rw [ht0] at hc
              cases hc
          · cases h0
      · rename_i h1
        rw [if_neg h1]
        split at h0
        · rename_i h2
          rw [if_pos h2]
          unfold threadR at h0 ⊢
          split at h0
          · cases h0
          · rename_i h3
            split at h0
            · cases h0
            · rename_i h4
              split at h0
              · cases h0
              · rename_i h5
                rw [if_neg h3, if_neg h4, if_neg h5]
                refine ⟨h.nums, ?_, ⟨wh ++ [[]], hw1.thread⟩⟩
                intro c hc
                dsimp only at hc ⊢
                rcases List.mem_append.1 hc with hc | hc
                · exact h.ins c hc
                · rw [List.mem_singleton.1 hc]
                  intro x hx
                  cases hx
        · rename_i h2
          rw [if_neg h2]
          unfold instrR at h0 ⊢
          rcases List.eq_nil_or_concat s.thr with e | ⟨th, c, e⟩
          · rw [e] at h0
            cases h0
          · rw [List.concat_eq_append] at e
            have hgl : s.thr.getLast? = some c := by rw [e]; simp
            have hdl : s.thr.dropLast = th := by rw [e]; simp
            rw [hgl] at h0 ⊢
            cases hx : insI (y :: ws) s.ini.length with
            | none => rw [hx] at h0; cases h0
            | some x =>
              rw [hx] at h0
              simp only [instrF, hdl] at h0 ⊢
              split at h0
              · cases h0
              · rename_i hc40
                rw [if_neg hc40]
                have hxb := insI_ok h.fit.ini (show (y :: ws).getD 0 ⟨#[]⟩ ≠ ⟨#[]⟩ from hne y (List.mem_cons_self ..)) hx
                have hlen : wh.length = th.length + 1 := by have := hwh.len; rw [e] at this; simpa using this
                obtain ⟨wt, r, hwr⟩ : ∃ wt r, wh = wt ++ [r] := by
                  rcases List.eq_nil_or_concat wh with q | ⟨a, b, q⟩
                  · rw [q] at hlen; simp at hlen
                  · exact ⟨a, b, by rw [q, List.concat_eq_append]⟩
                subst hwr
                refine ⟨h.nums, ?_, ⟨_, hw1.instr e (fun j hj => by have := (hwh.upto j hj).2; show j.ln < s.ln + 1; omega) (by show 1 ≤ s.ln + 1; omega) x⟩⟩
                intro d hd
                simp only [growR] at hd ⊢
                rcases List.mem_append.1 hd with hd | hd
                · exact h.ins d (by rw [e]; exact List.mem_append_left _ hd)
                · rw [List.mem_singleton.1 hd]
                  intro z hz
                  rcases List.mem_append.1 hz with hz | hz
                  · exact h.ins c (by rw [e]; simp) z hz
                  · rw [List.mem_singleton.1 hz]
                    exact hxb
  exact ⟨hfit, hfst, key.1, key.2.1, key.2.2⟩
theorem run_inv : ∀ (ls : List ByteArray) (s : Rd), RdInv s → 0 ≤ s.ln → (runR s ls).1 = 0 → RdInv (runR s ls).2
  | [], s, h, _, _ => h
  | l :: ls, s, h, hl, h0 => by
    simp only [runR] at h0 ⊢
    split at h0
    · rename_i h1
      rw [if_pos h1]
      have hln := read_ln { s with ln := s.ln + 1 } l h1
      exact run_inv ls _ (read_inv h l h1 hl) (by rw [hln]; show 0 ≤ s.ln + 1; omega) h0
    · rename_i h1
      exact absurd h0 h1
/-- What is read without a fault is a right program. -/
theorem read_right {ls : List ByteArray} {ini : List Int} {thr : List (List Ins)} (h : doneR (runR rd0 ls) = ⟨ini, thr, 0, 0⟩) : OkP ini thr := by
  unfold doneR at h
  split at h
  · rename_i h0
    have hv := run_inv ls rd0 inv0 (by decide) h0
    generalize (runR rd0 ls).2 = s at hv h
    unfold outR at h
    split at h
    · rename_i he
      injection h with h1 h2
      subst h1 h2
      unfold endR at he
      split at he
      · cases he
      · rename_i hne
        obtain ⟨wh, hwh⟩ := hv.who
        have hnf : ∀ j ∈ s.jmp, ¬ ((s.thr.getD j.th.toNat []).length : Int) < j.aim := by
          intro j hj hfar
          have key : ∀ l : List Jmp, j ∈ l → (farF s.thr l).1 ≠ 0 := by
            intro l
            induction l with
            | nil => intro h; cases h
            | cons a t ih =>
              intro hm
              unfold farF
              split
              · simp
              · rename_i hna
                rcases List.mem_cons.1 hm with rfl | hm
                · exact absurd hfar hna
                · exact ih hm
          exact key _ hj he
        refine ⟨hv.fst (by omega), hv.fit.ini, by omega, hv.fit.thr, hv.nums, hv.fit.cod, hv.ins, ?_⟩
        intro c hc x hx hop
        obtain ⟨i, hi, hic⟩ := List.getElem_of_mem hc
        obtain ⟨k, hk, hkx⟩ := List.getElem_of_mem hx
        have hi' : s.thr[i]? = some c := by rw [List.getElem?_eq_getElem hi, hic]
        have hk' : c[k]? = some x := by rw [List.getElem?_eq_getElem hk, hkx]
        have hwi : i < wh.length := by rw [hwh.len]; exact hi
        have hwl := hwh.lens i c wh[i] hi' (List.getElem?_eq_getElem hwi)
        obtain ⟨j, hj, q1, q2, q3⟩ := hwh.forth i k c wh[i] x ((wh[i])[k]'(by omega)) hi' hk' hop (List.getElem?_eq_getElem hwi) (List.getElem?_eq_getElem (by omega))
        have := hnf j hj
        rw [q2, Int.toNat_natCast, List.getD_eq_getElem?_getD, hi', q3] at this
        simp only [Option.getD_some] at this
        omega
    · rename_i he
      injection h with _ _ h3
      exact absurd h3 he
  · rename_i h0
    injection h with _ _ h3
    exact absurd h3 h0
/-- A program is right just if its text is read as it. -/
theorem right_iff {ini : List Int} {thr : List (List Ins)} : OkP ini thr ↔ doneR (runR rd0 (cutF (textP ini thr) 10)) = ⟨ini, thr, 0, 0⟩ := ⟨text_back, read_right⟩
end Go.Proofs.YthopmdfichfhdaaGreatDoor
