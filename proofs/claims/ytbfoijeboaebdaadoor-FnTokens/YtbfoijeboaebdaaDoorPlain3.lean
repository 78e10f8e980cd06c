/-
  The scanner's step at a lexeme, as plain data. No statement of the seat is proved here.
-/
import Derived.Test.YtbfoijeboaebdaaDoorScan5
namespace Go.Proofs.YtbfoijeboaebdaaDoor
open Go.ChangeShapes Go.WideShapes Go.ChangeAt Go.RowKit
set_option linter.unusedVariables false

theorem lexAt_ok {s : ByteArray} {p : Nat} (hp : p < s.size) {k : Nat} {t : ByteArray} {n e : Nat} (h : lexAt s p = .ok k t n e) : p < e ∧ e ≤ s.size ∧ Al s p e := by
  revert h
  unfold lexAt
  split
  · rename_i h1
    split
    · intro h; cases h
    · intro h
      injection h with _ _ _ h
      subst h
      have := wordEnd_lt hp h1
      exact ⟨this.1, this.2, wordEnd_al s p (by omega)⟩
  · split
    · rename_i h1
      split
      · intro h; cases h
      · split
        · intro h; cases h
        · split
          · intro h; cases h
          · intro h
            injection h with _ _ _ h
            subst h
            have := digEnd_lt hp h1
            exact ⟨this.1, this.2, endOf_al _ s p (by omega)⟩
    · split
      · rename_i h34
        split
        · rename_i hc
          intro h
          injection h with _ _ _ h
          subst h
          have h1 := read_al s p (p + 1) [] (by omega) hc
          have hl := decode_low' (s := s) (p := p) (by omega)
          have h2 := (Al.low hp hl.1).trans h1.1
          exact ⟨by omega, h2.size (by omega), h2⟩
        · intro h; cases h
      · split
        · intro h; cases h
        · rename_i hn
          intro h
          injection h with _ _ _ h
          subst h
          have := sign_al hp hn
          exact ⟨by omega, this.2.1, this.1⟩
theorem read_code (s : ByteArray) (a p : Nat) (acc : List UInt8) : (readFrom s a p acc).code = 0 ∨ (readFrom s a p acc).code = 3 ∨ (readFrom s a p acc).code = 4 := by
  induction hn : s.size - p using Nat.strongRecOn generalizing p acc with
  | _ n ih =>
    by_cases h : p < s.size
    · by_cases h34 : (Utf8.decode s p).1 = 34
      · rw [read_quote h h34]; exact .inl rfl
      · cases hw : wrongB s p
        · by_cases h32 : (Utf8.decode s p).1 < 32
          · rw [read_low h h34 hw h32]; exact .inr (.inr rfl)
          · by_cases h92 : (Utf8.decode s p).1 = 92
            · by_cases he : (esc s p).2 = 0
              · rw [read_bad h hw h92 he]; exact .inr (.inr rfl)
              · rw [read_esc h hw h92 he]
                have hb := (esc_bounds s p).2
                exact ih _ (by omega) _ _ rfl
            · rw [read_on h h34 hw h32 h92]
              have hd := decode_pos s p
              exact ih _ (by omega) _ _ rfl
        · rw [read_wrong h h34 hw]; exact .inr (.inl rfl)
    · rw [read_out h]; exact .inr (.inr rfl)
theorem lexAt_bad {s : ByteArray} {p c q : Nat} (h : lexAt s p = .bad c q) : c ≠ 0 := by
  revert h
  unfold lexAt
  repeat' split
  all_goals
    intro h
    first
      | (cases h; done)
      | (injection h with h _; subst h; first | decide | assumption)
theorem lexOf_bad {s : ByteArray} {p c q : Nat} {l : List Tok} (h : lexOf s p l = .bad c q) : c ≠ 0 := by
  revert h
  unfold lexOf
  split
  · intro h; injection h with h _; subst h; decide
  · split
    · intro h; injection h with h _; subst h; decide
    · exact lexAt_bad
theorem lexOf_ok {s : ByteArray} {p : Nat} {l : List Tok} (hp : p < s.size) {k : Nat} {t : ByteArray} {n e : Nat} (h : lexOf s p l = .ok k t n e) : p < e ∧ e ≤ s.size ∧ Al s p e ∧ l.length ≠ 20000 := by
  revert h
  unfold lexOf
  split
  · intro h; cases h
  · split
    · intro h; cases h
    · rename_i h2
      intro h
      have := lexAt_ok hp h
      exact ⟨this.1, this.2.1, this.2.2, h2⟩
theorem scan_lexBad {s : ByteArray} {p ln cl : Nat} {l : List Tok} (hp : p < s.size) (hsl : slashes s p = false) (hbk : blankB (byt s p) = false) {c q : Nat} (h : lexOf s p l = .bad c q) : scan s p false ln cl l = .bad c q := by
  rw [scan, dif_pos hp, if_neg (by simp), if_neg (by simp [hsl]), if_neg (by simp [hbk])]
  unfold lexOf at h
  split at h
  · rename_i hw
    rw [if_pos hw]
    injection h with h1 h2
    rw [h1, h2]
  · rename_i hw
    rw [if_neg hw]
    split at h
    · rename_i h2
      rw [if_pos h2]
      injection h with h1 h2
      rw [h1, h2]
    · rename_i h2
      rw [if_neg h2, h]
theorem scan_lexOk {s : ByteArray} {p ln cl : Nat} {l : List Tok} (hp : p < s.size) (hsl : slashes s p = false) (hbk : blankB (byt s p) = false) {k : Nat} {t : ByteArray} {n e : Nat} (h : lexOf s p l = .ok k t n e) : scan s p false ln cl l = scan s e false (lineTo s p e ln cl).1 (lineTo s p e ln cl).2 (l ++ [⟨k, t, n, p, ln, cl⟩]) := by
  have he := (lexOf_ok hp h).1
  rw [scan, dif_pos hp, if_neg (by simp), if_neg (by simp [hsl]), if_neg (by simp [hbk])]
  unfold lexOf at h
  split at h
  · cases h
  · rename_i hw
    rw [if_neg hw]
    split at h
    · cases h
    · rename_i h2
      rw [if_neg h2, h]
      simp only
      rw [dif_pos he]

def Res.code : Res → Nat | .bad c _ => c | .ok _ => 0
def Res.place : Res → Nat | .bad _ q => q | .ok _ => 0
def Res.toks : Res → List Tok | .bad _ _ => [] | .ok l => l
/-- What Tokens comes to. -/
def tokF (s : ByteArray) : Res := if 65536 < s.size then .bad 2 0 else scan s 0 false 1 1 []
theorem tokF_len (s : ByteArray) (p : Nat) (rm : Bool) (ln cl : Nat) (l : List Tok) (hl : l.length ≤ 20000) : (scan s p rm ln cl l).toks.length ≤ 20000 := by
  induction hn : s.size - p using Nat.strongRecOn generalizing p rm ln cl l with
  | _ n ih =>
    rw [scan]
    have hd := decode_pos s p
    split
    · split
      · split
        · exact ih _ (by omega) _ _ _ _ _ hl rfl
        · split
          · simp [Res.toks]
          · exact ih _ (by omega) _ _ _ _ _ hl rfl
      · split
        · exact ih _ (by omega) _ _ _ _ _ hl rfl
        · split
          · exact ih _ (by omega) _ _ _ _ _ hl rfl
          · split
            · simp [Res.toks]
            · split
              · simp [Res.toks]
              · split
                · simp [Res.toks]
                · split
                  · exact ih _ (by omega) _ _ _ _ _ (by simp; omega) rfl
                  · simp [Res.toks]
    · exact hl
end Go.Proofs.YtbfoijeboaebdaaDoor
