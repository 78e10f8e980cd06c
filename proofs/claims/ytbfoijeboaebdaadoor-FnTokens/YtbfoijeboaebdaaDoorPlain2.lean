/-
  Lexemes end where a rune begins; a drawn region of reads with one call at its end. No statement of the seat is proved here.
-/
import Derived.Test.YtbfoijeboaebdaaDoorPlain
import Derived.StillTail
import Derived.BigQuiet
import Derived.Deep.QuietTactic
namespace Go.Proofs.YtbfoijeboaebdaaDoor
open Go.ChangeShapes Go.WideShapes Go.ChangeAt Go.RowKit
set_option linter.unusedVariables false

theorem still_of_quiet {P : Program} {ops : Array Oper} {w : World} {Q : Act → Prop} : ∀ (l : List Oper) (a : Act), wpQuiet P ops (fun w' => w' = w) Q l a → wpStill P ops w Q l a
  | [], a, h => h
  | o :: rest, a, h => by
    unfold wpQuiet at h
    unfold wpStill
    split at h
    · rename_i hw
      rw [if_pos hw]
      obtain ⟨v, h1, h2⟩ := h
      have h1 := h1 w rfl
      have h3 := still_of_quiet rest _ h2
      unfold Oper.quietAt at h1
      unfold Oper.still
      revert h1
      cases hr : (execOp a.eval o).run P w with
      | ok r w' =>
        cases r with
        | value u => rintro ⟨rfl, rfl⟩; exact ⟨rfl, h3⟩
        | skip => rintro ⟨rfl, rfl⟩; exact ⟨rfl, h3⟩
        | enter f args => rintro ⟨rfl, hc⟩; exact ⟨rfl, v, hc, h3⟩
        | _ => intro h; exact absurd h (by simp [Oper.quietUpon])
      | _ => intro h; exact absurd h (by simp [Oper.quietUpon])
    · rename_i hw
      rw [if_neg hw]
      exact still_of_quiet rest _ h

/-- A region that draws its order: n operations that only read, then the others one behind the other. -/
theorem wp_region_tail {P : Program} {id : Nat} {Q : Exit → Act → World → Prop} {a : Act} {w : World} {l : List Oper} (n : Nat) (hm : P.follows .mixedOrders = true) (hB : Region.lexTailB .any l.toArray n = true)
    (h : wpQuiet P l.toArray (fun w' => w' = w.drew) (fun a' => wpList P l.toArray Q (l.drop n) a' w.drew) (l.take n) a) : (Code.region id l.toArray true).wp P Q a w :=
  wp_region_still_tail n hm hB (still_of_quiet _ _ h)

theorem endOf_al (f : Int → Bool) (s : ByteArray) (p : Nat) (hp : p ≤ s.size) : Al s p (endOf f s p) := by
  induction hn : s.size - p using Nat.strongRecOn generalizing p with
  | _ n ih =>
    by_cases h : p < s.size
    · cases hf : f ((Utf8.decode s p).1 : Int)
      · rw [endOf_stop h hf]; exact .nil _
      · rw [endOf_on h hf]
        have := decode_pos s p
        exact .cons h (ih _ (by omega) _ (decode_fits s p h) rfl)
    · rw [endOf_out h, show p = s.size by omega]; exact .nil _
theorem wordEnd_al (s : ByteArray) (p : Nat) (hp : p ≤ s.size) : Al s p (wordEnd s p) := by
  unfold wordEnd
  split
  · rename_i h
    exact .cons h.1 (endOf_al _ _ _ (decode_fits s p h.1))
  · exact .nil _
theorem wordEnd_lt {s : ByteArray} {p : Nat} (hp : p < s.size) (hl : isLet ((Utf8.decode s p).1 : Int) = true) : p < wordEnd s p ∧ wordEnd s p ≤ s.size := by
  unfold wordEnd
  rw [if_pos ⟨hp, hl⟩]
  have := endOf_ge isNam s (p + (Utf8.decode s p).2) (decode_fits s p hp)
  have := decode_pos s p
  omega
theorem wordEnd_eq {s : ByteArray} {p : Nat} (hp : p < s.size) (hl : isLet ((Utf8.decode s p).1 : Int) = true) : endOf isNam s p = wordEnd s p := by
  unfold wordEnd
  rw [if_pos ⟨hp, hl⟩, endOf_on hp (by simp [isNam, hl])]
theorem digEnd_lt {s : ByteArray} {p : Nat} (hp : p < s.size) (hl : isDig ((Utf8.decode s p).1 : Int) = true) : p < endOf isDig s p ∧ endOf isDig s p ≤ s.size := by
  rw [endOf_on hp hl]
  have := endOf_ge isDig s (p + (Utf8.decode s p).2) (decode_fits s p hp)
  have := decode_pos s p
  omega

/-- A byte below 128 is a rune. -/
theorem decode_low {s : ByteArray} {p : Nat} (h : byt s p < 128) : Utf8.decode s p = (byt s p, 1) := by
  rcases decode_ascii' s p with ⟨_, h2⟩ | ⟨h1, _⟩
  · exact h2
  · omega
theorem decode_low' {s : ByteArray} {p : Nat} (h : (Utf8.decode s p).1 < 128) : byt s p < 128 ∧ Utf8.decode s p = (byt s p, 1) := by
  rcases decode_ascii' s p with ⟨h1, h2⟩ | ⟨h1, h2⟩
  · exact ⟨h1, h2⟩
  · omega
theorem Al.low {s : ByteArray} {p : Nat} (hp : p < s.size) (h : byt s p < 128) : Al s p (p + 1) := by
  have := Al.one hp
  rw [decode_low h] at this
  exact this

theorem hexV_low {c : Nat} (h : 0 ≤ hexV c) : c < 128 := by
  unfold hexV at h
  split at h
  · omega
  · split at h
    · omega
    · omega
theorem esc_al {s : ByteArray} {p : Nat} (hp : p < s.size) (hb : byt s p < 128) (he : (esc s p).2 ≠ 0) : Al s p (p + (esc s p).2) := by
  revert he
  unfold esc
  split
  · intro h; exact absurd rfl h
  · rename_i h0
    have h1 : p + 1 < s.size := by omega
    split
    · rename_i h2
      intro _
      exact (Al.low hp hb).trans (Al.low h1 (by omega))
    · split
      · rename_i h2
        intro _
        exact (Al.low hp hb).trans (Al.low h1 (by omega))
      · split
        · rename_i h2
          split
          · rename_i h3
            intro _
            have e2 := hexV_low h3.2.1
            have e3 := hexV_low h3.2.2
            exact (((Al.low hp hb).trans (Al.low h1 (by omega))).trans (Al.low (show p + 2 < s.size by omega) e2)).trans (Al.low (show p + 3 < s.size by omega) e3)
          · intro h; exact absurd rfl h
        · intro h; exact absurd rfl h
theorem read_al (s : ByteArray) (a p : Nat) (acc : List UInt8) (hp : p ≤ s.size) : (readFrom s a p acc).code = 0 → Al s p (readFrom s a p acc).stop ∧ p < (readFrom s a p acc).stop := by
  induction hn : s.size - p using Nat.strongRecOn generalizing p acc with
  | _ n ih =>
    by_cases h : p < s.size
    · by_cases h34 : (Utf8.decode s p).1 = 34
      · rw [read_quote h h34]
        intro _
        have hl := decode_low' (s := s) (p := p) (by omega)
        exact ⟨Al.low h hl.1, Nat.lt_succ_self _⟩
      · cases hw : wrongB s p
        · by_cases h32 : (Utf8.decode s p).1 < 32
          · rw [read_low h h34 hw h32]; intro h; simp at h
          · by_cases h92 : (Utf8.decode s p).1 = 92
            · by_cases he : (esc s p).2 = 0
              · rw [read_bad h hw h92 he]; intro h; simp at h
              · rw [read_esc h hw h92 he]
                have hb := (esc_bounds s p).2
                intro hc
                have hl := decode_low' (s := s) (p := p) (by omega)
                have := ih (s.size - (p + (esc s p).2)) (by omega) (p + (esc s p).2) _ (by omega) rfl hc
                exact ⟨(esc_al h hl.1 he).trans this.1, by omega⟩
            · rw [read_on h h34 hw h32 h92]
              intro hc
              have hd := decode_pos s p
              have hf := decode_fits s p h
              have := ih (s.size - (p + (Utf8.decode s p).2)) (by omega) (p + (Utf8.decode s p).2) _ hf rfl hc
              exact ⟨(Al.one h).trans this.1, by omega⟩
        · rw [read_wrong h h34 hw]; intro h; simp at h
    · rw [read_out h]; intro h; simp at h
theorem sign_al {s : ByteArray} {p : Nat} (hp : p < s.size) (h : signLen s p ≠ 0) : Al s p (p + signLen s p) ∧ p + signLen s p ≤ s.size ∧ signLen s p ≤ 2 ∧ byt s p < 128 := by
  revert h
  unfold signLen
  split
  · rename_i h1
    split
    · rename_i h2
      intro _
      exact ⟨(Al.low hp (by omega)).trans (Al.low h2.1 (by omega)), by omega, by omega, by omega⟩
    · intro _
      exact ⟨Al.low hp (by omega), by omega, by omega, by omega⟩
  · split
    · rename_i h2
      intro _
      have : byt s p < 128 := by
        simp only [List.mem_cons, List.mem_nil_iff, or_false] at h2
        omega
      exact ⟨Al.low hp this, by omega, by omega, this⟩
    · intro h; exact absurd rfl h
end Go.Proofs.YtbfoijeboaebdaaDoor
