/-
  What a RunSaga answers is not too long. No statement of the seat is proved here.
-/
import Derived.Test.YtbpijollcjdkhaaDoorU1
namespace Go.Proofs.YtbpijollcjdkhaaDoor
open Go.ChangeShapes Go.WideShapes Go.ChangeAt Go.RowKit
set_option linter.unusedVariables false
set_option linter.unusedSimpArgs false

theorem hears_lim {l : List Step} (hl : l.length ≤ 20) (ht : ∀ i (hi : i < l.length), l[i].tries ≤ 5) : ∀ (ms : List Msg) (p : Sg × List Int), Ok l p.1 → Ok l (hears l p ms).1 ∧ (hears l p ms).2.length = p.2.length + ms.length ∧ (hears l p ms).1.cmds.length ≤ p.1.cmds.length + 22 * ms.length
  | [], p, h => ⟨h, by simp [hears], by simp [hears]⟩
  | m :: ms, p, h => by
    have h1 := h.hear ht m
    have h2 := hear_cmds h ht m
    obtain ⟨k1, k2, k3⟩ := hears_lim hl ht ms (hearS l p.1 m, p.2 ++ [codeS l p.1 m]) h1
    simp only [hears]
    refine ⟨k1, ?_, ?_⟩
    · rw [k2]; simp; omega
    · dsimp only at k3
      simp only [List.length_cons]
      omega
theorem logF_lim (l : List Step) (ms : List Msg) : LogLim (logF l ms) := by
  unfold logF
  by_cases h1 : 4096 < l.length ∨ 4096 < ms.length
  · rw [if_pos h1]; exact ⟨by simp, by simp, by simp⟩
  rw [if_neg h1]
  by_cases h2 : sagaB l = false
  · rw [if_pos h2]; exact ⟨by simp, by simp, by simp⟩
  rw [if_neg h2]
  by_cases h3 : 300 < ms.length
  · rw [if_pos h3]; exact ⟨by simp, by simp, by simp⟩
  rw [if_neg h3]
  have hb : sagaB l = true := by simpa using h2
  have hlen : 1 ≤ l.length ∧ l.length ≤ 20 := Classical.byContradiction fun hn => by rw [sagaB_len hn] at hb; simp at hb
  have ht : ∀ i (hi : i < l.length), l[i].tries ≤ 5 := fun i hi => by
    have hat : StepAt l i hi := Classical.byContradiction fun hn => by rw [sagaB_not i hi hn] at hb; simp at hb
    have := hat.1
    unfold stepB0 at this
    simp only [Bool.and_eq_true, decide_eq_true_eq] at this
    omega
  obtain ⟨k1, k2, k3⟩ := hears_lim hlen.2 ht ms (beginS l, []) (Ok.begin l)
  have hbc : (beginS l).cmds.length ≤ 20 := by have := fwd_cmds l (zeroS l); simp only [zeroS, List.length_nil] at this; unfold beginS; simp only [zeroS]; omega
  have hd := done_len k1
  simp only [List.length_nil] at k2
  refine ⟨?_, ?_, ?_⟩
  · show (hears l (beginS l, []) ms).2.length ≤ _
    omega
  · show (hears l (beginS l, []) ms).1.cmds.length ≤ _
    dsimp only at k3
    omega
  · show ((hears l (beginS l, []) ms).1.done.map (nameAt l)).length ≤ _
    rw [List.length_map]
    omega
end Go.Proofs.YtbpijollcjdkhaaDoor
