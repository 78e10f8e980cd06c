/-
  The contracts of spec's scanner: fail, over. No statement of the seat is proved here.
-/
import Derived.Test.YtbfoijeboaebdaaDoorPlain
import Derived.BigQuiet
import Derived.Deep.QuietTactic
namespace Go.Proofs.YtbfoijeboaebdaaDoor
open Go.ChangeShapes Go.WideShapes Go.ChangeAt Go.RowKit
set_option linter.unusedVariables false
set_option maxRecDepth 100000 in
set_option maxHeartbeats 400000 in
theorem specFail {B g : Nat} {s : ByteArray} {p ln cl : Nat} {l : List Tok} {bad : Nat} {v : Value} {w0 w : World} (c q : Nat) (h : Sp B g s p ln cl l 0 bad v w0 w) :
    Calls Tryd.prog 52 #[.pointer (some ⟨g, 0, none⟩), .int .i64 c, .int .i64 q] w fun e w' => e = .returned (.tuple #[]) ∧ Sp B g s p ln cl l c q v w0 w' := by
  have c5 := h.blk.cell 5
  have f5 := h.blk.fro 5
  have c6 := h.blk.cell 6
  have f6 := h.blk.fro 6
  simp at c5 c6
  have H := (h.set5 c).set6 q
  clear h
  go_enter Tryd.func52, Tryd.ntmps52
  go_wp2
  go_end0
  exact ⟨rfl, H⟩

set_option maxRecDepth 100000 in
set_option maxHeartbeats 1000000 in
theorem specOver {B g : Nat} {s : ByteArray} {p ln cl : Nat} {l : List Tok} {code bad : Nat} {v : Value} {w0 w : World} (hs : s.size ≤ 65536) (hp : p < s.size) (hln : ln ≤ 100000) (hcl : cl ≤ 100000) (h : Sp B g s p ln cl l code bad v w0 w) :
    Calls Tryd.prog 53 #[.pointer (some ⟨g, 0, none⟩)] w fun e w' => e = .returned (.tuple #[]) ∧ Sp B g s (p + (Utf8.decode s p).2) (lineOn (Utf8.decode s p).1 ln) (colOn (Utf8.decode s p).1 cl) l code bad v w0 w' := by
  have c0 := h.blk.cell 0
  have c1 := h.blk.cell 1
  simp at c0 c1
  have c := specRune s p hs hp
  have hle := (decode_le s p).1
  have hft := decode_fits s p hp
  unfold lineOn colOn
  obtain ⟨R, hR⟩ : ∃ R, (Utf8.decode s p).1 = R := ⟨_, rfl⟩
  obtain ⟨K, hK⟩ : ∃ K, (Utf8.decode s p).2 = K := ⟨_, rfl⟩
  rw [hR, hK] at c ⊢
  rw [hR] at hle
  rw [hK] at hft
  clear hR hK
  by_cases h10 : R = 10
  · subst h10
    rw [if_pos rfl, if_pos rfl]
    go_enter Tryd.func53, Tryd.ntmps53
    go_wp2_with fail
    go_region_with (go_at_call 23; go_must (refine (c _).mono ?_; rintro e w1 ⟨rfl, hB1⟩))
    all_goals
      have h1 := (h.drew).bel hB1
      have d1 := h1.blk.cell 1
      have d2 := h1.blk.cell 2
      have d3 := h1.blk.cell 3
      have f1 := h1.blk.fro 1
      have f2 := h1.blk.fro 2
      have f3 := h1.blk.fro 3
      simp at d1 d2 d3
      have H := (((h1.set1 (p + K)).set3 (cl + 1)).set2 (ln + 1)).set3 1
      clear h h1
      go_wp2
      go_end0
      exact ⟨rfl, H⟩
  · rw [if_neg h10, if_neg h10]
    have q10 : ((R : Int) == 10) = false := by rw [beq_eq_false_iff_ne]; omega
    go_enter Tryd.func53, Tryd.ntmps53
    go_wp2_with fail
    go_region_with (go_at_call 23; go_must (refine (c _).mono ?_; rintro e w1 ⟨rfl, hB1⟩))
    all_goals
      have h1 := (h.drew).bel hB1
      have d1 := h1.blk.cell 1
      have d2 := h1.blk.cell 2
      have d3 := h1.blk.cell 3
      have f1 := h1.blk.fro 1
      have f2 := h1.blk.fro 2
      have f3 := h1.blk.fro 3
      simp at d1 d2 d3
      have H := (h1.set1 (p + K)).set3 (cl + 1)
      clear h h1
      go_wp2
      go_end0
      exact ⟨rfl, H⟩
end Go.Proofs.YtbfoijeboaebdaaDoor
