/-
  For all pairs of instructions the law's call returns true: impl.Apart and spec.Apart answer alike, and both instructions read as before. No condition.
-/
import Derived.Test.YtkdholpljacajaaA2
import Derived.ChangeOld
import Derived.ChangeSame
import Derived.ChangeSlices
import Derived.Deep.DeepHandedRow
namespace Go.Proofs.Ytkdholpljacajaa
open Go.ChangeShapes Go.WideShapes Go.ChangeAt Go.RowKit
set_option linter.unusedVariables false
set_option linter.unusedSimpArgs false

section
variable {H : Type} {enc : TypeId × Value → H} {w : World} {base : Nat} {spare : Nat → Bool} {held : Bool}
theorem openVal {fuel : Nat} {cs : List Value} {x : DataW H × List MemPlace} (h : DataW.trod enc Try.prog w base spare held fuel 23 cs = some x) : ∃ r n : Int, cs = [.int .i64 r, .int .i64 n] := by
  obtain ⟨xs, k, hk, hxy, hlen, hxl, hf⟩ := DataW.trod_struct Try.underlying23 h
  rw [show Try.prog.cellsOf 23 = 2 from by kernel_rfl] at hlen
  match xs, hxl, cs, hlen with
  | [y0, y1], _, [v0, v1], _ =>
    have g0 := hf 0 _ rfl
    have g1 := hf 1 _ rfl
    simp [show Try.prog.cellsOf 3 = 1 from by kernel_rfl] at g0 g1
    obtain ⟨s0, q0, _, _⟩ := DataW.trod_int Try.underlying3 g0
    obtain ⟨s1, q1, _, _⟩ := DataW.trod_int Try.underlying3 g1
    simp at q0 q1
    subst q0 q1
    exact ⟨s0, s1, rfl⟩
set_option maxRecDepth 100000 in
theorem openIns {fuel : Nat} {cs : List Value} {x : DataW H × List MemPlace} (h : DataW.trod enc Try.prog w base spare held fuel 25 cs = some x) : ∃ z : Ins, cs = (insC z).toList := by
  obtain ⟨xs, k, hk, hxy, hlen, hxl, hf⟩ := DataW.trod_struct Try.underlying25 h
  rw [show Try.prog.cellsOf 25 = 10 from by kernel_rfl] at hlen
  match xs, hxl, cs, hlen with
  | [y0, y1, y2, y3, y4, y5, y6, y7], _, [v0, v1, v2, v3, v4, v5, v6, v7, v8, v9], _ =>
    have g0 := hf 0 _ rfl
    have g1 := hf 1 _ rfl
    have g2 := hf 2 _ rfl
    have g3 := hf 3 _ rfl
    have g4 := hf 4 _ rfl
    have g5 := hf 5 _ rfl
    have g6 := hf 6 _ rfl
    have g7 := hf 7 _ rfl
    simp [show Try.prog.cellsOf 3 = 1 from by kernel_rfl, show Try.prog.cellsOf 23 = 2 from by kernel_rfl] at g0 g1 g2 g3 g4 g5 g6 g7
    obtain ⟨s0, q0, _, _⟩ := DataW.trod_int Try.underlying3 g0
    obtain ⟨s1, q1, _, _⟩ := DataW.trod_int Try.underlying3 g1
    obtain ⟨s2, q2, _, _⟩ := DataW.trod_int Try.underlying3 g2
    obtain ⟨s3, s3', q3⟩ := openVal g3
    obtain ⟨s4, s4', q4⟩ := openVal g4
    obtain ⟨s5, q5, _, _⟩ := DataW.trod_int Try.underlying3 g5
    obtain ⟨s6, q6, _, _⟩ := DataW.trod_int Try.underlying3 g6
    obtain ⟨s7, q7, _, _⟩ := DataW.trod_int Try.underlying3 g7
    simp at q0 q1 q2 q3 q4 q5 q6 q7
    obtain ⟨rfl, rfl⟩ := q3
    obtain ⟨rfl, rfl⟩ := q4
    subst q0 q1 q2 q5 q6 q7
    exact ⟨⟨s0, s1, s2, s3, s3', s4, s4', s5, s6, s7⟩, rfl⟩
end
theorem insC_inj {cs : Array Value} {z : Ins} (h : cs.toList = (insC z).toList) : Value.agg cs = insV z := by
  unfold insV
  rw [show cs = insC z from Array.toList_inj.1 h]
namespace fnExactApart
theorem laidOut : laidOutB Try.prog = true := by kernel_rfl
theorem own : ownKnob Try.prog.godebug = none := by kernel_rfl

set_option maxRecDepth 100000 in
theorem lifted (os : Os) (started : os.Started) (H : Type) (enc : TypeId × Value → H) :
    ReturnsInHanded {} Try.checked os 3 .any (Rows.fnExactApartSpec.pre6 enc Try.prog Try.f3 Rows.fnExactApartRow.domain false) (Rows.fnExactApartSpec.post enc Try.prog Try.f3 false true false false) := by
  refine returnsInHanded_of_change (C := Try.checked) own started (by kernel_rfl) Try.func3
    (ChangeSpec.witness6 (enc := enc) (C := Try.checked) false ⟨#[], #[.agg #[.int .i64 0, .int .i64 0, .int .i64 0, .int .i64 0, .int .i64 0, .int .i64 0, .int .i64 0, .int .i64 0, .int .i64 0, .int .i64 0], .agg #[.int .i64 0, .int .i64 0, .int .i64 0, .int .i64 0, .int .i64 0, .int .i64 0, .int .i64 0, .int .i64 0, .int .i64 0, .int .i64 0]], []⟩ 8 (by kernel_rfl) (by kernel_rfl) (by kernel_rfl) (by kernel_rfl)) ?_
  intro W base args ds gs before hval0 hW hcnd _
  have hval : ∀ (j : Nat) t v, Try.f3.params[j]? = some t → args[j]? = some v → Value.okWide Try.prog W .any base t v := hval0
  have hW' := hW
  obtain ⟨p, q, hA0, hV, rfl, hfz, hnd⟩ := hW
  have hA : DataW.TrodAll enc Try.prog W 0 (fun _ => true) true Try.f3.params.toList args.toList ds p := hA0
  rw [Try.params3] at hA hval
  obtain ⟨v0, vs0, d0, ds0, p0, q0, hargs, rfl, rfl, h0, r0⟩ := trodAll_cons hA
  obtain ⟨v1, vs1, d1, ds1, p1, q1, rfl, rfl, rfl, h1, r1⟩ := trodAll_cons r0
  obtain ⟨rfl, rfl, rfl⟩ := trodAll_nil r1
  obtain rfl : args = #[v0, v1] := by cases args; simp_all
  obtain ⟨rfl, rfl⟩ := trodVars_none hV
  obtain ⟨c0, rfl, -⟩ := okWide_struct Try.underlying25 (hval 0 25 v0 rfl rfl)
  obtain ⟨c1, rfl, -⟩ := okWide_struct Try.underlying25 (hval 1 25 v1 rfl rfl)
  have k0 := h0
  have k1 := h1
  have lt0 : ∀ x ∈ p0, x.block < W.heap.size := by obtain ⟨m, hm⟩ := k0; exact DataW.trod_lt m _ _ _ hm
  have lt1 : ∀ x ∈ p1, x.block < W.heap.size := by obtain ⟨m, hm⟩ := k1; exact DataW.trod_lt m _ _ _ hm
  obtain ⟨x0, e0⟩ : ∃ z : Ins, Value.agg c0 = insV z := by
    obtain ⟨fuel, hf⟩ := h0
    obtain ⟨z, hz⟩ := openIns hf
    exact ⟨z, insC_inj (by simpa [Value.cells] using hz)⟩
  obtain ⟨x1, e1⟩ : ∃ z : Ins, Value.agg c1 = insV z := by
    obtain ⟨fuel, hf⟩ := h1
    obtain ⟨z, hz⟩ := openIns hf
    exact ⟨z, insC_inj (by simpa [Value.cells] using hz)⟩
  clear hA0 hval0 hval
  rw [e0] at k0 hW'
  rw [e1] at k1 hW'
  rw [e0, e1]
  refine (apartWalk x0 x1 W).mono fun e W' ⟨he, bel⟩ => ?_
  subst he
  exact ⟨_, rfl, _, _, _, [], _, [], hW', trodAll_mk1 (shut_bool Try.underlying4 _), trodAll_cons_mk (Below.trod laidOut (by kernel_rfl) (of_decide_eq_true (by kernel_rfl)) k0 bel lt0) (trodAll_cons_mk (Below.trod laidOut (by kernel_rfl) (of_decide_eq_true (by kernel_rfl)) k1 bel lt1) trodAll_mk0), rfl, bel.frame _, fun h => by cases h⟩

theorem over : Rows.fnExactApartRow.holds Try.pinned (OpenSpec.ofChange Rows.fnExactApartSpec) :=
  OpenClaim.holds_of_wide 3 Try.f3 rfl rfl rfl rfl rfl rfl rfl ⟨rfl, rfl, rfl, rfl, rfl⟩ rfl rfl rfl rfl rfl (by kernel_rfl) Try.func3 (by kernel_rfl)
    (of_decide_eq_true (by kernel_rfl)) (by unfold Func.isWrapper; first | (rw [if_pos (by decide +kernel)]; kernel_rfl) | (rw [if_neg (by decide +kernel)]; exact ⟨rfl, rfl⟩))
    (fun os started H enc _ => lifted os started H enc)
end fnExactApart
/-- The given statement. -/
theorem apart_holds : Rows.FnExactApartSaid := fnExactApart.over
#print axioms apart_holds
end Go.Proofs.Ytkdholpljacajaa
