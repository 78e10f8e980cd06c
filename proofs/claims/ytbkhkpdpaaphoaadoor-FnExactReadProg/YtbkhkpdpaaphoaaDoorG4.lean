/-
  Which blocks are touched. No statement of the seat is proved here.
-/
import Derived.Test.YtbkhkpdpaaphoaaDoorG3
namespace Go.Proofs.YtbkhkpdpaaphoaaDoor
open Go.ChangeShapes Go.WideShapes Go.ChangeAt Go.RowKit
set_option linter.unusedVariables false
set_option linter.unusedSimpArgs false

theorem markOwnNums {B : Nat} {v : Value} {l : List Int} {w : World} (s : Nat) (hs0 : 0 < s) (hs1 : s ≤ 100000000000000) (hl : l.length ≤ 1048576) (h : OwnNums B w v l) :
    Calls Tryd.prog 18 #[v, .int .i64 s] w fun e w' => e = .returned (.int .i64 (s + l.length : Nat)) ∧ OutS (BlkOf v) w w' ∧ MkdNums w' v l.length s := by
  rcases h.2 with ⟨rfl, h0⟩ | ⟨g, cap, cur, rfl, hB, hg, h1, h2, h3, h4⟩
  · refine (markIntS (hp := False) (g := 0) (cu := #[]) s hs0 hs1 hl (.inl ⟨id, rfl, h0⟩)).mono ?_
    rintro e w' ⟨he, ho, _⟩
    exact ⟨he, ho, .inl ⟨rfl, h0⟩⟩
  · refine (markIntS (hp := True) s hs0 hs1 hl (.inr ⟨trivial, cap, rfl, hg, by omega⟩)).mono ?_
    rintro e w' ⟨he, ho, hq⟩
    obtain ⟨cu, q1, _, q3⟩ := hq trivial
    exact ⟨he, ho, .inr ⟨g, cap, cu, rfl, q1, q3⟩⟩
/-- The slice has no block, or one of cells of this type. -/
def SlT (w : World) (v : Value) (E : TypeId) : Prop := (∀ b, ¬ BlkOf v b) ∨ ∃ g n c cur, v = .slice (some ⟨g, 0, none⟩) n c ∧ Blk w g E cur
theorem SlT.apart {w : World} {v v' : Value} {E E' : TypeId} (hne : E ≠ E') (h : SlT w v E) (h' : SlT w v' E') {b : Nat} (hb : BlkOf v b) (hb' : BlkOf v' b) : False := by
  rcases h with h | ⟨g, n, c, cur, rfl, hg⟩
  · exact h b hb
  rcases h' with h' | ⟨g', n', c', cur', rfl, hg'⟩
  · exact h' b hb'
  have e1 := hb.eq
  have e2 := hb'.eq
  subst e1
  subst e2
  unfold Blk at hg hg'
  rw [hg] at hg'
  simp at hg'
  exact hne hg'.2
theorem OwnNums.slt {B : Nat} {w : World} {v : Value} {l : List Int} (h : OwnNums B w v l) : SlT w v 3 := by
  rcases h.2 with ⟨rfl, _⟩ | ⟨g, cap, cur, rfl, hB, hg, _⟩
  · exact .inl (fun b hb => by obtain ⟨_, _, hb⟩ := hb; simp at hb)
  · exact .inr ⟨g, _, cap, cur, rfl, hg⟩
theorem MkdNums.slt {w : World} {v : Value} {m s : Nat} (h : MkdNums w v m s) : SlT w v 3 := by
  rcases h with ⟨rfl, _⟩ | ⟨g, cap, cur, rfl, hg, _⟩
  · exact .inl (fun b hb => by obtain ⟨_, _, hb⟩ := hb; simp at hb)
  · exact .inr ⟨g, _, cap, cur, rfl, hg⟩
theorem OwnNums.outA {B : Nat} {S : Nat → Prop} {w w' : World} {v : Value} {l : List Int} (h : OwnNums B w v l) (ho : OutS S w w') (hS : ∀ b, BlkOf v b → ¬ S b) : OwnNums B w' v l := by
  obtain ⟨hl, h⟩ := h
  refine ⟨hl, ?_⟩
  rcases h with h | ⟨g, cap, cur, hv, hB, hg, h1⟩
  · exact .inl h
  · refine .inr ⟨g, cap, cur, hv, hB, ?_, h1⟩
    rw [ho.block g (Array.getElem?_eq_some_iff.1 hg).1 (hS g (by rw [hv]; exact .mk))]; exact hg
theorem MkdNums.outA {S : Nat → Prop} {w w' : World} {v : Value} {m s : Nat} (h : MkdNums w v m s) (ho : OutS S w w') (hS : ∀ b, BlkOf v b → ¬ S b) : MkdNums w' v m s := by
  rcases h with h | ⟨g, cap, cur, hv, hg, h1⟩
  · exact .inl h
  · refine .inr ⟨g, cap, cur, hv, ?_, h1⟩
    unfold Blk at *
    rw [ho.block g (Array.getElem?_eq_some_iff.1 hg).1 (hS g (by rw [hv]; exact .mk))]; exact hg
theorem markOwnNums' {B : Nat} {v : Value} {l : List Int} {w : World} (s T : Nat) (hT : T = s + l.length) (hs0 : 0 < s) (hs1 : s ≤ 100000000000000) (hl : l.length ≤ 1048576) (h : OwnNums B w v l) :
    Calls Tryd.prog 18 #[v, .int .i64 s] w fun e w' => e = .returned (.int .i64 (T : Int)) ∧ OutS (BlkOf v) w w' ∧ MkdNums w' v l.length s := by
  subst hT
  exact markOwnNums s hs0 hs1 hl h
theorem heldIntS' {v : Value} {m s : Nat} {w : World} (T : Nat) (hT : T = s + m) (hs0 : 0 < s) (hs1 : s ≤ 100000000000000) (hm : m ≤ 1048576) (h : MkdNums w v m s) :
    Calls Tryd.prog 20 #[v, .int .i64 s] w fun e w' => e = .returned (.int .i64 (T : Int)) ∧ Below w.heap.size w w' := by
  subst hT
  exact heldIntS hs0 hs1 hm h
end Go.Proofs.YtbkhkpdpaaphoaaDoor
