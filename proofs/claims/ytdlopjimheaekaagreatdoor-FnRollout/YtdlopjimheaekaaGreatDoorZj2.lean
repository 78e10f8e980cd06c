/-
  Rules as plain data. Rows of rules of one's own whose choices lie elsewhere. Drawn rules: the source of draws, numbers that are odd, spec's rules. Drawn rules: what spec's rules gives. Drawn rules: the walk of spec's rules. Drawn rules: the walk of spec's rules. Drawn lists of layers: the walk. No statement of the seat is proved here.
-/
import Derived.Test.YtdlopjimheaekaaGreatDoorZj1
import Derived.Deep.Cut
import Derived.Deep.CutRange
import Derived.Deep.CutBlock
import Derived.Deep.RegionHeld3
namespace Go.Proofs.YtdlopjimheaekaaGreatDoor
open Go.ChangeShapes Go.WideShapes Go.ChangeAt Go.RowKit
set_option linter.unusedVariables false
set_option linter.unusedSimpArgs false

structure Rule where
  path : ByteArray
  kind : Int
  min' : Int
  max' : Int
  choices : List ByteArray
  must : Bool
  default' : ByteArray
/-- The slice v reads in w, out of blocks of S, as these. -/
def RulesAt (S : Nat → Prop) (w : World) (v : Value) (l : List Rule) : Prop := l.length ≤ maxLen ∧ ∃ a cap, v = .slice a l.length cap ∧ (0 < l.length → ∃ b off, a = some ⟨b, off, none⟩ ∧ S b ∧
  ∀ i (h : i < l.length), w.cell? ⟨b, off + i * 7, none⟩ = some (.string l[i].path) ∧ w.cell? ⟨b, off + i * 7 + 1, none⟩ = some (.int .i64 l[i].kind) ∧ w.cell? ⟨b, off + i * 7 + 2, none⟩ = some (.int .i64 l[i].min') ∧ w.cell? ⟨b, off + i * 7 + 3, none⟩ = some (.int .i64 l[i].max') ∧ w.cell? ⟨b, off + i * 7 + 5, none⟩ = some (.bool l[i].must) ∧ w.cell? ⟨b, off + i * 7 + 6, none⟩ = some (.string l[i].default') ∧ ∃ nv, w.cell? ⟨b, off + i * 7 + 4, none⟩ = some nv ∧ TxtsAt S w nv l[i].choices)
theorem RulesAt.keep {S : Nat → Prop} {w w' : World} {v : Value} {l : List Rule} (h : RulesAt S w v l) (hk : ∀ b i, S b → w'.cell? ⟨b, i, none⟩ = w.cell? ⟨b, i, none⟩) : RulesAt S w' v l := by
  obtain ⟨hl, a, cap, hv, h⟩ := h
  refine ⟨hl, a, cap, hv, fun h0 => ?_⟩
  obtain ⟨b, off, ha, hbB, hc⟩ := h h0
  refine ⟨b, off, ha, hbB, fun i hi => ?_⟩
  obtain ⟨c0, c1, c2, c3, c5, c6, nv, d1, d2⟩ := hc i hi
  exact ⟨(hk _ _ hbB).trans c0, (hk _ _ hbB).trans c1, (hk _ _ hbB).trans c2, (hk _ _ hbB).trans c3, (hk _ _ hbB).trans c5, (hk _ _ hbB).trans c6, nv, (hk _ _ hbB).trans d1, d2.keep hk⟩
theorem RulesAt.mono {S S' : Nat → Prop} {w : World} {v : Value} {l : List Rule} (h : RulesAt S w v l) (hS : ∀ b, S b → S' b) : RulesAt S' w v l := by
  obtain ⟨hl, a, cap, hv, h⟩ := h
  refine ⟨hl, a, cap, hv, fun h0 => ?_⟩
  obtain ⟨b, off, ha, hbB, hc⟩ := h h0
  refine ⟨b, off, ha, hS b hbB, fun i hi => ?_⟩
  obtain ⟨c0, c1, c2, c3, c5, c6, nv, d1, d2⟩ := hc i hi
  exact ⟨c0, c1, c2, c3, c5, c6, nv, d1, d2.mono hS⟩
theorem RulesAt.shape {S : Nat → Prop} {w : World} {v : Value} {l : List Rule} (h : RulesAt S w v l) : ∃ a c, v = .slice a l.length c := by
  obtain ⟨_, a, c, hv, _⟩ := h
  exact ⟨a, c, hv⟩
def RulesOK (left : Int) (x : Rule) : Prop := (x.path.size : Int) ≤ left ∧ (x.default'.size : Int) ≤ left ∧ (x.choices.length : Int) ≤ left ∧ ∀ y ∈ x.choices, TxtsOK left y
def RulesFit (x : Rule) : Prop := x.path.size ≤ maxLen ∧ x.default'.size ≤ maxLen ∧ ∀ y ∈ x.choices, TxtsFit y
theorem RulesOK.mono {a b : Int} {x : Rule} (h : RulesOK a x) (hab : a ≤ b) : RulesOK b x := by
  unfold RulesOK at *
  obtain ⟨h0, h1, h2, h3⟩ := h
  exact ⟨by omega, by omega, by omega, fun y hy => (h3 y hy).mono hab⟩
end Go.Proofs.YtdlopjimheaekaaGreatDoor

namespace Go.Proofs.YtdlopjimheaekaaGreatDoor
open Go.ChangeShapes Go.WideShapes Go.ChangeAt Go.RowKit
set_option linter.unusedVariables false
set_option linter.unusedSimpArgs false

/-- A rule, and the slice that holds its choices. -/
structure RuleV where
  x : Rule
  nv : Value
/-- The slice v reads in w, out of blocks of S, as these. -/
def RuleVsAt (S : Nat → Prop) (w : World) (v : Value) (l : List RuleV) : Prop := l.length ≤ maxLen ∧ ∃ a cap, v = .slice a l.length cap ∧ (0 < l.length → ∃ b off, a = some ⟨b, off, none⟩ ∧ S b ∧
  ∀ i (h : i < l.length), w.cell? ⟨b, off + i * 7, none⟩ = some (.string l[i].x.path) ∧ w.cell? ⟨b, off + i * 7 + 1, none⟩ = some (.int .i64 l[i].x.kind) ∧ w.cell? ⟨b, off + i * 7 + 2, none⟩ = some (.int .i64 l[i].x.min') ∧ w.cell? ⟨b, off + i * 7 + 3, none⟩ = some (.int .i64 l[i].x.max') ∧ w.cell? ⟨b, off + i * 7 + 4, none⟩ = some (l[i].nv) ∧ w.cell? ⟨b, off + i * 7 + 5, none⟩ = some (.bool l[i].x.must) ∧ w.cell? ⟨b, off + i * 7 + 6, none⟩ = some (.string l[i].x.default'))
theorem RuleVsAt.keep {S : Nat → Prop} {w w' : World} {v : Value} {l : List RuleV} (h : RuleVsAt S w v l) (hk : ∀ b i, S b → w'.cell? ⟨b, i, none⟩ = w.cell? ⟨b, i, none⟩) : RuleVsAt S w' v l := by
  obtain ⟨hl, a, cap, hv, h⟩ := h
  refine ⟨hl, a, cap, hv, fun h0 => ?_⟩
  obtain ⟨b, off, ha, hbB, hc⟩ := h h0
  refine ⟨b, off, ha, hbB, fun i hi => ?_⟩
  obtain ⟨c0, c1, c2, c3, c4, c5, c6⟩ := hc i hi
  exact ⟨(hk _ _ hbB).trans c0, (hk _ _ hbB).trans c1, (hk _ _ hbB).trans c2, (hk _ _ hbB).trans c3, (hk _ _ hbB).trans c4, (hk _ _ hbB).trans c5, (hk _ _ hbB).trans c6⟩
theorem RuleVsAt.mono {S S' : Nat → Prop} {w : World} {v : Value} {l : List RuleV} (h : RuleVsAt S w v l) (hS : ∀ b, S b → S' b) : RuleVsAt S' w v l := by
  obtain ⟨hl, a, cap, hv, h⟩ := h
  refine ⟨hl, a, cap, hv, fun h0 => ?_⟩
  obtain ⟨b, off, ha, hbB, hc⟩ := h h0
  refine ⟨b, off, ha, hS b hbB, fun i hi => ?_⟩
  obtain ⟨c0, c1, c2, c3, c4, c5, c6⟩ := hc i hi
  exact ⟨c0, c1, c2, c3, c4, c5, c6⟩
theorem RuleVsAt.shape {S : Nat → Prop} {w : World} {v : Value} {l : List RuleV} (h : RuleVsAt S w v l) : ∃ a c, v = .slice a l.length c := by
  obtain ⟨_, a, c, hv, _⟩ := h
  exact ⟨a, c, hv⟩
def RuleVsCells (x : RuleV) : List Value := [.string x.x.path, .int .i64 x.x.kind, .int .i64 x.x.min', .int .i64 x.x.max', x.nv, .bool x.x.must, .string x.x.default']
def RuleVsRow (l : List RuleV) : List Value := l.flatMap RuleVsCells
theorem RuleVsRow_length (l : List RuleV) : (RuleVsRow l).length = l.length * 7 := by
  induction l with
  | nil => rfl
  | cons a t ih => simp only [RuleVsRow, List.flatMap_cons, List.length_append, List.length_cons] at ih ⊢; rw [ih]; simp [RuleVsCells] <;> omega
theorem RuleVsRow_append (l k : List RuleV) : RuleVsRow (l ++ k) = RuleVsRow l ++ RuleVsRow k := by simp [RuleVsRow]
def RuleVsOne (l : List RuleV) : Prop := ∀ x ∈ l, (x.nv).oneCell' = true
theorem RuleVsRow_one {l : List RuleV} (h1 : RuleVsOne l) {u : Value} (hu : u ∈ RuleVsRow l) : u.oneCell' = true := by
  obtain ⟨x, hxl, hx⟩ := List.mem_flatMap.1 hu
  simp only [RuleVsCells, List.mem_cons, List.mem_nil_iff, or_false] at hx
  rcases hx with rfl | rfl | rfl | rfl | rfl | rfl | rfl
  · rfl
  · rfl
  · rfl
  · rfl
  · exact h1 x hxl
  · rfl
  · rfl
theorem RuleVsRow_at (l : List RuleV) (k : Nat) (hk : k < l.length) : (RuleVsRow l)[k * 7]? = some (.string l[k].x.path) ∧ (RuleVsRow l)[k * 7 + 1]? = some (.int .i64 l[k].x.kind) ∧ (RuleVsRow l)[k * 7 + 2]? = some (.int .i64 l[k].x.min') ∧ (RuleVsRow l)[k * 7 + 3]? = some (.int .i64 l[k].x.max') ∧ (RuleVsRow l)[k * 7 + 4]? = some (l[k].nv) ∧ (RuleVsRow l)[k * 7 + 5]? = some (.bool l[k].x.must) ∧ (RuleVsRow l)[k * 7 + 6]? = some (.string l[k].x.default') := by
  induction l generalizing k with
  | nil => simp at hk
  | cons a t ih =>
    have hc : RuleVsRow (a :: t) = RuleVsCells a ++ RuleVsRow t := by simp [RuleVsRow]
    rw [hc]
    cases k with
    | zero => simp [RuleVsCells]
    | succ k =>
      rw [List.getElem?_append_right (by simp [RuleVsCells] <;> omega), List.getElem?_append_right (by simp [RuleVsCells] <;> omega), List.getElem?_append_right (by simp [RuleVsCells] <;> omega), List.getElem?_append_right (by simp [RuleVsCells] <;> omega), List.getElem?_append_right (by simp [RuleVsCells] <;> omega), List.getElem?_append_right (by simp [RuleVsCells] <;> omega), List.getElem?_append_right (by simp [RuleVsCells] <;> omega)]
      have e0 : (k + 1) * 7 - (RuleVsCells a).length = k * 7 := by simp [RuleVsCells] <;> omega
      have e1 : (k + 1) * 7 + 1 - (RuleVsCells a).length = k * 7 + 1 := by simp [RuleVsCells] <;> omega
      have e2 : (k + 1) * 7 + 2 - (RuleVsCells a).length = k * 7 + 2 := by simp [RuleVsCells] <;> omega
      have e3 : (k + 1) * 7 + 3 - (RuleVsCells a).length = k * 7 + 3 := by simp [RuleVsCells] <;> omega
      have e4 : (k + 1) * 7 + 4 - (RuleVsCells a).length = k * 7 + 4 := by simp [RuleVsCells] <;> omega
      have e5 : (k + 1) * 7 + 5 - (RuleVsCells a).length = k * 7 + 5 := by simp [RuleVsCells] <;> omega
      have e6 : (k + 1) * 7 + 6 - (RuleVsCells a).length = k * 7 + 6 := by simp [RuleVsCells] <;> omega
      rw [e0, e1, e2, e3, e4, e5, e6]
      simpa using ih k (by simpa using hk)
/-- A row of one's own. -/
def OwnRuleVs (B : Nat) (w : World) (v : Value) (l : List RuleV) : Prop := w.ownsRow B 68 7 v l.length (RuleVsRow l)
theorem OwnRuleVs.below {B : Nat} {w w' : World} {v : Value} {l : List RuleV} (h : OwnRuleVs B w v l) (hb : Below w.heap.size w w') : OwnRuleVs B w' v l := by
  obtain ⟨hl, h⟩ := h
  refine ⟨hl, ?_⟩
  rcases h with h | ⟨g, cap, cur, hv, hB, hg, h1, h2, h3, h4⟩
  · exact .inl h
  · refine .inr ⟨g, cap, cur, hv, hB, ?_, h1, h2, h3, h4⟩
    rw [hb.block g (Array.getElem?_eq_some_iff.1 hg).1]; exact hg
theorem OwnRuleVs.mono {B B' : Nat} {w : World} {v : Value} {l : List RuleV} (h : OwnRuleVs B w v l) (hB : B' ≤ B) : OwnRuleVs B' w v l := by
  obtain ⟨hl, h⟩ := h
  refine ⟨hl, ?_⟩
  rcases h with h | ⟨g, cap, cur, hv, hg, h1⟩
  · exact .inl h
  · exact .inr ⟨g, cap, cur, hv, Nat.le_trans hB hg, h1⟩
theorem OwnRuleVs.value {B : Nat} {w : World} {v : Value} {l : List RuleV} (h : OwnRuleVs B w v l) :
    ∃ a cap, v = .slice a l.length cap ∧ l.length ≤ maxLen ∧ (0 < l.length → ∃ g, a = some ⟨g, 0, none⟩ ∧ B ≤ g ∧ g < w.heap.size ∧ ∀ j (hj : j < l.length), w.cell? ⟨g, j * 7, none⟩ = some (.string l[j].x.path) ∧ w.cell? ⟨g, j * 7 + 1, none⟩ = some (.int .i64 l[j].x.kind) ∧ w.cell? ⟨g, j * 7 + 2, none⟩ = some (.int .i64 l[j].x.min') ∧ w.cell? ⟨g, j * 7 + 3, none⟩ = some (.int .i64 l[j].x.max') ∧ w.cell? ⟨g, j * 7 + 4, none⟩ = some (l[j].nv) ∧ w.cell? ⟨g, j * 7 + 5, none⟩ = some (.bool l[j].x.must) ∧ w.cell? ⟨g, j * 7 + 6, none⟩ = some (.string l[j].x.default')) := by
  rcases h.2 with ⟨rfl, h0⟩ | ⟨g, cap, cur, rfl, hB, hg, h1, h2, h3, h4⟩
  · exact ⟨none, 0, by rw [h0], by omega, fun h => by omega⟩
  · refine ⟨_, cap, rfl, by omega, fun _ => ⟨g, rfl, hB, (Array.getElem?_eq_some_iff.1 hg).1, fun j hj => ?_⟩⟩
    simp only [World.cell?, hg]
    have h5 := RuleVsRow_at l j hj
    rw [← h4, List.getElem?_take, List.getElem?_take, List.getElem?_take, List.getElem?_take, List.getElem?_take, List.getElem?_take, List.getElem?_take, if_pos (by omega), if_pos (by omega), if_pos (by omega), if_pos (by omega), if_pos (by omega), if_pos (by omega), if_pos (by omega)] at h5
    simpa using h5
theorem OwnRuleVs.at {B : Nat} {w : World} {v : Value} {l : List RuleV} (h : OwnRuleVs B w v l) : RuleVsAt (fun b => B ≤ b ∧ b < w.heap.size) w v l := by
  obtain ⟨a, cap, hv, hl, hc⟩ := h.value
  refine ⟨hl, a, cap, hv, fun h0 => ?_⟩
  obtain ⟨g, rfl, hB, hg, hcell⟩ := hc h0
  refine ⟨g, 0, rfl, ⟨hB, hg⟩, fun i hi => ?_⟩
  simpa using hcell i hi
theorem OwnRuleVs.out {B : Nat} {S : Nat → Prop} {w w' : World} {v : Value} {l : List RuleV} (h : OwnRuleVs B w v l) (ho : OutS S w w') (hS : ∀ b, S b → b < B) : OwnRuleVs B w' v l := by
  obtain ⟨hl, h⟩ := h
  refine ⟨hl, ?_⟩
  rcases h with h | ⟨g, cap, cur, hv, hB, hg, h1⟩
  · exact .inl h
  · refine .inr ⟨g, cap, cur, hv, hB, ?_, h1⟩
    rw [ho.block g (Array.getElem?_eq_some_iff.1 hg).1 (fun hs => by have := hS g hs; omega)]; exact hg
theorem OwnRuleVs.blk {B b : Nat} {w : World} {v : Value} {l : List RuleV} (h : OwnRuleVs B w v l) (hb : BlkOf v b) : B ≤ b := by
  rcases h.2 with ⟨rfl, _⟩ | ⟨g, cap, cur, rfl, hB, _⟩
  · obtain ⟨_, _, h⟩ := hb; simp at h
  · rw [hb.eq]; exact hB
theorem OwnRuleVs.block {B : Nat} {w : World} {v : Value} {l : List RuleV} (h : OwnRuleVs B w v l) : ∀ k, v.ownBlock = some k → B ≤ k := by
  intro k hk
  rcases h.2 with ⟨rfl, _⟩ | ⟨g, cap, cur, rfl, hB, _⟩
  · simp [Value.ownBlock] at hk
  · simp [Value.ownBlock] at hk; omega
theorem OwnRuleVs.kept {B : Nat} {w w' : World} {v : Value} {l : List RuleV} {row : Option Nat} (h : OwnRuleVs B w v l) (hg : w.grownBy w' row) (hne : v.ownBlock = none ∨ v.ownBlock ≠ row) : OwnRuleVs B w' v l :=
  World.ownsRow.kept h hg hne
theorem OwnRuleVs.empty (B : Nat) (w : World) (hB : B ≤ w.heap.size) : OwnRuleVs B (w.alloc (.cells #[] 68)) (.slice (some ⟨w.heap.size, 0, none⟩) 0 0) [] :=
  ⟨rfl, .inr ⟨w.heap.size, 0, #[], rfl, hB, heap_alloc_last w _, Nat.le_refl _, Nat.zero_le _, rfl, rfl⟩⟩
theorem OwnRuleVs.nil (B : Nat) (w : World) : OwnRuleVs B w (.slice none 0 0) [] := ⟨rfl, .inl ⟨rfl, rfl⟩⟩
theorem RuleVsAt.news {S : Nat → Prop} {w : World} {b off len cap : Nat} {ys : List RuleV} (h : RuleVsAt S w (.slice (some ⟨b, off, none⟩) len cap) ys) : ∀ j u, (RuleVsRow ys)[j]? = some u → w.cell? ((⟨b, off, none⟩ : Addr).add j) = some u := by
  intro j u hj
  have hlt : j < ys.length * 7 := by
    have := (List.getElem?_eq_some_iff.1 hj).1
    rwa [RuleVsRow_length] at this
  obtain ⟨_, a, c, hv, hc⟩ := h
  obtain ⟨b', off', ha, _, hcell⟩ := hc (by omega)
  simp only [Value.slice.injEq] at hv
  obtain ⟨rfl, _, _⟩ := hv
  simp only [Option.some.injEq, Addr.mk.injEq] at ha
  obtain ⟨rfl, rfl, _⟩ := ha
  have hk : j / 7 < ys.length := by omega
  have hcc := hcell (j / 7) hk
  have hrr := RuleVsRow_at ys (j / 7) hk
  rw [addr_at]
  obtain ⟨c0, c1, c2, c3, c4, c5, c6⟩ := hcc
  obtain ⟨r0, r1, r2, r3, r4, r5, r6⟩ := hrr
  have h3 : j % 7 = 0 ∨ j % 7 = 1 ∨ j % 7 = 2 ∨ j % 7 = 3 ∨ j % 7 = 4 ∨ j % 7 = 5 ∨ j % 7 = 6 := by omega
  rcases h3 with h3 | h3 | h3 | h3 | h3 | h3 | h3
  · have e : j = j / 7 * 7 := by omega
    rw [e] at hj
    rw [r0] at hj
    rw [show off + j = off + j / 7 * 7 by omega, c0, ← hj]
  · have e : j = j / 7 * 7 + 1 := by omega
    rw [e] at hj
    rw [r1] at hj
    rw [show off + j = off + j / 7 * 7 + 1 by omega, c1, ← hj]
  · have e : j = j / 7 * 7 + 2 := by omega
    rw [e] at hj
    rw [r2] at hj
    rw [show off + j = off + j / 7 * 7 + 2 by omega, c2, ← hj]
  · have e : j = j / 7 * 7 + 3 := by omega
    rw [e] at hj
    rw [r3] at hj
    rw [show off + j = off + j / 7 * 7 + 3 by omega, c3, ← hj]
  · have e : j = j / 7 * 7 + 4 := by omega
    rw [e] at hj
    rw [r4] at hj
    rw [show off + j = off + j / 7 * 7 + 4 by omega, c4, ← hj]
  · have e : j = j / 7 * 7 + 5 := by omega
    rw [e] at hj
    rw [r5] at hj
    rw [show off + j = off + j / 7 * 7 + 5 by omega, c5, ← hj]
  · have e : j = j / 7 * 7 + 6 := by omega
    rw [e] at hj
    rw [r6] at hj
    rw [show off + j = off + j / 7 * 7 + 6 by omega, c6, ← hj]
theorem wpList_appendRuleVs {ops : Array Oper} {rest : List Oper} {o : Oper} {a : Act} {w : World} {Q : Exit → Act → World → Prop} (hgd : o.guard = none) (s x : Operand)
    (ho : o.op = .call { callee := .builtin .append, args := #[s, x], argTypes := #[23, 23] })
    (B : Nat) (v : Value) (l : List RuleV) (hs : a.eval s = v) (hown : OwnRuleVs B w v l) {S : Nat → Prop} (u : Value) (ys : List RuleV) (hx : a.eval x = u) (hsrc : RuleVsAt S w u ys)
    (hsz : l.length + ys.length ≤ 1000000) (hB : B ≤ w.heap.size) (hone : RuleVsOne ys)
    (h : ∀ v' w', OwnRuleVs B w' v' (l ++ ys) → Below B w w' → w.grownBy w' v.ownBlock → (v' = .slice none 0 0 → v = .slice none 0 0) → wpList Tryz.prog ops Q rest (a.put o.dst v') w') : wpList Tryz.prog ops Q (o :: rest) a w := by
  obtain ⟨i, hii, hz0, hz1, hz2⟩ := info_of (t := 68) (z := .agg #[.string ⟨#[]⟩, .int .i64 0, .int .i64 0, .int .i64 0, .slice none 0 0, .bool false, .string ⟨#[]⟩]) (n := 7) (b := 88) (by kernel_rfl)
  obtain ⟨_, ao, c, hv, hc⟩ := id hsrc
  by_cases h0 : 0 < ys.length
  · obtain ⟨b, off, rfl, _, _⟩ := hc h0
    subst hv
    refine wpList_append_own w hgd s x 23 ho B 68 i (.agg #[.string ⟨#[]⟩, .int .i64 0, .int .i64 0, .int .i64 0, .slice none 0 0, .bool false, .string ⟨#[]⟩]) 7 88 Tryz.underlying23 hii hz0 hz1 hz2 rfl (by decide) v l.length (RuleVsRow l) hs hown ⟨b, off, none⟩ ys.length c (RuleVsRow ys) hx (RuleVsRow_length ys) hsrc.news (fun u hu => RuleVsRow_one hone hu) ?_ ?_ hB ?_
    · unfold maxLen; omega
    · omega
    · intro v' w' h1 h2 h3
      have h4 : OwnRuleVs B w' v' (l ++ ys) := by
        unfold OwnRuleVs
        rw [RuleVsRow_append, List.length_append]
        exact h1
      have h5 := (Below.refl _ w).grown h2 hB (OwnRuleVs.block hown)
      exact h v' w' h4 h5 h2 (fun e => (h3.1 e).1)
  · have hy : ys = [] := List.length_eq_zero_iff.1 (by omega)
    subst hy
    subst hv
    have hrun : (Builtin.append_ #[23, 23] o.type #[v, .slice ao 0 c]).run Tryz.prog w = .ok v w := run_append_zero Tryz.underlying23 hii v _ _ hown ao c
    refine wpList_plain hgd fun K hK => ?_
    unfold Oper.wp
    simp only [List.length_nil] at hx
    simp [execOp, ho, resolve, invoke, builtin, hs, hx, hrun, Result.andThen]
    exact hK _ _ (h v w (by simpa using hown) (Below.refl _ _) (grown_refl _ _) id)
theorem step_appendRuleVs {ops : Array Oper} {o : Oper} {a : Act} {w : World} {K : Act → World → Prop} {Q : Exit → Act → World → Prop} {E : Prop}
    (hg : o.guard = none) (s x : Operand) (ho : o.op = Op.call { callee := Callee.builtin Builtin.append, args := #[s, x], argTypes := #[23, 23] })
    (B : Nat) (v : Value) (l : List RuleV) (hs : a.eval s = v) (hown : OwnRuleVs B w v l) {S : Nat → Prop} (u : Value) (ys : List RuleV) (hx : a.eval x = u) (hsrc : RuleVsAt S w u ys)
    (hsz : l.length + ys.length ≤ 1000000) (hB : B ≤ w.heap.size) (hone : RuleVsOne ys)
    (hK : ∀ va vn vc w', OwnRuleVs B w' (.slice va vn vc) (l ++ ys) → Below B w w' → w.grownBy w' v.ownBlock → (Value.slice va vn vc = .slice none 0 0 → v = .slice none 0 0) → K (a.put o.dst (.slice va vn vc)) w') :
    if Region.wanted o (yielded ops a.tmps) = true then Oper.wp Tryz.prog o a w K Q else E := by
  have hw : Region.wanted o (yielded ops a.tmps) = true := by simp [Region.wanted, hg]
  rw [if_pos hw]
  obtain ⟨i, hii, hz0, hz1, hz2⟩ := info_of (t := 68) (z := .agg #[.string ⟨#[]⟩, .int .i64 0, .int .i64 0, .int .i64 0, .slice none 0 0, .bool false, .string ⟨#[]⟩]) (n := 7) (b := 88) (by kernel_rfl)
  obtain ⟨_, ao, c, hv, hc⟩ := id hsrc
  by_cases h0 : 0 < ys.length
  · obtain ⟨b, off, rfl, _, _⟩ := hc h0
    subst hv
    refine wp_append_own w  s x 23 ho B 68 i (.agg #[.string ⟨#[]⟩, .int .i64 0, .int .i64 0, .int .i64 0, .slice none 0 0, .bool false, .string ⟨#[]⟩]) 7 88 Tryz.underlying23 hii hz0 hz1 hz2 rfl (by decide) v l.length (RuleVsRow l) hs hown ⟨b, off, none⟩ ys.length c (RuleVsRow ys) hx (RuleVsRow_length ys) hsrc.news (fun u hu => RuleVsRow_one hone hu) ?_ ?_ hB ?_
    · unfold maxLen; omega
    · omega
    · intro v' w' h1 h2 h3
      have h4 : OwnRuleVs B w' v' (l ++ ys) := by
        unfold OwnRuleVs
        rw [RuleVsRow_append, List.length_append]
        exact h1
      have h5 := (Below.refl _ w).grown h2 hB (OwnRuleVs.block hown)
      rcases h4.2 with ⟨rfl, _⟩ | ⟨g, cap, cur, rfl, _⟩
      · exact hK _ _ _ w' h4 h5 h2 (fun e => (h3.1 e).1)
      · exact hK _ _ _ w' h4 h5 h2 (fun e => (h3.1 e).1)
  · have hy : ys = [] := List.length_eq_zero_iff.1 (by omega)
    subst hy
    subst hv
    have hrun : (Builtin.append_ #[23, 23] o.type #[v, .slice ao 0 c]).run Tryz.prog w = .ok v w := run_append_zero Tryz.underlying23 hii v _ _ hown ao c
    unfold Oper.wp
    simp only [List.length_nil] at hx
    simp [execOp, ho, resolve, invoke, builtin, hs, hx, hrun, Result.andThen]
    obtain ⟨va, vc, hvv, _⟩ := hown.value
    subst hvv
    exact hK _ _ _ w (by simpa using hown) (Below.refl _ _) (grown_refl _ _) id
theorem RuleVsRow_take (l : List RuleV) (k : Nat) : RuleVsRow (l.take k) = (RuleVsRow l).take (k * 7) := by
  induction l generalizing k with
  | nil => simp [RuleVsRow]
  | cons a t ih =>
    cases k with
    | zero => simp [RuleVsRow]
    | succ k =>
      have hc : RuleVsRow (a :: t) = RuleVsCells a ++ RuleVsRow t := by simp [RuleVsRow]
      have hc2 : RuleVsRow (a :: t.take k) = RuleVsCells a ++ RuleVsRow (t.take k) := by simp [RuleVsRow]
      rw [List.take_succ_cons, hc, hc2, ih, List.take_append]
      have hl : (RuleVsCells a).length = 7 := rfl
      rw [List.take_of_length_le (l := RuleVsCells a) (by rw [hl]; omega), hl, show (k + 1) * 7 - 7 = k * 7 by omega]
theorem OwnRuleVs.take {B g m cap : Nat} {w : World} {l : List RuleV} (h : OwnRuleVs B w (.slice (some ⟨g, 0, none⟩) m cap) l) (k : Nat) (hk : k ≤ l.length) : OwnRuleVs B w (.slice (some ⟨g, 0, none⟩) k cap) (l.take k) := by
  rcases h.2 with ⟨hv, h0⟩ | ⟨g', cap', cur, hv, hB, hg, h1, h2, h3, h4⟩
  · simp at hv
  · simp at hv
    obtain ⟨rfl, rfl, rfl⟩ := hv
    have hkl : (l.take k).length = k := by rw [List.length_take]; omega
    unfold OwnRuleVs
    rw [hkl]
    refine ⟨by rw [RuleVsRow_length, hkl], .inr ⟨g, cap, cur, rfl, hB, hg, by omega, h2, h3, ?_⟩⟩
    rw [RuleVsRow_take, ← h4, List.take_take]
    congr 1
    omega
theorem OwnRuleVs.lt {B g m cap : Nat} {w : World} {l : List RuleV} (h : OwnRuleVs B w (.slice (some ⟨g, 0, none⟩) m cap) l) : g < w.heap.size ∧ B ≤ g ∧ m ≤ cap ∧ cap ≤ maxLen ∧ m = l.length := by
  rcases h.2 with ⟨hv, h0⟩ | ⟨g', cap', cur, hv, hB, hg, h1, h2, h3, h4⟩
  · simp at hv
  · simp at hv
    obtain ⟨rfl, rfl, rfl⟩ := hv
    exact ⟨(Array.getElem?_eq_some_iff.1 hg).1, hB, h1, h2, rfl⟩
theorem OwnRuleVs.cells {B g m c : Nat} {w : World} {l : List RuleV} (h : OwnRuleVs B w (.slice (some ⟨g, 0, none⟩) m c) l) : ∀ j (hj : j < l.length), w.cell? ⟨g, j * 7, none⟩ = some (.string l[j].x.path) ∧ w.cell? ⟨g, j * 7 + 1, none⟩ = some (.int .i64 l[j].x.kind) ∧ w.cell? ⟨g, j * 7 + 2, none⟩ = some (.int .i64 l[j].x.min') ∧ w.cell? ⟨g, j * 7 + 3, none⟩ = some (.int .i64 l[j].x.max') ∧ w.cell? ⟨g, j * 7 + 4, none⟩ = some (l[j].nv) ∧ w.cell? ⟨g, j * 7 + 5, none⟩ = some (.bool l[j].x.must) ∧ w.cell? ⟨g, j * 7 + 6, none⟩ = some (.string l[j].x.default') := by
  intro j hj
  obtain ⟨a3, c3, hv, _, hc⟩ := h.value
  obtain ⟨g', hg', _, _, hcc⟩ := hc (by omega)
  subst hg'
  simp only [Value.slice.injEq, Option.some.injEq, Addr.mk.injEq, and_true] at hv
  obtain ⟨rfl, _, _⟩ := hv
  exact hcc j hj
theorem OwnRuleVs.dropAt {B g m cap : Nat} {w : World} {l : List RuleV} (h : OwnRuleVs B w (.slice (some ⟨g, 0, none⟩) m cap) l) (k : Nat) (hk : k ≤ l.length) (c : Nat) : RuleVsAt (fun b => b = g) w (.slice (some ⟨g, k * 7, none⟩) (l.length - k) c) (l.drop k) := by
  obtain ⟨_, _, h3, h4, h5⟩ := h.lt
  refine ⟨by rw [List.length_drop]; omega, _, c, by rw [List.length_drop], fun _ => ⟨g, k * 7, rfl, rfl, fun i hi => ?_⟩⟩
  have hc := h.cells (k + i) (by simp at hi; omega)
  simp only [List.getElem_drop]
  have e0 : k * 7 + i * 7 = (k + i) * 7 := by omega
  have e1 : k * 7 + i * 7 + 1 = (k + i) * 7 + 1 := by omega
  have e2 : k * 7 + i * 7 + 2 = (k + i) * 7 + 2 := by omega
  have e3 : k * 7 + i * 7 + 3 = (k + i) * 7 + 3 := by omega
  have e4 : k * 7 + i * 7 + 4 = (k + i) * 7 + 4 := by omega
  have e5 : k * 7 + i * 7 + 5 = (k + i) * 7 + 5 := by omega
  have e6 : k * 7 + i * 7 + 6 = (k + i) * 7 + 6 := by omega
  rw [e0]
  exact hc
theorem OwnRuleVs.solid {B : Nat} {w : World} {v : Value} {l : List RuleV} (h : OwnRuleVs B w v l) (hne : v ≠ .slice none 0 0) : ∃ g c, v = .slice (some ⟨g, 0, none⟩) l.length c ∧ B ≤ g := by
  rcases h.2 with ⟨hv, h0⟩ | ⟨g', cap', cur, hv, hB, hg, h1, h2, h3, h4⟩
  · exact absurd hv hne
  · exact ⟨g', cap', hv, hB⟩
theorem OwnRuleVs.shaped {B m : Nat} {w : World} {v : Value} {l : List RuleV} (h : OwnRuleVs B w v l) (hm : l.length = m) (hp : 0 < m) : ∃ g c, v = .slice (some ⟨g, 0, none⟩) m c ∧ B ≤ g := by
  rcases h.2 with ⟨hv, h0⟩ | ⟨g', cap', cur, hv, hB, hg, h1, h2, h3, h4⟩
  · omega
  · exact ⟨g', cap', by rw [hv, hm], hB⟩
end Go.Proofs.YtdlopjimheaekaaGreatDoor

namespace Go.Proofs.YtdlopjimheaekaaGreatDoor
open Go.ChangeShapes Go.WideShapes Go.ChangeAt Go.RowKit
set_option linter.unusedVariables false
set_option linter.unusedSimpArgs false

theorem ints_new (w : World) (vs : Array Value) (ty : TypeId) (n : Nat) (hn : vs.size = n) (hv : (vs.toList.all fun v => match v with | .int .i64 _ => true | _ => false) = true) : ∀ k, k < n → ∃ z : Int, (w.alloc (.cells vs ty)).cell? ⟨w.heap.size, k, none⟩ = some (.int .i64 z) := fun k hk => by
  have hk' : k < vs.size := by omega
  have hc : (w.alloc (.cells vs ty)).cell? ⟨w.heap.size, k, none⟩ = some vs[k] := by
    simp only [World.cell?, heap_alloc_last]
    exact Array.getElem?_eq_getElem hk'
  have := List.all_eq_true.1 hv vs[k] (by simp)
  rw [hc]
  revert this
  cases vs[k] with
  | int kd z => cases kd <;> intro h <;> first | exact ⟨z, rfl⟩ | simp at h
  | _ => intro h; simp at h
set_option maxRecDepth 100000 in
set_option maxHeartbeats 1000000 in
theorem drawOdd {B g : Nat} {a : Option Addr} {len cap A : Nat} {w0 w : World} (hA : A ≤ 90000) (hl : len ≤ 1048576) (h : Src B g a len cap A w0 w) :
    Calls Tryz.prog 65 #[.pointer (some ⟨g, 0, none⟩)] w fun e w' => ∃ z : Int, e = .returned (.int .i64 z) ∧ Src B g a len cap (A + 3) w0 w' ∧ Only g w w' := by
  have hgl := h.lt
  have cx := fun (vs : Array Value) (ty : TypeId) => drawNext (w := w.alloc (.cells vs ty)) 12 (by omega) (by omega) hl (h.bel ((Below.refl _ w).alloc (Nat.le_refl _) _))
  have hO := fun (vs : Array Value) (ty : TypeId) => (Only.refl g w).bel ((Below.refl _ w).alloc (Nat.le_refl _) (.cells vs ty))
  have hI := fun (vs : Array Value) (ty : TypeId) => ints_new w vs ty 12
  have HO : Hid _ := hO
  have HI : Hid _ := hI
  clear hO hI h
  go_enter Tryz.func65, Tryz.ntmps65
  go_wp2_with (go_at_call 33; go_must (refine (cx _ _).mono ?_; rintro e w1 ⟨b, hb, rfl, hs1, ho1⟩; have hb12 : b < 12 := (by omega); have hb12' : (b : Int) < 12 := (by omega); obtain ⟨z, hz⟩ := HI.out #[.int .i64 0, .int .i64 (-1), .int .i64 1, .int .i64 2, .int .i64 63, .int .i64 64, .int .i64 65, .int .i64 4096, .int .i64 4097, .int .i64 9223372036854775807, .int .i64 (-9223372036854775808), .int .i64 30] 3 rfl (by decide) b hb12; have hz1 := (ho1.cell (b := w.heap.size) (i := b) (by simp) (by omega)).trans hz))
  go_ret
  exact ⟨z, rfl, hs1, (HO.out _ _).trans ho1⟩

/-! An append to a row that has no room. -/
theorem append_zero_eq {w : World} (t ty e : TypeId) (i : TypeInfo) (z : Value) (ht : Tryz.prog.underlying t = some (.slice e)) (hi : Tryz.prog.info? e = some i) (hz : i.zero = some z)
    (b a : Addr) (n c : Nat) (news : List Value) (hl : news.length = n * i.size) (hnews : ∀ j v, news[j]? = some v → w.cell? (a.add j) = some v) (h0 : 0 < n) (h63 : (n : Int) ≤ 9223372036854775807) (h48 : n * i.bytes ≤ 281474976710656) :
    (Builtin.append_ #[t, t] ty #[.slice (some b) 0 0, .slice (some a) n c]).run Tryz.prog w = (Builtin.append_ #[t, t] ty #[.slice none 0 0, .slice (some a) n c]).run Tryz.prog w := by
  have h1 := run_append_grow (P := Tryz.prog) w t ty e i z ht hi hz b 0 0 [] (by simp) (fun j v hj => by simp at hj) a n c news hl hnews (by omega) (by omega) (by rw [Nat.zero_add, nextslicecap_zero h0]; omega)
  have h2 := run_append_nil (P := Tryz.prog) w t ty e i z ht hi hz a n c news hl hnews h0 h63 h48
  rw [h1, h2]
  simp
theorem RuleVsAt.newAt (w : World) (y : RuleV) (g : Nat) (hg : w.heap.size = g) : RuleVsAt (fun b => b = g) (w.alloc (.cells #[.string y.x.path, .int .i64 y.x.kind, .int .i64 y.x.min', .int .i64 y.x.max', y.nv, .bool y.x.must, .string y.x.default'] 68)) (.slice (some ⟨g, 0, none⟩) 1 1) [y] := by
  subst hg
  refine ⟨by simp [maxLen], _, 1, rfl, fun _ => ⟨w.heap.size, 0, rfl, rfl, fun i hi => ?_⟩⟩
  have hi0 : i = 0 := by simpa using hi
  subst hi0
  have hb : Blk (w.alloc (.cells #[.string y.x.path, .int .i64 y.x.kind, .int .i64 y.x.min', .int .i64 y.x.max', y.nv, .bool y.x.must, .string y.x.default'] 68)) w.heap.size 68 #[.string y.x.path, .int .i64 y.x.kind, .int .i64 y.x.min', .int .i64 y.x.max', y.nv, .bool y.x.must, .string y.x.default'] := heap_alloc_last w _
  exact ⟨hb.cell 0, hb.cell 1, hb.cell 2, hb.cell 3, hb.cell 4, hb.cell 5, hb.cell 6⟩
/-- An append of one to a row of one's own, or to an empty row without room. -/
def RowOr (B b0 : Nat) (w : World) (v : Value) (l : List RuleV) : Prop := (l = [] ∧ v = .slice (some ⟨b0, 0, none⟩) 0 0) ∨ OwnRuleVs B w v l
theorem RowOr.value {B b0 : Nat} {w : World} {v : Value} {l : List RuleV} (h : RowOr B b0 w v l) : ∃ a c, v = .slice a l.length c := by
  rcases h with ⟨rfl, rfl⟩ | h
  · exact ⟨_, _, rfl⟩
  · obtain ⟨a, c, hv, _⟩ := h.value
    exact ⟨a, c, hv⟩
theorem RowOr.below {B b0 : Nat} {w w' : World} {v : Value} {l : List RuleV} (h : RowOr B b0 w v l) (hb : Below w.heap.size w w') : RowOr B b0 w' v l := by
  rcases h with h | h
  · exact .inl h
  · exact .inr (OwnRuleVs.below h hb)
theorem OwnRuleVs.only {B g : Nat} {w w' : World} {v : Value} {l : List RuleV} (h : OwnRuleVs B w v l) (ho : Only g w w') (hg : g < B) : OwnRuleVs B w' v l := by
  obtain ⟨hl, h⟩ := h
  refine ⟨hl, ?_⟩
  rcases h with h | ⟨k, cap, cur, hv, hB, hk, h1⟩
  · exact .inl h
  · refine .inr ⟨k, cap, cur, hv, hB, ?_, h1⟩
    rw [ho.2 k (Array.getElem?_eq_some_iff.1 hk).1 (by omega)]; exact hk
theorem RowOr.only {B b0 g : Nat} {w w' : World} {v : Value} {l : List RuleV} (h : RowOr B b0 w v l) (ho : Only g w w') (hg : g < B) : RowOr B b0 w' v l := by
  rcases h with h | h
  · exact .inl h
  · exact .inr (h.only ho hg)
theorem RowOr.block {B b0 : Nat} {w : World} {v : Value} {l : List RuleV} (h : RowOr B b0 w v l) : ∀ k, v.ownBlock = some k → k = b0 ∨ B ≤ k := by
  intro k hk
  rcases h with ⟨rfl, rfl⟩ | h
  · simp [Value.ownBlock] at hk; exact .inl hk.symm
  · exact .inr (OwnRuleVs.block h k hk)
theorem wpList_appendRowOr {ops : Array Oper} {rest : List Oper} {o : Oper} {a : Act} {w : World} {Q : Exit → Act → World → Prop} (hgd : o.guard = none) (s x : Operand)
    (ho : o.op = .call { callee := .builtin .append, args := #[s, x], argTypes := #[23, 23] })
    (B b0 : Nat) (v : Value) (l : List RuleV) (hs : a.eval s = v) (hown : RowOr B b0 w v l) {S : Nat → Prop} (u : Value) (y : RuleV) (hx : a.eval x = u) (hsrc : RuleVsAt S w u [y])
    (hsz : l.length + 1 ≤ 1000000) (hB : B ≤ w.heap.size) (hone : y.nv.oneCell' = true)
    (h : ∀ v' w', OwnRuleVs B w' v' (l ++ [y]) → w.grownBy w' v.ownBlock → wpList Tryz.prog ops Q rest (a.put o.dst v') w') : wpList Tryz.prog ops Q (o :: rest) a w := by
  have hone' : RuleVsOne [y] := fun z hz => by rw [List.mem_singleton] at hz; subst hz; exact hone
  rcases hown with ⟨rfl, rfl⟩ | hown
  · obtain ⟨i, hii, hz0, hz1, hz2⟩ := info_of (t := 68) (z := .agg #[.string ⟨#[]⟩, .int .i64 0, .int .i64 0, .int .i64 0, .slice none 0 0, .bool false, .string ⟨#[]⟩]) (n := 7) (b := 88) (by kernel_rfl)
    obtain ⟨_, ao, c, hv, hc⟩ := id hsrc
    obtain ⟨b, off, rfl, _, _⟩ := hc (by simp)
    subst hv
    have hnews := hsrc.news
    have hl : (RuleVsRow [y]).length = 1 * i.size := by rw [RuleVsRow_length, hz1]; rfl
    have he := append_zero_eq (w := w) 23 o.type 68 i _ Tryz.underlying23 hii hz0 ⟨b0, 0, none⟩ ⟨b, off, none⟩ 1 c (RuleVsRow [y]) hl hnews (by omega) (by omega) (by rw [hz2]; omega)
    obtain ⟨v', w', hr, h2, h3, h4⟩ := run_append_own (P := Tryz.prog) w B 23 o.type 68 i _ 7 88 Tryz.underlying23 hii hz0 hz1 hz2 rfl (by decide) (.slice none 0 0) 0 [] (World.ownsRow_nil w B _ 7) ⟨b, off, none⟩ 1 c (RuleVsRow [y]) (RuleVsRow_length [y]) hnews (fun u hu => RuleVsRow_one hone' hu) (by simp [maxLen]) (by omega) hB
    refine wpList_plain hgd fun K hK => ?_
    unfold Oper.wp execOp
    simp only [List.length_cons, List.length_nil, Nat.zero_add] at hx
    simp only [ho, resolve, invoke, builtin, Sem.run_bind, Sem.run_pure, Result.andThen_ok, List.map_toArray, List.map_cons, List.map_nil, hs, hx, he, hr]
    refine hK _ _ (h v' w' ?_ ⟨h3.os, h3.tape, h3.output, h3.size, fun k hk hne => h3.block k hk (by simp [Value.ownBlock])⟩)
    simpa [OwnRuleVs] using h2
  · refine wpList_appendRuleVs hgd s x ho B v l hs hown u [y] hx hsrc (by simpa using hsz) hB hone' ?_
    intro v' w' h1 h2 h3 h4
    exact h v' w' h1 h3
end Go.Proofs.YtdlopjimheaekaaGreatDoor

namespace Go.Proofs.YtdlopjimheaekaaGreatDoor
open Go.ChangeShapes Go.WideShapes Go.ChangeAt Go.RowKit
set_option linter.unusedVariables false
set_option linter.unusedSimpArgs false

/-- The three choices. -/
def chT : List ByteArray := [⟨#[108, 111, 119]⟩, ⟨#[104, 105, 103, 104]⟩, ⟨#[]⟩]
/-- A rule with short texts, its choices none or the three. -/
def RuleW (cb : Nat) (y : RuleV) : Prop := y.x.path.size ≤ 30 ∧ y.x.default'.size ≤ 30 ∧ ((y.nv = .slice none 0 0 ∧ y.x.choices = []) ∨ (y.nv = .slice (some ⟨cb, 0, none⟩) 3 3 ∧ y.x.choices = chT))
def rvCells (y : RuleV) : Array Value := #[.string y.x.path, .int .i64 y.x.kind, .int .i64 y.x.min', .int .i64 y.x.max', y.nv, .bool y.x.must, .string y.x.default']
def noCh (p : ByteArray) (k mn mx : Int) (m : Bool) (d : ByteArray) : RuleV := ⟨⟨p, k, mn, mx, [], m, d⟩, .slice none 0 0⟩
/-- The seven rules. -/
def allR (cb : Nat) : List RuleV := [noCh ⟨#[97, 46, 98]⟩ 1 (-5) 100 false ⟨#[55]⟩, noCh ⟨#[110, 101, 116, 46, 112, 111, 114, 116]⟩ 1 1 65535 true ⟨#[]⟩, noCh ⟨#[110, 101, 116, 46, 104, 111, 115, 116]⟩ 3 1 9 false ⟨#[]⟩,
  ⟨⟨⟨#[108, 111, 103, 46, 108, 101, 118, 101, 108]⟩, 4, 0, 0, chT, false, ⟨#[108, 111, 119]⟩⟩, .slice (some ⟨cb, 0, none⟩) 3 3⟩,
  noCh ⟨#[108, 111, 103, 46, 107, 101, 101, 112]⟩ 5 1000 7200000 false ⟨#[53, 115]⟩, noCh ⟨#[208, 191, 209, 131, 209, 130, 209, 140, 46, 208, 186]⟩ 2 0 0 true ⟨#[]⟩, noCh ⟨#[97, 46, 99]⟩ 2 0 0 false ⟨#[110, 111]⟩]
theorem allR_ok (cb : Nat) : ∀ y ∈ allR cb, RuleW cb y := by
  intro y hy
  simp only [allR, List.mem_cons, List.mem_nil_iff, or_false] at hy
  rcases hy with rfl | rfl | rfl | rfl | rfl | rfl | rfl
  · exact ⟨by decide, by decide, .inl ⟨rfl, rfl⟩⟩
  · exact ⟨by decide, by decide, .inl ⟨rfl, rfl⟩⟩
  · exact ⟨by decide, by decide, .inl ⟨rfl, rfl⟩⟩
  · exact ⟨by dsimp only; decide, by dsimp only; decide, .inr ⟨rfl, rfl⟩⟩
  · exact ⟨by decide, by decide, .inl ⟨rfl, rfl⟩⟩
  · exact ⟨by decide, by decide, .inl ⟨rfl, rfl⟩⟩
  · exact ⟨by decide, by decide, .inl ⟨rfl, rfl⟩⟩
def allCells (cb : Nat) : Array Value := ((allR cb).flatMap fun y => (rvCells y).toList).toArray
theorem all_at {w : World} {ab cb : Nat} (h : Blk w ab 68 (allCells cb)) (i : Nat) (hi : i < 7) : ∃ y : RuleV, RuleW cb y ∧ y ∈ allR cb ∧ w.cell? ⟨ab, i * 7, none⟩ = some (.string y.x.path) ∧ w.cell? ⟨ab, i * 7 + 1, none⟩ = some (.int .i64 y.x.kind) ∧ w.cell? ⟨ab, i * 7 + 2, none⟩ = some (.int .i64 y.x.min') ∧ w.cell? ⟨ab, i * 7 + 3, none⟩ = some (.int .i64 y.x.max') ∧ w.cell? ⟨ab, i * 7 + 4, none⟩ = some y.nv ∧ w.cell? ⟨ab, i * 7 + 5, none⟩ = some (.bool y.x.must) ∧ w.cell? ⟨ab, i * 7 + 6, none⟩ = some (.string y.x.default') := by
  have hh : i = 0 ∨ i = 1 ∨ i = 2 ∨ i = 3 ∨ i = 4 ∨ i = 5 ∨ i = 6 := by omega
  have hm : ∀ j (hj : j < 7), (allR cb)[j]'(by simpa [allR] using hj) ∈ allR cb := fun j hj => List.getElem_mem _
  rcases hh with rfl | rfl | rfl | rfl | rfl | rfl | rfl
  · exact ⟨_, allR_ok cb _ (hm 0 (by omega)), hm 0 (by omega), h.cell 0, h.cell 1, h.cell 2, h.cell 3, h.cell 4, h.cell 5, h.cell 6⟩
  · exact ⟨_, allR_ok cb _ (hm 1 (by omega)), hm 1 (by omega), h.cell 7, h.cell 8, h.cell 9, h.cell 10, h.cell 11, h.cell 12, h.cell 13⟩
  · exact ⟨_, allR_ok cb _ (hm 2 (by omega)), hm 2 (by omega), h.cell 14, h.cell 15, h.cell 16, h.cell 17, h.cell 18, h.cell 19, h.cell 20⟩
  · exact ⟨_, allR_ok cb _ (hm 3 (by omega)), hm 3 (by omega), h.cell 21, h.cell 22, h.cell 23, h.cell 24, h.cell 25, h.cell 26, h.cell 27⟩
  · exact ⟨_, allR_ok cb _ (hm 4 (by omega)), hm 4 (by omega), h.cell 28, h.cell 29, h.cell 30, h.cell 31, h.cell 32, h.cell 33, h.cell 34⟩
  · exact ⟨_, allR_ok cb _ (hm 5 (by omega)), hm 5 (by omega), h.cell 35, h.cell 36, h.cell 37, h.cell 38, h.cell 39, h.cell 40, h.cell 41⟩
  · exact ⟨_, allR_ok cb _ (hm 6 (by omega)), hm 6 (by omega), h.cell 42, h.cell 43, h.cell 44, h.cell 45, h.cell 46, h.cell 47, h.cell 48⟩
def chCells : Array Value := #[.string ⟨#[108, 111, 119]⟩, .string ⟨#[104, 105, 103, 104]⟩, .string ⟨#[]⟩]
theorem ch_at {w : World} {cb : Nat} (h : Blk w cb 9 chCells) : TxtsAt (fun b => b = cb) w (.slice (some ⟨cb, 0, none⟩) 3 3) chT := by
  refine ⟨by simp [chT, maxLen], _, 3, rfl, fun _ => ⟨cb, 0, rfl, rfl, fun i hi => ?_⟩⟩
  have hi3 : i < 3 := hi
  have hh : i = 0 ∨ i = 1 ∨ i = 2 := by omega
  rcases hh with rfl | rfl | rfl
  · exact h.cell 0
  · exact h.cell 1
  · exact h.cell 2
/-- A rule's cells with one turned. -/
theorem RuleW.one {cb : Nat} {y : RuleV} (h : RuleW cb y) : y.nv.oneCell' = true := by
  rcases h.2.2 with ⟨e, _⟩ | ⟨e, _⟩ <;> rw [e] <;> rfl
theorem RuleW.shape {cb : Nat} {y : RuleV} (h : RuleW cb y) : ∃ a n c, y.nv = .slice a n c := by
  rcases h.2.2 with ⟨e, _⟩ | ⟨e, _⟩ <;> exact ⟨_, _, _, e⟩
/-- What is drawn: rows of rules, the choices in a block. -/
def DrawnR (B b0 cb : Nat) (w : World) (v : Value) (l : List RuleV) : Prop := RowOr B b0 w v l ∧ (∀ y ∈ l, RuleW cb y) ∧ Blk w cb 9 chCells ∧ l.length ≤ 7
theorem DrawnR.at {B b0 cb : Nat} {w : World} {v : Value} {l : List RuleV} (h : DrawnR B b0 cb w v l) (lo : Nat) (hlo : lo ≤ B) (hc : lo ≤ cb) : RulesAt (fun b => lo ≤ b ∧ b < w.heap.size) w v (l.map (·.x)) := by
  obtain ⟨h1, h2, h3, h4⟩ := h
  have hcb := h3.lt
  rcases h1 with ⟨rfl, rfl⟩ | h1
  · exact ⟨by simp, _, 0, rfl, fun h0 => by simp at h0⟩
  obtain ⟨q1, a, cap, hv, hc'⟩ := h1.at
  refine ⟨by simpa using q1, a, cap, by simpa using hv, fun h0 => ?_⟩
  obtain ⟨b, off, ha, hb, hcell⟩ := hc' (by simpa using h0)
  refine ⟨b, off, ha, ⟨by omega, hb.2⟩, fun i hi => ?_⟩
  have hi' : i < l.length := by simpa using hi
  obtain ⟨c0, c1, c2, c3, c4, c5, c6⟩ := hcell i hi'
  simp only [List.getElem_map]
  refine ⟨c0, c1, c2, c3, c5, c6, l[i].nv, c4, ?_⟩
  rcases (h2 l[i] (List.getElem_mem hi')).2.2 with ⟨e1, e2⟩ | ⟨e1, e2⟩
  · rw [e1, e2]
    exact ⟨by simp, _, 0, rfl, fun h0 => by simp at h0⟩
  · rw [e1, e2]
    exact (ch_at h3).mono (fun b hb => by subst hb; exact ⟨hc, hcb⟩)
theorem DrawnR.ok {B b0 cb : Nat} {w : World} {v : Value} {l : List RuleV} (h : DrawnR B b0 cb w v l) : ∀ x ∈ l.map (·.x), RulesOK 1048576 x := by
  intro x hx
  obtain ⟨y, hy, rfl⟩ := List.mem_map.1 hx
  obtain ⟨h1, h2, h3⟩ := h.2.1 y hy
  unfold RulesOK
  have hch : y.x.choices = [] ∨ y.x.choices = chT := by rcases h3 with ⟨_, e⟩ | ⟨_, e⟩ <;> simp [e]
  rcases hch with e | e
  · rw [e]
    refine ⟨by omega, by omega, by simp, by simp⟩
  · rw [e]
    refine ⟨by omega, by omega, by simp [chT], fun t ht => ?_⟩
    simp only [chT, List.mem_cons, List.mem_nil_iff, or_false] at ht
    unfold TxtsOK
    rcases ht with rfl | rfl | rfl <;> decide
end Go.Proofs.YtdlopjimheaekaaGreatDoor

namespace Go.Proofs.YtdlopjimheaekaaGreatDoor
open Go.ChangeShapes Go.WideShapes Go.ChangeAt Go.RowKit
set_option linter.unusedVariables false
set_option linter.unusedSimpArgs false

instance : Inhabited RuleV := ⟨⟨⟨⟨#[]⟩, 0, 0, 0, [], false, ⟨#[]⟩⟩, .slice none 0 0⟩⟩
theorem OwnRuleVs.set {B g n c : Nat} {w : World} {l : List RuleV} (h : OwnRuleVs B w (.slice (some ⟨g, 0, none⟩) n c) l) (k : Nat) (hk : k < l.length) (y : RuleV) :
    OwnRuleVs B (((((((w.setCell ⟨g, k * 7, none⟩ (.string y.x.path)).setCell ⟨g, k * 7 + 1, none⟩ (.int .i64 y.x.kind)).setCell ⟨g, k * 7 + 2, none⟩ (.int .i64 y.x.min')).setCell ⟨g, k * 7 + 3, none⟩ (.int .i64 y.x.max')).setCell ⟨g, k * 7 + 4, none⟩ y.nv).setCell ⟨g, k * 7 + 5, none⟩ (.bool y.x.must)).setCell ⟨g, k * 7 + 6, none⟩ (.string y.x.default')) (.slice (some ⟨g, 0, none⟩) n c) (l.set k y) := by
  rcases h.2 with ⟨h1, _⟩ | ⟨g', cap, cur, h1, hB, hb, hn1, hn2, hn3, hn4⟩
  · cases h1
  simp only [Value.slice.injEq, Option.some.injEq, Addr.mk.injEq, and_true] at h1
  obtain ⟨rfl, hn, rfl⟩ := h1
  have hblk : Blk w g 68 cur := hb
  have h3 := ((((((hblk.set (k * 7) (.string y.x.path)).set (k * 7 + 1) (.int .i64 y.x.kind)).set (k * 7 + 2) (.int .i64 y.x.min')).set (k * 7 + 3) (.int .i64 y.x.max')).set (k * 7 + 4) y.nv).set (k * 7 + 5) (.bool y.x.must)).set (k * 7 + 6) (.string y.x.default')
  have hlen : (l.set k y).length = l.length := by simp
  have hlc : l.length * 7 ≤ cur.size := by rw [hn3]; exact Nat.mul_le_mul_right 7 hn1
  have hkc : ∀ x : RuleV, (RuleVsCells x).length = 7 := fun _ => rfl
  refine ⟨by rw [RuleVsRow_length], .inr ⟨g, c, _, by rw [hlen, hn], hB, h3, by rw [hlen]; exact hn1, hn2, by simp [hn3], ?_⟩⟩
  rw [hlen]
  apply List.ext_getElem?
  intro t
  by_cases ht : t < l.length * 7
  · have hd : t / 7 < l.length := Nat.div_lt_of_lt_mul (by omega)
    have hd' : t / 7 < (l.set k y).length := by rw [hlen]; exact hd
    have e1 : (RuleVsRow (l.set k y))[t]? = (RuleVsCells ((l.set k y)[t / 7]))[t % 7]? := flat_getD hkc (by omega) (l.set k y) t (by rw [hlen]; exact ht)
    have e2 : (RuleVsRow l)[t]? = (RuleVsCells l[t / 7])[t % 7]? := flat_getD hkc (by omega) l t ht
    rw [e1, List.getElem?_take_of_lt ht, Array.getElem?_toList]
    have e3 : cur[t]? = (RuleVsCells l[t / 7])[t % 7]? := by
      rw [← e2]
      have := congrArg (fun z => z[t]?) hn4
      rw [List.getElem?_take_of_lt ht, Array.getElem?_toList] at this
      exact this
    simp only [Array.getElem?_setIfInBounds, Array.size_setIfInBounds]
    by_cases hq : t / 7 = k
    · have hm : t % 7 = 0 ∨ t % 7 = 1 ∨ t % 7 = 2 ∨ t % 7 = 3 ∨ t % 7 = 4 ∨ t % 7 = 5 ∨ t % 7 = 6 := by omega
      have hge : (l.set k y)[t / 7] = y := by
        rw [List.getElem_set]
        rw [if_pos hq.symm]
      rw [hge]
      rcases hm with hm | hm | hm | hm | hm | hm | hm
      · have ht0 : k * 7 = t := by omega
        rw [if_neg (by omega), if_neg (by omega), if_neg (by omega), if_neg (by omega), if_neg (by omega), if_neg (by omega), if_pos ht0, if_pos (by omega), hm]
        rfl
      · have ht0 : k * 7 + 1 = t := by omega
        rw [if_neg (by omega), if_neg (by omega), if_neg (by omega), if_neg (by omega), if_neg (by omega), if_pos ht0, if_pos (by omega), hm]
        rfl
      · have ht0 : k * 7 + 2 = t := by omega
        rw [if_neg (by omega), if_neg (by omega), if_neg (by omega), if_neg (by omega), if_pos ht0, if_pos (by omega), hm]
        rfl
      · have ht0 : k * 7 + 3 = t := by omega
        rw [if_neg (by omega), if_neg (by omega), if_neg (by omega), if_pos ht0, if_pos (by omega), hm]
        rfl
      · have ht0 : k * 7 + 4 = t := by omega
        rw [if_neg (by omega), if_neg (by omega), if_pos ht0, if_pos (by omega), hm]
        rfl
      · have ht0 : k * 7 + 5 = t := by omega
        rw [if_neg (by omega), if_pos ht0, if_pos (by omega), hm]
        rfl
      · have ht0 : k * 7 + 6 = t := by omega
        rw [if_pos ht0, if_pos (by omega), hm]
        rfl
    · have hge : (l.set k y)[t / 7] = l[t / 7] := by
        rw [List.getElem_set]
        rw [if_neg (fun e => hq e.symm)]
      rw [hge, if_neg (by omega), if_neg (by omega), if_neg (by omega), if_neg (by omega), if_neg (by omega), if_neg (by omega), if_neg (by omega)]
      exact e3
  · rw [List.getElem?_take_eq_none (by omega), List.getElem?_eq_none (by rw [RuleVsRow_length, hlen]; omega)]
theorem rv_fro {B g n c : Nat} {w : World} {l : List RuleV} (h : OwnRuleVs B w (.slice (some ⟨g, 0, none⟩) n c) l) (i : Nat) : w.frozen? ⟨g, i, none⟩ = false := by
  rcases h.2 with ⟨h1, _⟩ | ⟨g', cap, cur, h1, hB, hb, _⟩
  · cases h1
  simp only [Value.slice.injEq, Option.some.injEq, Addr.mk.injEq, and_true] at h1
  obtain ⟨rfl, _, _⟩ := h1
  exact Blk.fro (show Blk w g 68 cur from hb) i
theorem mem_set {l : List RuleV} {k : Nat} {y z : RuleV} (h : z ∈ l.set k y) : z = y ∨ z ∈ l := by
  rcases List.mem_or_eq_of_mem_set h with h | h
  · exact .inr h
  · exact .inl h
theorem ch_row {B k n : Nat} {w : World} {v : Value} {l : List RuleV} {cb b0 : Nat} (h : RowOr B b0 w v l) (hb : Blk w cb 9 chCells) (h0 : cb ≠ b0) : some cb ≠ v.ownBlock := by
  rcases h with ⟨_, rfl⟩ | h
  · simp [Value.ownBlock]; exact h0
  · exact row_blkD h hb (by decide)
/-- What is in hand while a rule is turned. -/
def HandR (B b7 cb : Nat) (l : List RuleV) (v : Value) (w : World) (y : RuleV) : Prop := Blk w b7 68 (rvCells y) ∧ RuleW cb y ∧ OwnRuleVs B w v l ∧ Blk w cb 9 chCells
theorem HandR.only {B b7 cb g : Nat} {l : List RuleV} {v : Value} {w w' : World} {y : RuleV} (h : HandR B b7 cb l v w y) (ho : Only g w w') (hg : g < B) (hb : b7 ≠ g) (hc : cb ≠ g) : HandR B b7 cb l v w' y :=
  ⟨h.1.only ho hb, h.2.1, h.2.2.1.only ho hg, h.2.2.2.only ho hc⟩
theorem HandR.below {B b7 cb : Nat} {l : List RuleV} {v : Value} {w w' : World} {y : RuleV} (h : HandR B b7 cb l v w y) (hb : Below w.heap.size w w') : HandR B b7 cb l v w' y :=
  ⟨h.1.below hb, h.2.1, OwnRuleVs.below h.2.2.1 hb, h.2.2.2.below hb⟩
/-- One cell of it is turned. -/
theorem HandR.turn {B b7 cb go n c : Nat} {l : List RuleV} {w : World} {y y' : RuleV} (h : HandR B b7 cb l (.slice (some ⟨go, 0, none⟩) n c) w y) (hgo : go ≠ b7) (hcb : cb ≠ b7) (i : Nat) (u : Value) (hy : RuleW cb y') (hc : rvCells y' = (rvCells y).setIfInBounds i u) :
    HandR B b7 cb l (.slice (some ⟨go, 0, none⟩) n c) (w.setCell ⟨b7, i, none⟩ u) y' := by
  refine ⟨by rw [hc]; exact h.1.set i u, hy, ?_, h.2.2.2.kept' i u hcb⟩
  exact OwnRuleVs.kept h.2.2.1 (set_grown w b7 i u) (.inr (by simp [Value.ownBlock]; exact hgo))
end Go.Proofs.YtdlopjimheaekaaGreatDoor

namespace Go.Proofs.YtdlopjimheaekaaGreatDoor
open Go.ChangeShapes Go.WideShapes Go.ChangeAt Go.RowKit
set_option linter.unusedVariables false
set_option linter.unusedSimpArgs false

set_option maxRecDepth 100000 in
set_option maxHeartbeats 16000000 in
theorem drawRules {B g : Nat} {a : Option Addr} {len cap A : Nat} {w0 w : World} (hA : A ≤ 60000) (hl : len ≤ 1048576) (h : Src B g a len cap A w0 w) :
    Calls Tryz.prog 28 #[.pointer (some ⟨g, 0, none⟩)] w fun e w' => ∃ v l, e = .returned v ∧ DrawnR (w.heap.size + 3) w.heap.size (w.heap.size + 1) w' v l ∧ Src B g a len cap (A + 100) w0 w' ∧ Only g w w' := by
  have hgl := h.lt
  have hBw : B ≤ g := h.ge
  have H12 : Hid (∀ (n A' : Nat), n ≤ 1000000 → A' ≤ 100000 → ∀ W, Src B g a len cap A' w0 W → Calls Tryz.prog 30 #[.pointer (some ⟨g, 0, none⟩), .int .i64 n] W fun e w' => ∃ b : Bool, e = .returned (.bool b) ∧ Src B g a len cap (A' + 3) w0 w' ∧ Only g W w') := fun n A' hn hA' W hs => drawChance n hn hA' hl hs
  have H19 : Hid (∀ (n A' : Nat), n ≤ 1000000 → A' ≤ 100000 → ∀ W, Src B g a len cap A' w0 W → Calls Tryz.prog 33 #[.pointer (some ⟨g, 0, none⟩), .int .i64 n] W fun e w' => ∃ b : Nat, (b = 0 ∨ b < n) ∧ e = .returned (.int .i64 b) ∧ Src B g a len cap (A' + 3) w0 w' ∧ Only g W w') := fun n A' hn hA' W hs => drawNext n hn hA' hl hs
  have HODD : Hid (∀ (A' : Nat), A' ≤ 90000 → ∀ W, Src B g a len cap A' w0 W → Calls Tryz.prog 65 #[.pointer (some ⟨g, 0, none⟩)] W fun e w' => ∃ z : Int, e = .returned (.int .i64 z) ∧ Src B g a len cap (A' + 3) w0 w' ∧ Only g W w') := fun A' hA' W hs => drawOdd hA' hl hs
  have b3 : Below w.heap.size w (((w.alloc (.cells #[] 68)).alloc (.cells chCells 9)).alloc (.cells (allCells (w.heap.size + 1)) 68)) := bel3 w _ _ _
  have kc : Blk (((w.alloc (.cells #[] 68)).alloc (.cells chCells 9)).alloc (.cells (allCells (w.heap.size + 1)) 68)) (w.heap.size + 1) 9 chCells := last3 w _ _ _
  have ka : Blk (((w.alloc (.cells #[] 68)).alloc (.cells chCells 9)).alloc (.cells (allCells (w.heap.size + 1)) 68)) (w.heap.size + 2) 68 (allCells (w.heap.size + 1)) := last3' w _ _ _
  have z3 : w.heap.size + 3 ≤ (((w.alloc (.cells #[] 68)).alloc (.cells chCells 9)).alloc (.cells (allCells (w.heap.size + 1)) 68)).heap.size := by simp
  have HST : Hid (Blk (((w.alloc (.cells #[] 68)).alloc (.cells chCells 9)).alloc (.cells (allCells (w.heap.size + 1)) 68)) (w.heap.size + 1) 9 chCells ∧ Blk (((w.alloc (.cells #[] 68)).alloc (.cells chCells 9)).alloc (.cells (allCells (w.heap.size + 1)) 68)) (w.heap.size + 2) 68 (allCells (w.heap.size + 1)) ∧ Src B g a len cap A w0 (((w.alloc (.cells #[] 68)).alloc (.cells chCells 9)).alloc (.cells (allCells (w.heap.size + 1)) 68)) ∧ Only g w (((w.alloc (.cells #[] 68)).alloc (.cells chCells 9)).alloc (.cells (allCells (w.heap.size + 1)) 68)) ∧ w.heap.size + 3 ≤ (((w.alloc (.cells #[] 68)).alloc (.cells chCells 9)).alloc (.cells (allCells (w.heap.size + 1)) 68)).heap.size) := ⟨kc, ka, h.bel b3, (Only.refl g w).bel b3, z3⟩
  clear b3 kc ka z3 h
  go_enter Tryz.func28, Tryz.ntmps28
  go_wp2_with fail
  go_loopw [3, 5] (fun i3 i5 wr => ∃ (k : Nat) (l : List RuleV) (va : Option Addr) (vc : Nat), i5 = .int .i64 (k : Int) ∧ i3 = .slice va l.length vc ∧ k ≤ 7 ∧ l.length ≤ k ∧ RowOr (w.heap.size + 3) w.heap.size wr (.slice va l.length vc) l ∧ (∀ y ∈ l, RuleW (w.heap.size + 1) y) ∧ Blk wr (w.heap.size + 1) 9 chCells ∧ Blk wr (w.heap.size + 2) 68 (allCells (w.heap.size + 1)) ∧ Src B g a len cap (A + 3 * k) w0 wr ∧ Only g w wr ∧ w.heap.size + 3 ≤ wr.heap.size) (fun _ i5 _ => 7 - (intOf i5).toNat)
  case atStart => exact ⟨0, [], _, _, rfl, rfl, by omega, by simp, .inl ⟨rfl, rfl⟩, by simp, HST.out.1, HST.out.2.1, HST.out.2.2.1, HST.out.2.2.2.1, HST.out.2.2.2.2⟩
  case round =>
    obtain ⟨k, l, va, vc, rfl, rfl, hk, hlk, hro, hry, hkc, hka, hs, ho, hz⟩ := hrel
    have HRO : Hid (RowOr (w.heap.size + 3) w.heap.size wr (.slice va l.length vc) l) := hro
    have HRY : Hid (∀ y ∈ l, RuleW (w.heap.size + 1) y) := hry
    have HKC : Hid (Blk wr (w.heap.size + 1) 9 chCells) := hkc
    have HKA : Hid (Blk wr (w.heap.size + 2) 68 (allCells (w.heap.size + 1))) := hka
    have HO : Hid (Only g w wr) := ho
    have HSR : Hid (Src B g a len cap (A + 3 * k) w0 wr) := hs
    clear hro hry hkc hka ho
    by_cases hkn : k < 7
    · have hkn' : (k : Int) < 7 := by omega
      have cc := H12.out 4 (A + 3 * k) (by omega) (by omega) wr hs
      clear hs
      have hg3 : g < w.heap.size + 3 := by omega
      go_wp2_with (first
        | (at_builtin; have hchk := hro1; go_must (refine wpList_appendRowOr rfl (.tmp 27) (.tmp 32) rfl (w.heap.size + 3) w.heap.size (.slice va l.length vc) l rfl (hro1.below ((Below.refl _ w1).alloc (Nat.le_refl _) _)) _ ⟨⟨yp, yk, ymn, ymx, ych, ym, yd⟩, .slice na nn nc⟩ rfl (RuleVsAt.newAt _ _ _ (by simp)) (by omega) (by simp only [World.size_alloc]; omega) rfl ?_; intro v9 w9 hown9 hgr9; obtain ⟨a9, c9, e9, -⟩ := hown9.value; have hl9 : (l ++ [(⟨⟨yp, yk, ymn, ymx, ych, ym, yd⟩, .slice na nn nc⟩ : RuleV)]).length = l.length + 1 := (by simp); rw [hl9] at e9; subst e9))
        | (go_at_call 30; go_must (refine cc.mono ?_; rintro e w1 ⟨b, rfl, hs1, ho1⟩; have hz1 := Nat.le_trans hz ho1.1; have hro1 := HRO.out.only ho1 hg3; have hka1 := HKA.out.only ho1 (by omega); obtain ⟨⟨⟨yp, yk, ymn, ymx, ych, ym, yd⟩, ynv⟩, hyw, hym, c0, c1, c2, c3, c4, c5, c6⟩ := all_at hka1 k hkn; dsimp only at c0 c1 c2 c3 c4 c5 c6; obtain ⟨na, nn, nc, hnv⟩ := hyw.shape; dsimp only at hnv; subst hnv)))
      · have bA : Below w1.heap.size w1 (w1.alloc (.cells #[.string yp, .int .i64 yk, .int .i64 ymn, .int .i64 ymx, .slice na nn nc, .bool ym, .string yd] 68)) := (Below.refl _ w1).alloc (Nat.le_refl _) _
        have hroA := hro1.below bA
        have hkcA := (HKC.out.only ho1 (by omega)).below bA
        have hkaA := hka1.below bA
        have hblk := hroA.block
        have hBg : Below w.heap.size (w1.alloc (.cells #[.string yp, .int .i64 yk, .int .i64 ymn, .int .i64 ymx, .slice na nn nc, .bool ym, .string yd] 68)) w9 := (Below.refl _ _).grown hgr9 (by simp only [World.size_alloc]; omega) (fun j hj => by rcases hblk j hj with rfl | q <;> omega)
        refine ⟨⟨k + 1, l ++ [⟨⟨yp, yk, ymn, ymx, ych, ym, yd⟩, .slice na nn nc⟩], a9, c9, by go_num, by simp, by omega, by simp; omega, .inr (by simpa using hown9), fun y hy => ?_, hkcA.kept hgr9 (ch_row (k := 0) (n := 0) hroA hkcA (by omega)), hkaA.kept hgr9 (fun e => by rcases hblk _ e.symm with q | q <;> omega), (((hs1.bel bA).grown hBg hgl (by omega)).mono (by omega)), ((HO.out.trans ho1).bel bA).grown hBg, Nat.le_trans (by simp only [World.size_alloc]; omega) hBg.size⟩, by simp [intOf]; omega⟩
        rcases List.mem_append.1 hy with hy | hy
        · exact HRY.out y hy
        · rw [List.mem_singleton] at hy
          subst hy
          exact hyw
      · exact ⟨⟨k + 1, l, va, vc, by go_num, rfl, by omega, by omega, hro1, HRY.out, HKC.out.only ho1 (by omega), hka1, hs1.mono (by omega), HO.out.trans ho1, hz1⟩, by simp [intOf]; omega⟩
    · have hkn' : ¬ ((k : Int) < 7) := by omega
      have cc := H12.out 12 (A + 3 * k) (by omega) (by omega) wr hs
      have hl7 : l.length ≤ 7 := by omega
      have hl7' : (l.length : Int) ≤ 7 := by omega
      have hg3 : g < w.heap.size + 3 := by omega
      clear hs
      go_upto_region 8 with fail
      go_cut [40] from 34 to 41 (fun s40 wx => ∃ b : Bool, s40 = .bool (b && decide (0 < l.length)) ∧ RowOr (w.heap.size + 3) w.heap.size wx (.slice va l.length vc) l ∧ Blk wx (w.heap.size + 1) 9 chCells ∧ Src B g a len cap (A + 30) w0 wx ∧ Only g w wx ∧ w.heap.size + 3 ≤ wx.heap.size)
      case first =>
        go_wp2_with (go_at_call 30; go_must (refine cc.mono ?_; rintro e w1 ⟨b, rfl, hs1, ho1⟩))
        all_goals
          go_meet
          refine ⟨b, ?_, HRO.out.only ho1 hg3, HKC.out.only ho1 (by omega), hs1.mono (by omega), HO.out.trans ho1, Nat.le_trans hz ho1.1⟩
          simp_all
      case rest =>
        obtain ⟨b, rfl, hro, hkc, hs, ho, hzc⟩ := hcut
        cases hbb : b && decide (0 < l.length)
        · go_wp2_with fail
          go_ret
          exact ⟨_, rfl, ⟨l, hro, HRY.out, hkc, hl7⟩, hs.mono (by omega), ho⟩
        · have hl0 : 0 < l.length := by simp at hbb; exact hbb.2
          have hl0' : (0 : Int) < (l.length : Int) := by omega
          have hown : OwnRuleVs (w.heap.size + 3) wc (.slice va l.length vc) l := by
            rcases hro with ⟨e, _⟩ | q
            · rw [e] at hl0; simp at hl0
            · exact q
          have cx := H19.out l.length (A + 30) (by omega) (by omega) wc hs
          obtain ⟨w4, hw4⟩ : ∃ w4, w4 = wc := ⟨_, rfl⟩
          subst hw4
          have HOW4 : Hid (OwnRuleVs (w.heap.size + 3) w4 (.slice va l.length vc) l) := hown
          have HKC4 : Hid (Blk w4 (w.heap.size + 1) 9 chCells) := hkc
          have HO4 : Hid (Only g w w4) := ho
          clear hro hkc ho hs hbb hown cc
          go_upto_region 10 with (go_at_call 33; go_must (refine cx.mono ?_; rintro e w5 ⟨q, hq, rfl, hs5, ho5⟩))
          have hql : q < l.length := by omega
          have HOW5 : Hid (OwnRuleVs (w.heap.size + 3) w5 (.slice va l.length vc) l) := HOW4.out.only ho5 hg3
          have hkc5 := HKC4.out.only ho5 (by omega)
          have HO5 : Hid (Only g w w5) := HO4.out.trans ho5
          have hz5 := Nat.le_trans hzc ho5.1
          obtain ⟨_, _, hva, -, hca⟩ := HOW5.out.value
          simp only [Value.slice.injEq] at hva
          obtain ⟨rfl, -, rfl⟩ := hva
          obtain ⟨go, rfl, hgoB, hgo, hcell⟩ := hca (by omega)
          obtain ⟨d0, d1, d2, d3, d4, d5, d6⟩ := hcell q hql
          have hyw := HRY.out l[q] (List.getElem_mem hql)
          obtain ⟨y, hy⟩ : ∃ y, l[q] = y := ⟨_, rfl⟩
          rw [hy] at d0 d1 d2 d3 d4 d5 d6 hyw
          obtain ⟨⟨yp, yk, ymn, ymx, ych, ym, yd⟩, ynv⟩ := y
          dsimp only at d0 d1 d2 d3 d4 d5 d6
          obtain ⟨na, nn, nc, hnv⟩ := hyw.shape
          dsimp only at hnv
          subst hnv
          have bA : Below w5.heap.size w5 (w5.alloc (.cells #[.string yp, .int .i64 yk, .int .i64 ymn, .int .i64 ymx, .slice na nn nc, .bool ym, .string yd] 68)) := (Below.refl _ w5).alloc (Nat.le_refl _) _
          have kY : Blk (w5.alloc (.cells #[.string yp, .int .i64 yk, .int .i64 ymn, .int .i64 ymx, .slice na nn nc, .bool ym, .string yd] 68)) w5.heap.size 68 (rvCells ⟨⟨yp, yk, ymn, ymx, ych, ym, yd⟩, .slice na nn nc⟩) := heap_alloc_last w5 _
          have hhA : HandR (w.heap.size + 3) w5.heap.size (w.heap.size + 1) l (.slice (some ⟨go, 0, none⟩) l.length vc) (w5.alloc (.cells #[.string yp, .int .i64 yk, .int .i64 ymn, .int .i64 ymx, .slice na nn nc, .bool ym, .string yd] 68)) ⟨⟨yp, yk, ymn, ymx, ych, ym, yd⟩, .slice na nn nc⟩ := ⟨kY, hyw, OwnRuleVs.below HOW5.out bA, hkc5.below bA⟩
          have hsA := hs5.bel bA
          have hoA := HO5.out.bel bA
          have cz := H19.out 6 (A + 30 + 3) (by omega) (by omega) _ hsA
          obtain ⟨b7, hb7⟩ : ∃ b7, w5.heap.size = b7 := ⟨_, rfl⟩
          clear hcell hy bA HOW5 hca kY
          go_upto_block 2 with (go_at_call 33; go_must (refine cz.mono ?_; rintro e w7 ⟨c, hc, rfl, hs7, ho7⟩))
          rw [hb7] at hhA hgo
          try rw [hb7]
          have hgb : b7 ≠ g := by omega
          have hcb7 : w.heap.size + 1 ≠ b7 := by omega
          have hcg : w.heap.size + 1 ≠ g := by omega
          have hgob : go ≠ b7 := by omega
          have hb7w : w.heap.size ≤ b7 := by omega
          have hBb : B ≤ b7 := by omega
          have HH : Hid (HandR (w.heap.size + 3) b7 (w.heap.size + 1) l (.slice (some ⟨go, 0, none⟩) l.length vc) w7 ⟨⟨yp, yk, ymn, ymx, ych, ym, yd⟩, .slice na nn nc⟩) := hhA.only ho7 hg3 hgb hcg
          have HO7 : Hid (Only g w w7) := hoA.trans ho7
          have HS7 : Hid (Src B g a len cap (A + 30 + 3 + 3) w0 w7) := hs7
          have HYW : Hid (RuleW (w.heap.size + 1) ⟨⟨yp, yk, ymn, ymx, ych, ym, yd⟩, .slice na nn nc⟩) := hyw
          have hc6 : c < 6 := by omega
          clear hhA hs7 hsA hoA cz ho7 ho5 hs5 cx d0 d1 d2 d3 d4 d5 d6 hyw hkc5
          go_cut [] from 51 to 77 (fun wx => ∃ y' : RuleV, HandR (w.heap.size + 3) b7 (w.heap.size + 1) l (.slice (some ⟨go, 0, none⟩) l.length vc) wx y' ∧ Src B g a len cap (A + 90) w0 wx ∧ Only g w wx)
          case first =>
            have hcs : c = 0 ∨ c = 1 ∨ c = 2 ∨ c = 3 ∨ c = 4 ∨ c = 5 := by omega
            rcases hcs with rfl | rfl | rfl | rfl | rfl | rfl
            · go_wp2_with (first
                | (go_at_call 64; go_must (refine (drawPaths _).mono ?_; rintro e w8 ⟨rfl, htx, hb8, hz8⟩; have hs8 := HS7.out.bel hb8; have hh8 := HH.out.below hb8; have cp := drawPick w7.heap.size 10 (by omega) (by omega) (by omega) hl hs8 htx hz8 (by have := HS7.out.lt; omega)))
                | (go_at_call 34; go_must (refine cp.mono ?_; rintro e w9 ⟨t, ht, rfl, hs9, ho9⟩; have hh9 := hh8.only ho9 hg3 hgb hcg; have f0 := hh9.1.fro 0; have r0 := hh9.1.cell 0; simp [rvCells] at r0)))
              go_meet
              exact ⟨_, hh9.turn hgob hcb7 0 (.string t) (y' := ⟨⟨t, yk, ymn, ymx, ych, ym, yd⟩, .slice na nn nc⟩) ⟨short_size ht, HYW.out.2⟩ rfl, (hs9.set' hgb hBb 0 (.string t)).mono (by omega), ((HO7.out.bel hb8).trans ho9).set' hb7w 0 (.string t)⟩
            · have cp := H19.out 8 (A + 30 + 3 + 3) (by omega) (by omega) w7 HS7.out
              go_wp2_with (go_at_call 33; go_must (refine cp.mono ?_; rintro e w9 ⟨t, ht, rfl, hs9, ho9⟩; have hh9 := HH.out.only ho9 hg3 hgb hcg; have f0 := hh9.1.fro 1; have r0 := hh9.1.cell 1; simp [rvCells] at r0))
              go_meet
              exact ⟨_, hh9.turn hgob hcb7 1 (.int .i64 ((t : Int) - 1)) (y' := ⟨⟨yp, (t : Int) - 1, ymn, ymx, ych, ym, yd⟩, .slice na nn nc⟩) HYW.out rfl, (hs9.set' hgb hBb 1 _).mono (by omega), (HO7.out.trans ho9).set' hb7w 1 _⟩
            · have f0 := HH.out.1.fro 6
              have r0 := HH.out.1.cell 6
              simp [rvCells] at r0
              go_wp2_with fail
              go_meet
              exact ⟨_, HH.out.turn hgob hcb7 6 (.string ⟨#[57, 57, 57, 57, 57]⟩) (y' := ⟨⟨yp, yk, ymn, ymx, ych, ym, ⟨#[57, 57, 57, 57, 57]⟩⟩, .slice na nn nc⟩) ⟨HYW.out.1, by dsimp only; decide, HYW.out.2.2⟩ rfl, (HS7.out.set' hgb hBb 6 _).mono (by omega), HO7.out.set' hb7w 6 _⟩
            · have cp := HODD.out (A + 30 + 3 + 3) (by omega) w7 HS7.out
              go_wp2_with (go_at_call 65; go_must (refine cp.mono ?_; rintro e w9 ⟨t, rfl, hs9, ho9⟩; have hh9 := HH.out.only ho9 hg3 hgb hcg; have f0 := hh9.1.fro 2; have r0 := hh9.1.cell 2; simp [rvCells] at r0))
              go_meet
              exact ⟨_, hh9.turn hgob hcb7 2 (.int .i64 t) (y' := ⟨⟨yp, yk, t, ymx, ych, ym, yd⟩, .slice na nn nc⟩) HYW.out rfl, (hs9.set' hgb hBb 2 _).mono (by omega), (HO7.out.trans ho9).set' hb7w 2 _⟩
            · have cp := HODD.out (A + 30 + 3 + 3) (by omega) w7 HS7.out
              go_wp2_with (go_at_call 65; go_must (refine cp.mono ?_; rintro e w9 ⟨t, rfl, hs9, ho9⟩; have hh9 := HH.out.only ho9 hg3 hgb hcg; have f0 := hh9.1.fro 3; have r0 := hh9.1.cell 3; simp [rvCells] at r0))
              go_meet
              exact ⟨_, hh9.turn hgob hcb7 3 (.int .i64 t) (y' := ⟨⟨yp, yk, ymn, t, ych, ym, yd⟩, .slice na nn nc⟩) HYW.out rfl, (hs9.set' hgb hBb 3 _).mono (by omega), (HO7.out.trans ho9).set' hb7w 3 _⟩
            · have f0 := HH.out.1.fro 0
              have r0 := HH.out.1.cell 0
              simp [rvCells] at r0
              go_wp2_with fail
              go_meet
              exact ⟨_, HH.out.turn hgob hcb7 0 (.string ⟨#[97, 46, 46, 98]⟩) (y' := ⟨⟨⟨#[97, 46, 46, 98]⟩, yk, ymn, ymx, ych, ym, yd⟩, .slice na nn nc⟩) ⟨by dsimp only; decide, HYW.out.2⟩ rfl, (HS7.out.set' hgb hBb 0 _).mono (by omega), HO7.out.set' hb7w 0 _⟩
          case rest =>
            obtain ⟨⟨⟨zp, zk, zmn, zmx, zch, zm, zd⟩, znv⟩, hhz, hsz, hoz⟩ := hcut
            obtain ⟨ka, kn, kc, hkv⟩ := hhz.2.1.shape
            dsimp only at hkv
            subst hkv
            have c0 := hhz.1.cell 0
            have c1 := hhz.1.cell 1
            have c2 := hhz.1.cell 2
            have c3 := hhz.1.cell 3
            have c4 := hhz.1.cell 4
            have c5 := hhz.1.cell 5
            have c6 := hhz.1.cell 6
            simp [rvCells] at c0 c1 c2 c3 c4 c5 c6
            have f0 := rv_fro hhz.2.2.1 (q * 7)
            have f1 := rv_fro hhz.2.2.1 (q * 7 + 1)
            have f2 := rv_fro hhz.2.2.1 (q * 7 + 2)
            have f3 := rv_fro hhz.2.2.1 (q * 7 + 3)
            have f4 := rv_fro hhz.2.2.1 (q * 7 + 4)
            have f5 := rv_fro hhz.2.2.1 (q * 7 + 5)
            have f6 := rv_fro hhz.2.2.1 (q * 7 + 6)
            obtain ⟨e0, e1, e2, e3, e4, e5, e6⟩ := hhz.2.2.1.cells q hql
            have hset := hhz.2.2.1.set q hql ⟨⟨zp, zk, zmn, zmx, zch, zm, zd⟩, .slice ka kn kc⟩
            have HSET : Hid _ := hset
            have HHZ : Hid _ := hhz
            have hql' : (q : Int) < (l.length : Int) := by omega
            have hgog : go ≠ g := by omega
            have hBgo : B ≤ go := by omega
            have hwgo : w.heap.size ≤ go := by omega
            have hcgo : w.heap.size + 1 ≠ go := by omega
            clear hset hhz
            go_wp2_with fail
            go_ret
            refine ⟨_, rfl, ⟨l.set q ⟨⟨zp, zk, zmn, zmx, zch, zm, zd⟩, .slice ka kn kc⟩, .inr HSET.out, fun z hz => ?_, ?_, by simpa using hl7⟩, ?_, ?_⟩
            · rcases mem_set hz with rfl | hz
              · exact HHZ.out.2.1
              · exact HRY.out z hz
            · exact ((((((HHZ.out.2.2.2.kept' _ _ hcgo).kept' _ _ hcgo).kept' _ _ hcgo).kept' _ _ hcgo).kept' _ _ hcgo).kept' _ _ hcgo).kept' _ _ hcgo
            · exact (((((((hsz.set' hgog hBgo _ _).set' hgog hBgo _ _).set' hgog hBgo _ _).set' hgog hBgo _ _).set' hgog hBgo _ _).set' hgog hBgo _ _).set' hgog hBgo _ _).mono (by omega)
            · exact ((((((hoz.set' hwgo _ _).set' hwgo _ _).set' hwgo _ _).set' hwgo _ _).set' hwgo _ _).set' hwgo _ _).set' hwgo _ _
end Go.Proofs.YtdlopjimheaekaaGreatDoor

namespace Go.Proofs.YtdlopjimheaekaaGreatDoor
open Go.ChangeShapes Go.WideShapes Go.ChangeAt Go.RowKit
set_option linter.unusedVariables false
set_option linter.unusedSimpArgs false

def sizeT (v : Value) : Nat := match v with
  | .string t => t.size
  | _ => 0
/-- Layers that were drawn. -/
def Drawn (B : Nat) (w : World) (v : Value) (l : List LayV) : Prop := OwnLayVs B w v l ∧ ∀ y ∈ l, OwnEntrys B w y.nv y.x.entries ∧ LayN y.x
/-- The layer in hand, and those that stay. -/
def InHand (B b7 b : Nat) (l : List LayV) (v : Value) (w : World) (y : LayV) : Prop := Blk w b7 27 #[.string y.x.name, .int .i64 y.x.rank, y.nv] ∧ LayN y.x ∧ OwnEntrys B w y.nv y.x.entries ∧ OwnLayVs B w v l ∧ ∀ j (hj : j < l.length), j ≠ b → OwnEntrys B w l[j].nv l[j].x.entries
/-- A call of a Go function by its contract, as one step of a region that draws. -/
theorem step_callC {ops : Array Oper} {o : Oper} {a : Act} {w : World} {K : Act → World → Prop} {Q : Exit → Act → World → Prop} {E : Prop} (hg : o.guard = none) (f : FuncId) (args : Array Value) (hrun : (execOp a.eval o).run Tryz.prog w = .ok (.enter f args) w) {Post : Ending → World → Prop} (hc : Calls Tryz.prog f args w Post) (h : ∀ e w', Post e w' → ∃ v, e = .returned v ∧ K (a.put o.dst v) w') :
    if Region.wanted o (yielded ops a.tmps) = true then Oper.wp Tryz.prog o a w K Q else E := by
  have hw : Region.wanted o (yielded ops a.tmps) = true := by simp [Region.wanted, hg]
  rw [if_pos hw]
  unfold Oper.wp
  rw [hrun, Oper.upon_enter]
  refine hc.mono fun e w'' hh => ?_
  obtain ⟨v, rfl, hk⟩ := h e w'' hh
  exact hk
theorem InHand.only {B b7 b g : Nat} {l : List LayV} {v : Value} {w w' : World} {y : LayV} (h : InHand B b7 b l v w y) (ho : Only g w w') (hg : g < B) (hb : b7 ≠ g) : InHand B b7 b l v w' y :=
  ⟨h.1.only ho hb, h.2.1, h.2.2.1.only ho hg, h.2.2.2.1.only ho hg, fun j hj hne => (h.2.2.2.2 j hj hne).only ho hg⟩
theorem InHand.below {B b7 b : Nat} {l : List LayV} {v : Value} {w w' : World} {y : LayV} (h : InHand B b7 b l v w y) (hb : Below w.heap.size w w') : InHand B b7 b l v w' y :=
  ⟨h.1.below hb, h.2.1, OwnEntrys.below h.2.2.1 hb, OwnLayVs.below h.2.2.2.1 hb, fun j hj hne => OwnEntrys.below (h.2.2.2.2 j hj hne) hb⟩
theorem lay_fro {B g n c : Nat} {w : World} {l : List LayV} (h : OwnLayVs B w (.slice (some ⟨g, 0, none⟩) n c) l) (i : Nat) : w.frozen? ⟨g, i, none⟩ = false := by
  rcases h.2 with ⟨h1, _⟩ | ⟨g', cap, cur, h1, hB, hb, _⟩
  · cases h1
  · simp only [Value.slice.injEq, Option.some.injEq, Addr.mk.injEq, and_true] at h1
    obtain ⟨rfl, -, -⟩ := h1
    exact (show Blk w g _ cur from hb).fro i
/-- The layer in hand has another name. -/
theorem InHand.name {B b7 b go n c : Nat} {l : List LayV} {w : World} {nm : ByteArray} {r : Int} {es : List Entry} {nv : Value} (h : InHand B b7 b l (.slice (some ⟨go, 0, none⟩) n c) w ⟨⟨nm, r, es⟩, nv⟩) (hgo : go ≠ b7) (t : ByteArray) (ht : shortT t = true) : InHand B b7 b l (.slice (some ⟨go, 0, none⟩) n c) (w.setCell ⟨b7, 0, none⟩ (.string t)) ⟨⟨t, r, es⟩, nv⟩ := by
  have g1 := set_grown w b7 0 (.string t)
  refine ⟨by simpa using h.1.set 0 (.string t), ⟨ht, h.2.1.2⟩, h.2.2.1.kept g1 (.inr (row_blkD h.2.2.1 h.1 (by decide)).symm), h.2.2.2.1.kept g1 (.inr (by simpa [Value.ownBlock] using hgo)), fun j hj hne => (h.2.2.2.2 j hj hne).kept g1 (.inr (row_blkD (h.2.2.2.2 j hj hne) h.1 (by decide)).symm)⟩
/-- The layer in hand has one more entry. -/
theorem InHand.more {B b7 b go n c : Nat} {l : List LayV} {w w9 : World} {nm : ByteArray} {r : Int} {es : List Entry} {nv v9 : Value} {e : Entry} (h : InHand B b7 b l (.slice (some ⟨go, 0, none⟩) n c) w ⟨⟨nm, r, es⟩, nv⟩) (hgo : go ≠ b7) (hap : ∀ j (hj : j < l.length), j ≠ b → l[j].nv.ownBlock = none ∨ nv.ownBlock = none ∨ l[j].nv.ownBlock ≠ nv.ownBlock) (hown : OwnEntrys B w9 v9 (es ++ [e])) (hgr : w.grownBy w9 nv.ownBlock) (hel : es.length ≤ 20) (he : EntD e) : InHand B b7 b l (.slice (some ⟨go, 0, none⟩) n c) (w9.setCell ⟨b7, 2, none⟩ v9) ⟨⟨nm, r, es ++ [e]⟩, v9⟩ := by
  have k9 : Blk w9 b7 _ _ := h.1.kept hgr (row_blkD h.2.2.1 h.1 (by decide))
  have g1 := set_grown w9 b7 2 v9
  have hrow : OwnLayVs B w9 (.slice (some ⟨go, 0, none⟩) n c) l := h.2.2.2.1.kept hgr (rows_apartD h.2.2.2.1 h.2.2.1 (by decide))
  have hent : ∀ j (hj : j < l.length), j ≠ b → OwnEntrys B w9 l[j].nv l[j].x.entries := fun j hj hne => (h.2.2.2.2 j hj hne).kept hgr (by
    rcases hap j hj hne with q | q | q
    · exact .inl q
    · cases hq : l[j].nv.ownBlock with
      | none => exact .inl rfl
      | some z => exact .inr (by rw [q]; simp)
    · exact .inr q)
  obtain ⟨n1, n2, n3, n4, n5⟩ := h.2.1
  refine ⟨by simpa using k9.set 2 v9, ⟨n1, n2, n3, by simp; omega, fun x hx => ?_⟩, hown.kept g1 (.inr (row_blkD hown k9 (by decide)).symm), hrow.kept g1 (.inr (by simpa [Value.ownBlock] using hgo)), fun j hj hne => (hent j hj hne).kept g1 (.inr (row_blkD (hent j hj hne) k9 (by decide)).symm)⟩
  rcases List.mem_append.1 hx with q | q
  · exact n5 x q
  · rw [List.mem_singleton] at q
    subst q
    exact he
set_option maxRecDepth 100000 in
set_option maxHeartbeats 16000000 in
theorem drawLayers {B g : Nat} {a : Option Addr} {len cap A : Nat} {w0 w : World} (hA : A ≤ 60000) (hl : len ≤ 1048576) (h : Src B g a len cap A w0 w) :
    Calls Tryz.prog 31 #[.pointer (some ⟨g, 0, none⟩)] w fun e w' => ∃ (v : Value) (l : List LayV), e = .returned v ∧ Drawn w.heap.size w' v l ∧ l.length ≤ 4 ∧ Src B g a len cap (A + 2000) w0 w' ∧ Only g w w' := by
  have hg := h.lt
  have hBw : B ≤ w.heap.size := Nat.le_trans h.ge (Nat.le_of_lt hg)
  have hb0 : Below w.heap.size w ((w.alloc (.cells #[] 27)).alloc (.cells #[.string ⟨#[98, 97, 115, 101]⟩, .string ⟨#[115, 105, 116, 101]⟩, .string ⟨#[206, 187]⟩, .string ⟨#[117, 115, 101, 114]⟩, .string ⟨#[102, 108, 97, 103, 115]⟩] 9)) := ((Below.refl _ w).alloc (Nat.le_refl _) _).alloc (by simp) _
  have kN : Blk ((w.alloc (.cells #[] 27)).alloc (.cells #[.string ⟨#[98, 97, 115, 101]⟩, .string ⟨#[115, 105, 116, 101]⟩, .string ⟨#[206, 187]⟩, .string ⟨#[117, 115, 101, 114]⟩, .string ⟨#[102, 108, 97, 103, 115]⟩] 9)) (w.heap.size + 1) 9 #[.string ⟨#[98, 97, 115, 101]⟩, .string ⟨#[115, 105, 116, 101]⟩, .string ⟨#[206, 187]⟩, .string ⟨#[117, 115, 101, 114]⟩, .string ⟨#[102, 108, 97, 103, 115]⟩] := by
    have := heap_alloc_last (w.alloc (.cells #[] 27)) (.cells #[.string ⟨#[98, 97, 115, 101]⟩, .string ⟨#[115, 105, 116, 101]⟩, .string ⟨#[206, 187]⟩, .string ⟨#[117, 115, 101, 114]⟩, .string ⟨#[102, 108, 97, 103, 115]⟩] 9)
    rwa [World.size_alloc] at this
  have ow0 : OwnLays w.heap.size ((w.alloc (.cells #[] 27)).alloc (.cells #[.string ⟨#[98, 97, 115, 101]⟩, .string ⟨#[115, 105, 116, 101]⟩, .string ⟨#[206, 187]⟩, .string ⟨#[117, 115, 101, 114]⟩, .string ⟨#[102, 108, 97, 103, 115]⟩] 9)) (.slice (some ⟨w.heap.size, 0, none⟩) 0 0) [] :=
    ⟨OwnLayVs.below (OwnLayVs.empty w.heap.size w (Nat.le_refl _)) ((Below.refl _ _).alloc (Nat.le_refl _) _), fun y hy => (by cases hy), fun y hy => (by cases hy), List.Pairwise.nil⟩
  have hs0 := h.bel hb0
  have cn := drawNext 5 (by omega) (by omega) hl hs0
  have c19 := fun (n A' : Nat) (hn : n ≤ 100) (hA' : A' ≤ 100000) (W : World) (hs : Src B g a len cap A' w0 W) => drawNext (n := n) (by omega) hA' hl hs
  have c20 := fun (A' : Nat) (hA' : A' ≤ 100000) (W : World) (hs : Src B g a len cap A' w0 W) => drawChance (n := 3) (by omega) hA' hl hs
  have c21 := fun (nm : ByteArray) (A' : Nat) (hA' : A' ≤ 80000) (W : World) (hs : Src B g a len cap A' w0 W) => drawGood nm (by omega) hl hs
  have c22 := fun (nm : ByteArray) (A' : Nat) (hA' : A' ≤ 80000) (W : World) (hs : Src B g a len cap A' w0 W) => drawLayer nm hA' hl hs
  have c23 := fun (A' n : Nat) (hn : 0 < n ∧ n ≤ 100) (hA' : A' ≤ 100000) (W : World) (hs : Src B g a len cap A' w0 W) (vs : Array Value) (hv : vs.size = n) hq => drawPick (B := B) (g := g) (a := a) (len := len) (cap := cap) (A := A') (w0 := w0) (w := W.alloc (.cells vs 9)) W.heap.size n hn.1 (by omega) hA' hl (hs.bel ((Below.refl _ W).alloc (Nat.le_refl _) _)) (texts_new W vs n hv hq) (by simp) (by have := hs.lt; omega)
  have H19 : Hid _ := c19
  have H20 : Hid _ := c20
  have H21 : Hid _ := c21
  have H22 : Hid _ := c22
  have H23 : Hid _ := c23
  have HOW0 : Hid _ := ow0
  have HKN0 : Hid _ := kN
  clear c19 c20 c21 c22 c23 ow0 kN h
  go_enter Tryz.func31, Tryz.ntmps31
  go_wp2_with (go_at_call 33; go_must (refine cn.mono ?_; rintro e w1 ⟨n0, hn0, rfl, hs1, ho1⟩))
  have HOW1 : Hid (OwnLays w.heap.size w1 (.slice (some ⟨w.heap.size, 0, none⟩) 0 0) []) := OwnLays.only HOW0.out ho1 hg
  have HKN1 : Hid (Blk w1 (w.heap.size + 1) 9 #[.string ⟨#[98, 97, 115, 101]⟩, .string ⟨#[115, 105, 116, 101]⟩, .string ⟨#[206, 187]⟩, .string ⟨#[117, 115, 101, 114]⟩, .string ⟨#[102, 108, 97, 103, 115]⟩]) := Blk.only HKN0.out ho1 (by omega)
  have HO1 : Hid (Only g w w1) := ((Only.refl g w).bel hb0).trans ho1
  have hn4 : n0 ≤ 4 := by omega
  clear HOW0 HKN0 hb0 hs0 cn ho1 hn0
  go_loopw [3, 5] (fun i3 i5 wr => ∃ (i : Nat) (l : List LayV), i5 = .int .i64 (i : Int) ∧ OwnLays w.heap.size wr i3 l ∧ l.length + i ≤ 4 ∧ Blk wr (w.heap.size + 1) 9 #[.string ⟨#[98, 97, 115, 101]⟩, .string ⟨#[115, 105, 116, 101]⟩, .string ⟨#[206, 187]⟩, .string ⟨#[117, 115, 101, 114]⟩, .string ⟨#[102, 108, 97, 103, 115]⟩] ∧ Src B g a len cap (A + 3 + 110 * (5 - i)) w0 wr ∧ Only g w wr) (fun _ i5 _ => (intOf i5).toNat)
  case atStart => exact ⟨n0, [], rfl, HOW1.out, by simpa using hn4, HKN1.out, hs1.mono (by omega), HO1.out⟩
  case round =>
    obtain ⟨i, l, rfl, how, hli, hkn, hs, ho⟩ := hrel
    obtain ⟨oa, oc, hv, -⟩ := how.row.value
    subst hv
    have HOW : Hid (OwnLays w.heap.size wr (.slice oa l.length oc) l) := how
    have HKN : Hid (Blk wr (w.heap.size + 1) 9 #[.string ⟨#[98, 97, 115, 101]⟩, .string ⟨#[115, 105, 116, 101]⟩, .string ⟨#[206, 187]⟩, .string ⟨#[117, 115, 101, 114]⟩, .string ⟨#[102, 108, 97, 103, 115]⟩]) := hkn
    have HO : Hid (Only g w wr) := ho
    have hll : (l.length : Int) ≤ 4 := by omega
    clear how hkn ho
    by_cases hi0 : 0 < i
    · have hi0' : (0 : Int) < (i : Int) := by omega
      have hi5' : (i : Int) < 5 := by omega
      have cc := H20.out (A + 3 + 110 * (5 - i)) (by omega) wr hs
      go_upto_if 18 with (go_at_call 30; go_must (refine cc.mono ?_; rintro e w2 ⟨ch, rfl, hs2, ho2⟩))
      have HOW2 : Hid (OwnLays w.heap.size w2 (.slice oa l.length oc) l) := OwnLays.only HOW.out ho2 hg
      have HKN2 : Hid (Blk w2 (w.heap.size + 1) 9 #[.string ⟨#[98, 97, 115, 101]⟩, .string ⟨#[115, 105, 116, 101]⟩, .string ⟨#[206, 187]⟩, .string ⟨#[117, 115, 101, 114]⟩, .string ⟨#[102, 108, 97, 103, 115]⟩]) := Blk.only HKN.out ho2 (by omega)
      have HO2 : Hid (Only g w w2) := HO.out.trans ho2
      obtain ⟨nm, hnm, hnc⟩ := texts_blk (n := 5) HKN2.out rfl (by decide) i (by omega)
      clear HOW HKN HO cc ho2 hs
      cases ch
      · have cl := H22.out nm (A + 3 + 110 * (5 - i) + 3) (by omega) w2 hs2
        go_wp2_with (first
          | (go_at_call 32; go_must (refine cl.mono ?_; rintro e w3 ⟨r, nv, es, rfl, hLD, hoe, hs3, ho3⟩; have bA : Below w3.heap.size w3 (w3.alloc (.cells #[.string nm, .int .i64 (r : Int), nv] 27)) := (Below.refl _ w3).alloc (Nat.le_refl _) _; have HOA : Hid (OwnLays w.heap.size (w3.alloc (.cells #[.string nm, .int .i64 (r : Int), nv] 27)) (.slice oa l.length oc) l) := OwnLays.below (OwnLays.only HOW2.out ho3 hg) bA; have HEA : Hid (OwnEntrys w2.heap.size (w3.alloc (.cells #[.string nm, .int .i64 (r : Int), nv] 27)) nv es) := OwnEntrys.below hoe bA; have HKA : Hid (Blk (w3.alloc (.cells #[.string nm, .int .i64 (r : Int), nv] 27)) (w.heap.size + 1) 9 #[.string ⟨#[98, 97, 115, 101]⟩, .string ⟨#[115, 105, 116, 101]⟩, .string ⟨#[206, 187]⟩, .string ⟨#[117, 115, 101, 114]⟩, .string ⟨#[102, 108, 97, 103, 115]⟩]) := (HKN2.out.only ho3 (by omega)).below bA; have hsA := hs3.bel bA; have hoA := (HO2.out.trans ho3).bel bA; have hszA : w.heap.size ≤ (w3.alloc (.cells #[.string nm, .int .i64 (r : Int), nv] 27)).heap.size := hoA.1; have hn1 := lay_one hoe))
          | (at_builtin; go_must (refine wpList_appendLayVs rfl (.tmp 28) (.tmp 35) rfl w.heap.size (.slice oa l.length oc) l rfl HOA.out.row _ [⟨⟨nm, (r : Int), es⟩, nv⟩] rfl (LayVsAt.newAt _ nm (r : Int) es nv _ (by simp)) (by simp <;> omega) hszA (fun x hx => by rw [List.mem_singleton] at hx; subst hx; exact hn1) ?_; intro v9 w9 hown9 hB9 hgr9 hnil9)))
        have hsn := OwnLays.snoc (y := ⟨⟨nm, (r : Int), es⟩, nv⟩) HOA.out HEA.out HO2.out.1 (ents_lt HOW2.out) ⟨⟨hnm, by show (0 : Int) ≤ (r : Int); omega, by have := hLD.1; show (r : Int) ≤ 3; omega, by have := hLD.2.1; show es.length ≤ 22; omega, hLD.2.2⟩, hLD.2.1⟩ hown9 hgr9
        exact ⟨⟨i - 1, l ++ [⟨⟨nm, (r : Int), es⟩, nv⟩], by go_num, hsn, by simp; omega, HKA.out.kept hgr9 (row_blkD HOA.out.row HKA.out (by decide)), (hsA.grown hB9 hg hBw).mono (by omega), hoA.grown hB9⟩, by simp [intOf]; omega⟩
      · have cl := H21.out nm (A + 3 + 110 * (5 - i) + 3) (by omega) w2 hs2
        go_wp2_with (first
          | (go_at_call 29; go_must (refine cl.mono ?_; rintro e w3 ⟨r, nv, es, rfl, hLD, hoe, hs3, ho3⟩; have bA : Below w3.heap.size w3 (w3.alloc (.cells #[.string nm, .int .i64 (r : Int), nv] 27)) := (Below.refl _ w3).alloc (Nat.le_refl _) _; have HOA : Hid (OwnLays w.heap.size (w3.alloc (.cells #[.string nm, .int .i64 (r : Int), nv] 27)) (.slice oa l.length oc) l) := OwnLays.below (OwnLays.only HOW2.out ho3 hg) bA; have HEA : Hid (OwnEntrys w2.heap.size (w3.alloc (.cells #[.string nm, .int .i64 (r : Int), nv] 27)) nv es) := OwnEntrys.below hoe bA; have HKA : Hid (Blk (w3.alloc (.cells #[.string nm, .int .i64 (r : Int), nv] 27)) (w.heap.size + 1) 9 #[.string ⟨#[98, 97, 115, 101]⟩, .string ⟨#[115, 105, 116, 101]⟩, .string ⟨#[206, 187]⟩, .string ⟨#[117, 115, 101, 114]⟩, .string ⟨#[102, 108, 97, 103, 115]⟩]) := (HKN2.out.only ho3 (by omega)).below bA; have hsA := hs3.bel bA; have hoA := (HO2.out.trans ho3).bel bA; have hszA : w.heap.size ≤ (w3.alloc (.cells #[.string nm, .int .i64 (r : Int), nv] 27)).heap.size := hoA.1; have hn1 := lay_one hoe))
          | (at_builtin; go_must (refine wpList_appendLayVs rfl (.tmp 19) (.tmp 26) rfl w.heap.size (.slice oa l.length oc) l rfl HOA.out.row _ [⟨⟨nm, (r : Int), es⟩, nv⟩] rfl (LayVsAt.newAt _ nm (r : Int) es nv _ (by simp)) (by simp <;> omega) hszA (fun x hx => by rw [List.mem_singleton] at hx; subst hx; exact hn1) ?_; intro v9 w9 hown9 hB9 hgr9 hnil9)))
        have hsn := OwnLays.snoc (y := ⟨⟨nm, (r : Int), es⟩, nv⟩) HOA.out HEA.out HO2.out.1 (ents_lt HOW2.out) ⟨⟨hnm, by show (0 : Int) ≤ (r : Int); omega, by have := hLD.1; show (r : Int) ≤ 3; omega, by have := hLD.2.1; show es.length ≤ 22; omega, hLD.2.2⟩, hLD.2.1⟩ hown9 hgr9
        exact ⟨⟨i - 1, l ++ [⟨⟨nm, (r : Int), es⟩, nv⟩], by go_num, hsn, by simp; omega, HKA.out.kept hgr9 (row_blkD HOA.out.row HKA.out (by decide)), (hsA.grown hB9 hg hBw).mono (by omega), hoA.grown hB9⟩, by simp [intOf]; omega⟩
    · have hi0' : ¬ ((0 : Int) < (i : Int)) := by omega
      by_cases hl0 : 0 < l.length
      case neg =>
        have hl0' : ¬ ((0 : Int) < (l.length : Int)) := by omega
        go_wp2_with fail
        go_ret
        exact ⟨_, rfl, l, ⟨HOW.out.row, fun y hy => ⟨HOW.out.ent y hy, (HOW.out.ok y hy).1⟩⟩, by omega, hs.mono (by omega), HO.out⟩
      have hl0' : (0 : Int) < (l.length : Int) := by omega
      have cx := H19.out l.length (A + 3 + 110 * (5 - i)) (by omega) (by omega) wr hs
      obtain ⟨w4, hw4⟩ : ∃ w4, w4 = wr := ⟨_, rfl⟩
      subst hw4
      go_upto_region 11 with (go_at_call 33; go_must (refine cx.mono ?_; rintro e w5 ⟨b, hb, rfl, hs5, ho5⟩))
      have hbl : b < l.length := by omega
      have HOW5 : Hid (OwnLays w.heap.size w5 (.slice oa l.length oc) l) := OwnLays.only HOW.out ho5 hg
      have HO5 : Hid (Only g w w5) := HO.out.trans ho5
      obtain ⟨_, _, hva, -, hca⟩ := HOW5.out.row.value
      simp only [Value.slice.injEq] at hva
      obtain ⟨rfl, -, rfl⟩ := hva
      obtain ⟨go, rfl, hgoB, hgo, hcell⟩ := hca (by omega)
      obtain ⟨d0, d1, d2⟩ := hcell b hbl
      have hoy := HOW5.out.ent l[b] (List.getElem_mem hbl)
      have hny := HOW5.out.ok l[b] (List.getElem_mem hbl)
      have hap : ∀ j (hj : j < l.length), j ≠ b → l[j].nv.ownBlock = none ∨ l[b].nv.ownBlock = none ∨ l[j].nv.ownBlock ≠ l[b].nv.ownBlock := fun j hj hne => by
        have hpw := List.pairwise_iff_getElem.1 HOW5.out.apart
        rcases Nat.lt_or_gt_of_ne hne with q | q
        · exact hpw j b hj hbl q
        · rcases hpw b j hbl hj q with r | r | r
          · exact .inr (.inl r)
          · exact .inl r
          · exact .inr (.inr (fun e => r e.symm))
      obtain ⟨y, hy⟩ : ∃ y, l[b] = y := ⟨_, rfl⟩
      rw [hy] at d0 d1 d2 hoy hny hap
      obtain ⟨⟨ynm, yr, yes⟩, ynv⟩ := y
      dsimp only at d0 d1 d2 hoy hny hap
      obtain ⟨ya, yc, hyv, -⟩ := hoy.value
      subst hyv
      have bA : Below w5.heap.size w5 (w5.alloc (.cells #[.string ynm, .int .i64 yr, .slice ya yes.length yc] 27)) := (Below.refl _ w5).alloc (Nat.le_refl _) _
      have kY : Blk (w5.alloc (.cells #[.string ynm, .int .i64 yr, .slice ya yes.length yc] 27)) w5.heap.size 27 #[.string ynm, .int .i64 yr, .slice ya yes.length yc] := heap_alloc_last w5 _
      have HOWA : Hid (OwnLays w.heap.size (w5.alloc (.cells #[.string ynm, .int .i64 yr, .slice ya yes.length yc] 27)) (.slice (some ⟨go, 0, none⟩) l.length oc) l) := OwnLays.below HOW5.out bA
      have hoyA := OwnEntrys.below hoy bA
      have hsA := hs5.bel bA
      have hoA := HO5.out.bel bA
      have cz := H19.out 30 (A + 3 + 110 * (5 - i) + 3) (by omega) (by omega) _ hsA
      have HAP : Hid (∀ j (hj : j < l.length), j ≠ b → l[j].nv.ownBlock = none ∨ (Value.slice ya yes.length yc).ownBlock = none ∨ l[j].nv.ownBlock ≠ (Value.slice ya yes.length yc).ownBlock) := hap
      have HNY : Hid (LayN ⟨ynm, yr, yes⟩ ∧ yes.length ≤ 20) := hny
      have hb5w : w.heap.size ≤ w5.heap.size := HO5.out.1
      obtain ⟨b7, hb7⟩ : ∃ b7, w5.heap.size = b7 := ⟨_, rfl⟩
      have hyl : (yes.length : Int) ≤ 20 := by have := hny.2; omega
      clear hcell hy hoy hny hap bA HOW5 hca
      go_upto_block 2 with (go_at_call 33; go_must (refine cz.mono ?_; rintro e w7 ⟨c, hc, rfl, hs7, ho7⟩))
      rw [hb7] at kY hgo
      try rw [hb7]
      have hgb : b7 ≠ g := by have := hs5.lt; omega
      have k7 := kY.only ho7 hgb
      have HOW7 : Hid (OwnLays w.heap.size w7 (.slice (some ⟨go, 0, none⟩) l.length oc) l) := OwnLays.only HOWA.out ho7 hg
      have hoy7 := hoyA.only ho7 hg
      have HIH : Hid (InHand w.heap.size b7 b l (.slice (some ⟨go, 0, none⟩) l.length oc) w7 ⟨⟨ynm, yr, yes⟩, .slice ya yes.length yc⟩) := ⟨k7, HNY.out.1, hoy7, HOW7.out.row, fun j hj _ => HOW7.out.ent _ (List.getElem_mem hj)⟩
      have HO7 : Hid (Only g w w7) := hoA.trans ho7
      have hgob : go ≠ b7 := by omega
      have HS7 : Hid (Src B g a len cap (A + 3 + 110 * (5 - i) + 3 + 3) w0 w7) := hs7
      have hw7 : w.heap.size ≤ w7.heap.size := HO7.out.1
      have hb7w : w.heap.size ≤ b7 := by omega
      clear k7 hoy7 hs7 kY hoyA hsA hoA cz HOWA HOW7 ho7 ho5 hs5 cx
      go_cut [8] from 50 to 98 (fun s8 wx => ∃ y' : LayV, InHand w.heap.size b7 b l (.slice (some ⟨go, 0, none⟩) l.length oc) wx y' ∧ Src B g a len cap (A + 1900) w0 wx ∧ Only g w wx)
      case first =>
        have hcs : c = 0 ∨ c = 1 ∨ c = 2 ∨ c = 3 ∨ 4 ≤ c := by omega
        rcases hcs with rfl | rfl | rfl | rfl | hc4
        · have cp := H23.out (A + 3 + 110 * (5 - i) + 3 + 3) 3 (by omega) (by omega) w7 HS7.out
          go_wp2_with (go_at_call 34; go_must (refine (cp _ rfl (by decide)).mono ?_; rintro e w8 ⟨t, ht, rfl, hs8, ho8⟩; have ho78 : Only g w7 w8 := ((Only.refl g w7).bel ((Below.refl _ w7).alloc (Nat.le_refl _) _)).trans ho8; have ih8 := HIH.out.only ho78 hg hgb; have f0 := ih8.1.fro 0; have r0 := ih8.1.cell 0; simp at r0))
          go_meet
          exact ⟨_, ih8.name hgob t ht, (hs8.set' hgb (by omega) 0 (.string t)).mono (by omega), (HO7.out.trans ho78).set' hb7w 0 (.string t)⟩
        · have bD : ∀ vs : Array Value, Below w7.heap.size w7 (w7.alloc (.cells vs 9)).drew := fun vs => ((Below.refl _ w7).alloc (Nat.le_refl _) _).drew
          have cp := fun (vs : Array Value) (hv : vs.size = 4) hq => drawPick (w := (w7.alloc (.cells vs 9)).drew) w7.heap.size 4 (by omega) (by omega) (by omega) hl (HS7.out.bel (bD vs)) (show Texts (w7.alloc (.cells vs 9)).drew w7.heap.size 4 from texts_new w7 vs 4 hv hq) (show w7.heap.size < (w7.alloc (.cells vs 9)).heap.size by simp) (by have := HS7.out.lt; omega)
          have r2 := HIH.out.1.cell 2
          have r2b := (HIH.out.1.below (bD #[.string ⟨#[97, 46]⟩, .string ⟨#[]⟩, .string ⟨#[97, 46, 98, 46, 99, 46, 100, 46, 101, 46, 102]⟩, .string ⟨#[110, 101, 116]⟩])).cell 2
          simp at r2 r2b
          go_upto_region 16 with fail
          go_region_law (first
            | (refine step_callC rfl 34 _ (by kernel_rfl) (cp #[.string ⟨#[97, 46]⟩, .string ⟨#[]⟩, .string ⟨#[97, 46, 98, 46, 99, 46, 100, 46, 101, 46, 102]⟩, .string ⟨#[110, 101, 116]⟩] rfl (by decide)) ?_; rintro e w8 ⟨t, ht, rfl, hs8, ho8⟩; refine ⟨_, rfl, ?_⟩; have ho78 : Only g w7 w8 := ((Only.refl g w7).bel (bD _)).trans ho8; have ih8 := HIH.out.only ho78 hg hgb; have bX : Below w8.heap.size w8 (w8.alloc (.cells #[.string t, .string ⟨#[]⟩] 73)) := (Below.refl _ w8).alloc (Nat.le_refl _) _; have ihX := ih8.below bX; have hsX := hs8.bel bX; have hoX := (HO7.out.trans ho78).bel bX; have r8 := ih8.1.cell 2; have rX := ihX.1.cell 2; simp at r8 rX)
            | (refine step_appendEntrys rfl (.tmp 59) (.tmp 64) rfl w.heap.size (.slice ya yes.length yc) yes (by simp [Act.eval]) ihX.2.2.1 (.slice (some ⟨w8.heap.size, 0, none⟩) 1 1) [⟨t, ⟨#[]⟩⟩] (by simp [Act.eval]) (EntrysAt.new w8 t ⟨#[]⟩) (by simp; omega) hoX.1 ?_; intro va vn vc w9 hown9 hB9 hgr9 hnil9; have k9 := ihX.1.kept hgr9 (row_blkD ihX.2.2.1 ihX.1 (by decide)); have f9 := k9.fro 2; have r9 := k9.cell 2; simp at r9))
          all_goals
            go_wp2_with fail
            go_meet
            exact ⟨_, ihX.more hgob HAP.out hown9 hgr9 HNY.out.2 ⟨short_size ht, Nat.zero_le _⟩, ((hsX.grown hB9 hg hBw).set' hgb (by omega) 2 (.slice va vn vc)).mono (by omega), (hoX.grown hB9).set' hb7w 2 (.slice va vn vc)⟩
        · have r2 := HIH.out.1.cell 2
          simp at r2
          by_cases hy0 : 0 < yes.length
          case neg =>
            have hy0' : ¬ ((0 : Int) < (yes.length : Int)) := by omega
            go_wp2_with fail
            go_meet
            exact ⟨_, HIH.out, HS7.out.mono (by omega), HO7.out⟩
          have hy0' : (0 : Int) < (yes.length : Int) := by omega
          obtain ⟨_, _, hva, -, hca⟩ := HIH.out.2.2.1.value
          simp only [Value.slice.injEq] at hva
          obtain ⟨rfl, -, rfl⟩ := hva
          obtain ⟨ge, rfl, -, hge, hcell⟩ := hca hy0
          have z0 := (hcell 0 hy0).1
          have z1 := (hcell 0 hy0).2
          simp only [Nat.zero_mul, Nat.zero_add] at z0 z1
          have hed := HNY.out.1.2.2.2.2 yes[0] (List.getElem_mem hy0)
          obtain ⟨ep, hep⟩ : ∃ ep, yes[0] = ep := ⟨_, rfl⟩
          try dsimp only at z0 z1
          rw [hep] at z0 z1 hed
          obtain ⟨xp, xt⟩ := ep
          try dsimp only at z0 z1
          have bX : Below w7.heap.size w7 (w7.alloc (.cells #[.string xp, .string xt] 73)).drew := ((Below.refl _ w7).alloc (Nat.le_refl _) _).drew
          have ihX := HIH.out.below bX
          have hsX := HS7.out.bel bX
          have hoX := HO7.out.bel bX
          have rX := ihX.1.cell 2
          simp at rX
          clear hcell hca hep
          go_upto_region 19 with fail
          go_region_law (refine step_appendEntrys rfl (.tmp 74) (.tmp 79) rfl w.heap.size (.slice (some ⟨ge, 0, none⟩) yes.length yc) yes (by simp [Act.eval]) ihX.2.2.1 (.slice (some ⟨w7.heap.size, 0, none⟩) 1 1) [⟨xp, xt⟩] (by simp [Act.eval]) ((EntrysAt.new w7 xp xt).keep (fun b i _ => rfl)) (by simp; omega) hoX.1 ?_; intro va vn vc w9 hown9 hB9 hgr9 hnil9; have k9 := ihX.1.kept hgr9 (row_blkD ihX.2.2.1 ihX.1 (by decide)); have f9 := k9.fro 2; have r9 := k9.cell 2; simp at r9)
          all_goals
            go_wp2_with fail
            go_meet
            exact ⟨_, ihX.more hgob HAP.out hown9 hgr9 HNY.out.2 hed, ((hsX.grown hB9 hg hBw).set' hgb (by omega) 2 (.slice va vn vc)).mono (by omega), (hoX.grown hB9).set' hb7w 2 (.slice va vn vc)⟩
        · go_wp2_with fail
          go_loopw [8] (fun i8 wr => ∃ t : ByteArray, i8 = .string t ∧ t.size ≤ 209 ∧ InHand w.heap.size b7 b l (.slice (some ⟨go, 0, none⟩) l.length oc) wr ⟨⟨ynm, yr, yes⟩, .slice ya yes.length yc⟩ ∧ Src B g a len cap (A + 3 + 110 * (5 - i) + 3 + 3 + 3 * t.size) w0 wr ∧ Only g w wr) (fun i8 _ => 209 - sizeT i8)
          case atStart => exact ⟨_, rfl, by decide, HIH.out, HS7.out.mono (by omega), HO7.out⟩
          case round =>
            obtain ⟨t, rfl, htz, hih, hs9, ho9⟩ := hrel
            have cq := H19.out 20 (A + 3 + 110 * (5 - i) + 3 + 3 + 3 * t.size) (by omega) (by omega) wr hs9
            have HI9 : Hid (InHand w.heap.size b7 b l (.slice (some ⟨go, 0, none⟩) l.length oc) wr ⟨⟨ynm, yr, yes⟩, .slice ya yes.length yc⟩) := hih
            have htz' : (t.size : Int) ≤ 209 := by omega
            clear hih hs9
            go_upto_if 89 with (go_at_call 33; go_must (refine cq.mono ?_; rintro e wn ⟨z, hz, rfl, hsn, hon⟩))
            have ihn := HI9.out.only hon hg hgb
            have HIN : Hid (InHand w.heap.size b7 b l (.slice (some ⟨go, 0, none⟩) l.length oc) wn ⟨⟨ynm, yr, yes⟩, .slice ya yes.length yc⟩) := ihn
            have hon2 := ho9.trans hon
            by_cases hlt : t.size < 190 + z
            · have hlt' : decide ((t.size : Int) < 190 + (z : Int)) = true := by rw [decide_eq_true_eq]; omega
              go_wp2_with fail
              have hsx : (t ++ ⟨#[120]⟩ : ByteArray).size = t.size + 1 := by simp [ByteArray.size_append]; rfl
              refine ⟨⟨.string (t ++ ⟨#[120]⟩), _, _, _, _, _, _, _, _, ⟨t ++ ⟨#[120]⟩, rfl, by rw [hsx]; omega, HIN.out, hsn.mono (by rw [hsx]; omega), hon2⟩, rfl⟩, ?_⟩
              show 209 - (t ++ ⟨#[120]⟩ : ByteArray).size < 209 - t.size
              rw [hsx]; omega
            · have hlt' : decide ((t.size : Int) < 190 + (z : Int)) = false := by rw [decide_eq_false_iff_not]; omega
              have r2 := ihn.1.cell 2
              simp at r2
              have bX : Below wn.heap.size wn (wn.alloc (.cells #[.string ⟨#[108, 111, 110, 103]⟩, .string t] 73)) := (Below.refl _ wn).alloc (Nat.le_refl _) _
              have HIX : Hid (InHand w.heap.size b7 b l (.slice (some ⟨go, 0, none⟩) l.length oc) (wn.alloc (.cells #[.string ⟨#[108, 111, 110, 103]⟩, .string t] 73)) ⟨⟨ynm, yr, yes⟩, .slice ya yes.length yc⟩) := ihn.below bX
              have hsX := hsn.bel bX
              have hoX := hon2.bel bX
              clear ihn bX
              go_wp2_with (at_builtin; go_must (refine wpList_appendEntrys rfl (.tmp 93) (.tmp 96) rfl w.heap.size (.slice ya yes.length yc) yes rfl HIX.out.2.2.1 _ [⟨⟨#[108, 111, 110, 103]⟩, t⟩] rfl (EntrysAt.newAt _ ⟨#[108, 111, 110, 103]⟩ t _ (by simp)) (by simp <;> omega) hoX.1 ?_; intro v9 w9 hown9 hB9 hgr9 hnil9; obtain ⟨a9, c9, e9, -⟩ := hown9.value; have hl9 : (yes ++ [(⟨⟨#[108, 111, 110, 103]⟩, t⟩ : Entry)]).length = yes.length + 1 := (by simp); rw [hl9] at e9; subst e9; have k9 := HIX.out.1.kept hgr9 (row_blkD HIX.out.2.2.1 HIX.out.1 (by decide)); have f9 := k9.fro 2; have r9 := k9.cell 2; simp at r9))
              go_meet
              exact ⟨_, HIX.out.more hgob HAP.out hown9 hgr9 HNY.out.2 ⟨by dsimp only; decide, by dsimp only; omega⟩, ((hsX.grown hB9 hg hBw).set' hgb (by omega) 2 (.slice a9 (yes.length + 1) c9)).mono (by omega), (hoX.grown hB9).set' hb7w 2 (.slice a9 (yes.length + 1) c9)⟩
        · have n0 : ((c : Int) == 0) = false := by rw [beq_eq_false_iff_ne]; omega
          have n1 : ((c : Int) == 1) = false := by rw [beq_eq_false_iff_ne]; omega
          have n2 : ((c : Int) == 2) = false := by rw [beq_eq_false_iff_ne]; omega
          have n3 : ((c : Int) == 3) = false := by rw [beq_eq_false_iff_ne]; omega
          go_wp2_with fail
          go_meet
          exact ⟨_, HIH.out, HS7.out.mono (by omega), HO7.out⟩
      case rest =>
        obtain ⟨⟨⟨ynm2, yr2, yes2⟩, ynv2⟩, hih, hs9, ho9⟩ := hcut
        obtain ⟨ya2, yc2, hyv2, -⟩ := hih.2.2.1.value
        dsimp only at hyv2
        subst hyv2
        have q0 := hih.1.cell 0
        have q1 := hih.1.cell 1
        have q2 := hih.1.cell 2
        simp at q0 q1 q2
        have hgL : go < wc.heap.size := (World.ownsRow.lt hih.2.2.2.1 go rfl).2
        obtain ⟨_, _, hva, -, hca⟩ := hih.2.2.2.1.value
        simp only [Value.slice.injEq] at hva
        obtain ⟨e1, -, -⟩ := hva
        obtain ⟨g2, e2, -, -, hcell⟩ := hca (by omega)
        rw [← e1] at e2
        simp only [Option.some.injEq, Addr.mk.injEq, and_true] at e2
        subst e2
        obtain ⟨x0, x1, x2⟩ := hcell b hbl
        have f0 : wc.frozen? ⟨go, b * 3, none⟩ = false := lay_fro hih.2.2.2.1 _
        have f1 : wc.frozen? ⟨go, b * 3 + 1, none⟩ = false := lay_fro hih.2.2.2.1 _
        have f2 : wc.frozen? ⟨go, b * 3 + 2, none⟩ = false := lay_fro hih.2.2.2.1 _
        have HIH2 : Hid (InHand w.heap.size b7 b l (.slice (some ⟨go, 0, none⟩) l.length oc) wc ⟨⟨ynm2, yr2, yes2⟩, .slice ya2 yes2.length yc2⟩) := hih
        have hbl' : (b : Int) < (l.length : Int) := by omega
        clear hcell hca hih e1
        go_wp2_with fail
        go_ret
        have hset := OwnLayVs.set HIH2.out.2.2.2.1 b hbl ⟨⟨ynm2, yr2, yes2⟩, .slice ya2 yes2.length yc2⟩
        have g1 := set_grown wc go (b * 3) (.string ynm2)
        have g2 := set_grown (wc.setCell ⟨go, b * 3, none⟩ (.string ynm2)) go (b * 3 + 1) (.int .i64 yr2)
        have g3 := set_grown ((wc.setCell ⟨go, b * 3, none⟩ (.string ynm2)).setCell ⟨go, b * 3 + 1, none⟩ (.int .i64 yr2)) go (b * 3 + 2) (.slice ya2 yes2.length yc2)
        have kp : ∀ (v : Value) (es : List Entry), OwnEntrys w.heap.size wc v es → OwnEntrys w.heap.size (((wc.setCell ⟨go, b * 3, none⟩ (.string ynm2)).setCell ⟨go, b * 3 + 1, none⟩ (.int .i64 yr2)).setCell ⟨go, b * 3 + 2, none⟩ (.slice ya2 yes2.length yc2)) v es := fun v es hv => by
          have hne : v.ownBlock = none ∨ v.ownBlock ≠ some go := rows_apartD hv HIH2.out.2.2.2.1 (by decide)
          exact ((hv.kept g1 hne).kept g2 hne).kept g3 hne
        refine ⟨_, l.set b ⟨⟨ynm2, yr2, yes2⟩, .slice ya2 yes2.length yc2⟩, rfl, ⟨hset, fun y hy => ?_⟩, by simp; omega, ?_, ((ho9.set' hgoB _ _).set' hgoB _ _).set' hgoB _ _⟩
        · obtain ⟨j, hj, rfl⟩ := List.getElem_of_mem hy
          have hj' : j < l.length := by simpa using hj
          rw [List.getElem_set]
          by_cases e : b = j
          · rw [if_pos e]
            exact ⟨kp _ _ HIH2.out.2.2.1, HIH2.out.2.1⟩
          · rw [if_neg e]
            exact ⟨kp _ _ (HIH2.out.2.2.2.2 j hj' (fun q => e q.symm)), (HOW.out.ok _ (List.getElem_mem hj')).1⟩
        · have hgg : go ≠ g := by omega
          exact (((hs9.set' hgg (by omega) _ _).set' hgg (by omega) _ _).set' hgg (by omega) _ _).mono (by omega)
end Go.Proofs.YtdlopjimheaekaaGreatDoor
