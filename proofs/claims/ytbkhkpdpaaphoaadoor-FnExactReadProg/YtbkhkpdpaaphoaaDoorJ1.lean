/-
  A range over an iterator that keeps its place in a cell of its own. No statement of the seat is proved here.
-/
import Derived.Test.YtbkhkpdpaaphoaaDoorI15
import Derived.RangeFuncNested
import Derived.RangeFuncBound
import Derived.RangeFuncCalls
import Derived.RangeFuncLeaves
import Derived.RangeFuncBox
import Derived.Shelf.Abstract
import Derived.Shelf.RegionOpen
import Derived.OwnWalkIn
import Derived.TacticsInMore
import Derived.LoopNIn
import Derived.LoopIn
namespace Go.Proofs.YtbkhkpdpaaphoaaDoor
open Go.ChangeShapes Go.WideShapes Go.ChangeAt Go.RowKit Go.Shelf
set_option linter.unusedVariables false
set_option linter.unusedSimpArgs false

/-- What an iterator that writes one cell of its own, in the block bs, answers: what its caller holds of a world must bear that cell's turns. -/
def SeqCell {α : Type} (F : Fence) (n : Nat) (P : Program) (f : Nat) (lb : Array Value) (enc : α → Value) (Kp : World → World → Prop) (S Sp : List α → Prop) (N bs : Nat) (w0 : World) : Prop :=
  ∀ (l : Nat) (J Jx : List α → World → Prop) (W : World), Below w0.heap.size w0 W →
    (∀ xs V v, J xs V → J xs (V.setCell ⟨bs, 0, none⟩ v)) →
    (∀ pre x V, J pre V → pre.length < N → YieldAt F (n - 1) P l #[enc x] V fun e V' => (e = .returned (.bool true) ∧ J (pre ++ [x]) V' ∧ Kp V V') ∨ (e = .returned (.bool false) ∧ Jx (pre ++ [x]) V')) →
    J [] W →
    CallsIn F n P f (#[.func (.yield l) #[] #[]] ++ lb) W fun e V' => (∃ v, e = .returned v) ∧ ((∃ xs, S xs ∧ J xs V') ∨ (∃ pre, Sp pre ∧ Jx pre V'))

section
variable {α : Type} {F : Fence} {n : Nat} {P : Program}
/-- A turn of the loop's own record, or of the block of its deferred calls. -/
theorem turn_other {W : World} {k l : Nat} {o o' p : Obj} (hk : W.heap[k]? = some o) (hl : W.heap[l]? = some p) (hne : k ≠ l) : (W.putObj l o').heap[k]? = some o := (World.putObj_heap_other hne).trans hk
theorem wpIn_rangeFunc_cell {g : Operand} {p : Tmp} {assign body : Code} {Q : Exit → Act → World → Prop} {a : Act} {w : World}
    (hro : F.round = none) (h1 : 1 ≤ n) {f : Nat} {lb : Array Value} (hg : a.eval g = .func (.func f) #[] lb) (hFf : F.fn f) (ef : ∀ args w, (callFunc f args).run P w = .ok (.enter f args) w)
    {enc : α → Value} {Kp : World → World → Prop} {S Sp : List α → Prop} {N bs : Nat} {w0 : World} (hseq : SeqCell F (n - 1) P f lb enc Kp S Sp N bs w0) (hb0 : Below w0.heap.size w0 w) (hbs : bs < w.heap.size)
    (hKt : ∀ {A B C : World}, Kp A B → Kp B C → Kp A C) (hKb : ∀ (W : World) (l : Nat) (o : Obj), w.heap.size ≤ l → Kp W (W.putObj l o))
    (I : List α → World → Prop) (Ix : Code → List α → World → Prop) (hI : OwnFrom w.heap.size I) (hIx : ∀ c, OwnFrom w.heap.size (Ix c)) (hIs : ∀ xs V v, I xs V → I xs (V.setCell ⟨bs, 0, none⟩ v)) (h0 : I [] w) (a₁ : α → Act)
    (hassign : ∀ (l : Nat) (x : α) (W : World) (K : Act → World → Prop), K (a₁ x) W → assign.wpIn (F.inRound l) (n - 1 - 1) P (Exit.then K (fun _ _ _ => False)) { tmps := a.tmps.setIfInBounds p (enc x), defers := [] } W)
    (hbody : ∀ (l : Nat) (pre : List α) (x : α) (W : World), I pre W → pre.length < N → body.wpIn (F.inRound l) (n - 1 - 1) P (ownPostK Kp I Ix (pre ++ [x]) W) (a₁ x) W)
    (hdone : ∀ (D : Nat) (xs : List α) (W : World), w.heap.size ≤ D → S xs → I xs W → W.heap[D]? = some (.deferred (some [])) → Q .normal { a with defers := { target := .collected D, args := #[] } :: a.defers } W)
    (hstop : ∀ (D : Nat) (c : Code) (pre : List α) (W : World), w.heap.size ≤ D → Sp pre → Ix c pre W → W.heap[D]? = some (.deferred (some [])) → c.wpIn F n P Q { a with defers := { target := .collected D, args := #[] } :: a.defers } W) :
    (Code.rangeFunc g #[p] assign body).wpIn F n P Q a w := by
  refine wpIn_rangeFunc fun fn hfn => ?_
  -- the loop's record, as it stands at each state
  let R : LoopState → Option Code → Obj := fun st pe => .loop { state := st, pending := pe, fn := fn, tmps := a.tmps, params := #[p], assign := assign, body := body, defers := w.heap.size }
  let D : Obj := .deferred (some [])
  let L := w.heap.size + 1
  have hw1 : ((w.alloc D).alloc (R .ready none)).heap[L]? = some (R .ready none) := by
    have := World.alloc_heap_new (w.alloc D) (R .ready none)
    rwa [World.size_alloc] at this
  have hw2 : ((w.alloc D).alloc (R .ready none)).heap[w.heap.size]? = some D := (Below.heap_alloc _ _ _ (by simp)).trans (World.alloc_heap_new w D)
  have hIa := hI.alloc (R .ready none) (hI.alloc D h0)
  have hLb : w.heap.size ≤ L := Nat.le_succ _
  rw [hro]
  refine ⟨L, [{ target := .collected w.heap.size, args := #[] }], (w.alloc D).alloc (R .ready none), { target := .fn (.func f) lb, args := #[.func (.yield L) #[] #[]] }, (w.alloc D).alloc (R .ready none), f, #[.func (.yield L) #[] #[]] ++ lb, (w.alloc D).alloc (R .ready none), run_enterLoop_outer _ _ _ _ _, by (simp only [resolve, hg]; simp [go_sem, L]), fun f' hf' => ?_, by simp [invoke, go_sem, ef], fun _ => h1, ?_⟩
  · simp [Target.leads] at hf'
    subst hf'
    exact hFf
  refine (hseq L (fun pre W => I pre W ∧ W.heap[L]? = some (R .ready none) ∧ W.heap[w.heap.size]? = some D) (fun pre W => ∃ c, Ix c pre W ∧ W.heap[L]? = some (R .done (some c)) ∧ W.heap[w.heap.size]? = some D) _ (hb0.trans ((((Below.refl _ w).alloc (Nat.le_refl _) _).alloc (by simp) _).mono hb0.size))
    (fun xs V v hV => ⟨hIs xs V v hV.1, (Below.heap_setCell _ _ _ _ (by simp only [L]; omega)).trans hV.2.1, (Below.heap_setCell _ _ _ _ (by simp only; omega)).trans hV.2.2⟩) ?_ ⟨hIa, hw1, hw2⟩).mono ?_
  · rintro pre x W ⟨hi, hl, hd⟩ hlen
    refine ⟨fn, a.tmps.setIfInBounds p (enc x), assign, body, by simpa using run_yield (P := P) (args := #[enc x]) hl rfl, roundIn_of_wpIn hfn (hassign L x W _ ⟨_, run_beginRound hl rfl, ?_⟩)⟩
    have hlt := (Array.getElem?_eq_some_iff.1 hl).1
    have hl2 : (W.putObj L (R .busy none)).heap[L]? = some (R .busy none) := World.putObj_heap_same hlt
    have hd2 : (W.putObj L (R .busy none)).heap[w.heap.size]? = some D := turn_other hd hl (by simp only [L]; omega)
    refine wpIn_mono (hbody L pre x _ (hI.putObj _ hi hLb hl rfl) hlen) ?_
    -- how a round ends
    have fin : ∀ (jump : Option Code) (V : World), KeepsOthers (W.putObj L (R .busy none)) V → V.heap[L]? = some (R .busy none) ∧ (Instr.endRound L jump).run P V = .ok (.bool jump.isNone) (V.putObj L (R (if jump.isNone then .ready else .done) jump)) ∧ (V.putObj L (R (if jump.isNone then .ready else .done) jump)).heap[L]? = some (R (if jump.isNone then .ready else .done) jump) ∧ (V.putObj L (R (if jump.isNone then .ready else .done) jump)).heap[w.heap.size]? = some D := by
      intro jump V hk
      have hv := hk.same _ _ hl2 rfl
      exact ⟨hv, run_endRound (P := P) jump hv, World.putObj_heap_same (Array.getElem?_eq_some_iff.1 hv).1, turn_other (hk.same _ _ hd2 rfl) hv (by simp only [L]; omega)⟩
    have leave : ∀ (c : Code) (V : World), KeepsOthers (W.putObj L (R .busy none)) V → Ix c (pre ++ [x]) V → ∃ v V', (Instr.endRound L (some c)).run P V = .ok v V' ∧ ((Ending.returned v = .returned (.bool true) ∧ (I (pre ++ [x]) V' ∧ V'.heap[L]? = some (R .ready none) ∧ V'.heap[w.heap.size]? = some D) ∧ Kp W V') ∨ (Ending.returned v = .returned (.bool false) ∧ ∃ c, Ix c (pre ++ [x]) V' ∧ V'.heap[L]? = some (R .done (some c)) ∧ V'.heap[w.heap.size]? = some D)) := by
      intro c V hk hi
      obtain ⟨hv, hr, e1, e2⟩ := fin (some c) V hk
      exact ⟨_, _, hr, .inr ⟨rfl, c, (hIx c).putObj _ hi hLb hv rfl, e1, e2⟩⟩
    intro e b V hp
    cases e with
    | normal =>
      obtain ⟨hk, hkp, hi3⟩ := hp
      obtain ⟨hv, hr, e1, e2⟩ := fin none V hk
      exact ⟨_, _, hr, .inl ⟨rfl, ⟨hI.putObj _ hi3 hLb hv rfl, e1, e2⟩, hKt (hKt (hKb W L _ hLb) hkp) (hKb V L _ hLb)⟩⟩
    | ret => exact leave .ret V hp.1 hp.2
    | exit id => exact leave (.exit id) V hp.1 hp.2
    | goto t => exact leave (.goto t) V hp.1 hp.2
    | panic ch => exact hp.elim
    | outgrown => exact hp.elim
  · rintro e V ⟨⟨v, rfl⟩, ⟨xs, hS, hi, hl, hd⟩ | ⟨pre, hS, c, hi, hl, hd⟩⟩
    · exact ⟨none, _, run_endLoop (P := P) hl (by simp), hdone _ xs _ (Nat.le_refl _) hS (hI.putObj _ hi hLb hl rfl) (turn_other hd hl (by simp only [L]; omega))⟩
    · exact ⟨some c, _, run_endLoop (P := P) hl (by simp), hstop _ c pre _ (Nat.le_refl _) hS ((hIx c).putObj _ hi hLb hl rfl) (turn_other hd hl (by simp only [L]; omega))⟩
end
end Go.Proofs.YtbkhkpdpaaphoaaDoor
