/-
  What the document's RunSaga answers: plain. No statement of the seat is proved here.
-/
import Derived.Test.YtbpijollcjdkhaaDoorK9
import Derived.Test.YtbpijollcjdkhaaDoorK10
namespace Go.Proofs.YtbpijollcjdkhaaDoor
open Go.ChangeShapes Go.WideShapes Go.ChangeAt Go.RowKit
set_option linter.unusedVariables false
set_option linter.unusedSimpArgs false

theorem results_cell1 {fn : Func} {p : Tmp} {ty : TypeId} (h : fn.results = #[.cell p ty]) (tmps : Array Value) (P : Program) (w : World) :
    (results fn tmps).run P w = ((asAddr (tmps.getD p undef)).run P w).andThen fun a w₁ => (loadVar ty a).run P w₁ := by
  simp only [results, h]
  simp [Sem.run_bind, Result.andThen]
/-- What a RunSaga answers. -/
structure Log where
  code : Int
  st : Int
  reps : List Int
  cmds : List Cmd
  done : List ByteArray
def nameAt (l : List Step) (k : Nat) : ByteArray := (stepOf l k).name
def logOf (l : List Step) (p : Sg × List Int) : Log := ⟨0, p.1.st, p.2, p.1.cmds, p.1.done.map (nameAt l)⟩
noncomputable def logF (l : List Step) (ms : List Msg) : Log :=
  if 4096 < l.length ∨ 4096 < ms.length then ⟨2, 0, [], [], []⟩
  else if sagaB l = false then ⟨1, 0, [], [], []⟩
  else if 300 < ms.length then ⟨10, 0, [], [], []⟩
  else logOf l (hears l (beginS l, []) ms)
/-- An answer in memory. -/
def OwnLog (B : Nat) (w : World) (v : Value) (x : Log) : Prop := ∃ rv cv nv, v = .agg #[.int .i64 x.code, .int .i64 x.st, rv, cv, nv] ∧ OwnNums B w rv x.reps ∧ OwnCmds B w cv x.cmds ∧ OwnTxts B w nv x.done
theorem OwnLog.bare (B : Nat) (w : World) (c : Int) : OwnLog B w (.agg #[.int .i64 c, .int .i64 0, .slice none 0 0, .slice none 0 0, .slice none 0 0]) ⟨c, 0, [], [], []⟩ := ⟨_, _, _, rfl, OwnNums.nil _ _, OwnCmds.nil _ _, OwnTxts.nil _ _⟩
/-- What a RunSaga answers, whatever it is. -/
def RunSagaC (f : Nat) (T : World → Prop) (C : List Step → List Msg → Log) : Prop := ∀ (S : Nat → Prop) (l0 : List Step) (l1 : List Msg) (v0 v1 : Value) (w : World), (∀ b, S b → b < w.heap.size) → StepsAt S w v0 l0 → l0.length ≤ 1048576 → (∀ x ∈ l0, StepsOK 1048576 x) → StepsFull w v0 l0 → MsgsAt S w v1 l1 → l1.length ≤ 1048576 → (∀ W, Below w.heap.size w W → T W) →
  Calls Tryd.prog f #[v0, v1] w fun e w' => (∃ v, e = .returned v ∧ OwnLog w.heap.size w' v (C l0 l1)) ∧ Below w.heap.size w w'
theorem hears_append (l : List Step) : ∀ (a : List Msg) (p : Sg × List Int) (b : List Msg), hears l p (a ++ b) = hears l (hears l p a) b
  | [], _, _ => rfl
  | m :: a, p, b => by simp only [List.cons_append, hears]; exact hears_append l a _ b
theorem hears_take {l : List Step} {p q : Sg × List Int} {ms : List Msg} {k : Nat} (hk : k < ms.length) (h : hears l p (ms.take k) = q) : hears l p (ms.take (k + 1)) = (hearS l q.1 ms[k], q.2 ++ [codeS l q.1 ms[k]]) := by
  rw [List.take_succ_eq_append_getElem hk, hears_append, h]
  simp only [hears]
theorem hear_cmds {l : List Step} {s : Sg} (h : Ok l s) (ht : ∀ i (hi : i < l.length), l[i].tries ≤ 5) (m : Msg) : (hearS l s m).cmds.length ≤ s.cmds.length + l.length + 2 := by
  by_cases hc : codeS l s m = 0
  · have e : hearS l s m = goOnS l (moveS l s (numOf l m.step) m.kind) := by unfold hearS; rw [if_pos hc]
    rw [e]
    unfold codeS at hc
    by_cases h1 : findI (names l) m.step < 0
    · rw [if_pos h1] at hc; omega
    rw [if_neg h1] at hc
    by_cases h2 : m.kind < 1 ∨ 4 < m.kind
    · rw [if_pos h2] at hc; omega
    rw [if_neg h2] at hc
    by_cases h3 : s.st ≠ 1 ∧ s.st ≠ 2
    · rw [if_pos h3] at hc; omega
    rw [if_neg h3] at hc
    by_cases h4 : isAt s (numOf l m.step) ≠ wantI m.kind
    · rw [if_pos h4] at hc; omega
    have hw : isAt s (numOf l m.step) ≠ 2 := by
      rw [Classical.not_not.1 h4]
      unfold wantI
      split <;> omega
    have hok := h.move ht (find_lt (Int.not_lt.1 h1)).1 m.kind hw
    have := goOn_cmds hok
    have := move_cmds l s (numOf l m.step) m.kind
    omega
  · have e : hearS l s m = s := by unfold hearS; rw [if_neg hc]
    rw [e]; omega
theorem saga_in {S : Nat → Prop} {w : World} {a : Option Addr} {cap : Nat} {l : List Step} (hS : ∀ b, S b → b < w.heap.size) (h : StepsAt S w (.slice a l.length cap) l) (hok : ∀ x ∈ l, StepsOK 1048576 x) (hb : sagaB l = true) : SagaIn S w.heap.size w a cap l := by
  have hlen : 1 ≤ l.length ∧ l.length ≤ 20 := Classical.byContradiction fun hn => by rw [sagaB_len hn] at hb; simp at hb
  have hat : ∀ i (hi : i < l.length), StepAt l i hi := fun i hi => Classical.byContradiction fun hn => by rw [sagaB_not i hi hn] at hb; simp at hb
  refine ⟨hS, h, hok, hlen, fun i hi => ?_, fun i hi t ht => ?_⟩
  · have := (hat i hi).1
    unfold stepB0 at this
    simp only [Bool.and_eq_true, decide_eq_true_eq] at this
    omega
  · obtain ⟨k, hk, rfl⟩ := List.getElem_of_mem ht
    have h1 := ((hat i hi).2 k hk).1
    have h2 : hasB (names l) l[i].needs[k] = true := by
      unfold hasB at h1 ⊢
      rw [List.any_eq_true] at h1 ⊢
      obtain ⟨x, hx, he⟩ := h1
      refine ⟨x, ?_, he⟩
      unfold ahead at hx
      unfold names
      rw [List.mem_map] at hx ⊢
      obtain ⟨y, hy, rfl⟩ := hx
      exact ⟨y, List.mem_of_mem_take hy, rfl⟩
    rw [← findI_has] at h2
    exact of_decide_eq_true h2
theorem rowOff {w : World} {B g n k : Nat} {E ty : TypeId} {v : Value} {xs : List Value} {cs : Array Value} (h : w.ownsRow B E k v n xs) (hb : Blk w g ty cs) (hne : ty ≠ E) : Off v g := by
  rcases h.2 with ⟨rfl, _⟩ | ⟨k, cap, cur, rfl, hB, hg, _⟩
  · simp [Off, Value.ownBlock]
  · intro e
    simp [Value.ownBlock] at e
    subst e
    exact Blk.apart hb (show Blk w _ _ _ from hg) hne rfl
theorem rowApart {w : World} {B B' n m k k' : Nat} {E E' : TypeId} {v u : Value} {xs ys : List Value} (h : w.ownsRow B E k v n xs) (h' : w.ownsRow B' E' k' u m ys) (hne : E ≠ E') : v.ownBlock = none ∨ v.ownBlock ≠ u.ownBlock := by
  rcases h'.2 with ⟨rfl, _⟩ | ⟨g, cap, cur, rfl, hB, hg, _⟩
  · cases e : v.ownBlock with
    | none => exact .inl rfl
    | some x => right; simp [Value.ownBlock]
  · right
    exact rowOff h (show Blk w _ _ _ from hg) (fun e => hne e.symm)
/-- The document's run at its end: the names of the done ones are collected. -/
structure RunE (S : Nat → Prop) (B : Nat) (l : List Step) (a : Option Addr) (cap g gi gt : Nat) (dv rv cv nv : Value) (w0 w : World) (s : Sg) (reps : List Int) (ns : List ByteArray) : Prop where
  saga : SagaIn S B w a cap l
  blk : Blk w g 55 #[.slice a l.length cap, .slice (some ⟨gi, 0, none⟩) l.length l.length, .slice (some ⟨gt, 0, none⟩) l.length l.length, dv, .int .i64 0, .int .i64 s.st, rv, cv, nv]
  done : OwnNums B w dv (nums s.done)
  reps : OwnNums B w rv reps
  cmds : OwnCmds B w cv s.cmds
  nms : OwnTxts B w nv ns
  low : B ≤ g
  ok : Ok l s
  base : B ≤ w0.heap.size
  bel : Below B w0 w
section
variable {S : Nat → Prop} {B : Nat} {l : List Step} {a : Option Addr} {cap g gi gt : Nat} {dv rv cv nv : Value} {w0 w : World} {s : Sg} {reps : List Int} {ns : List ByteArray}
theorem RunS.end' (h : RunS S B l a cap g gi gt dv rv cv w0 w s reps) : RunE S B l a cap g gi gt dv rv cv (.slice none 0 0) w0 w s reps [] :=
  ⟨h.saga, h.blk, h.done, h.reps, h.cmds, OwnTxts.nil _ _, h.low.1, h.ok, h.base, h.bel⟩
theorem RunE.size (h : RunE S B l a cap g gi gt dv rv cv nv w0 w s reps ns) : B ≤ w.heap.size := Nat.le_trans h.base h.bel.size
theorem RunE.go (h : RunE S B l a cap g gi gt dv rv cv nv w0 w s reps ns) {w' : World} (hb : Below w.heap.size w w') : RunE S B l a cap g gi gt dv rv cv nv w0 w' s reps ns :=
  ⟨h.saga.below (hb.mono h.size) h.size, Blk.below h.blk hb, h.done.below hb, h.reps.below hb, h.cmds.below hb, OwnTxts.below h.nms hb, h.low, h.ok, h.base, h.bel.trans (hb.mono h.size)⟩
theorem RunE.grow (h : RunE S B l a cap g gi gt dv rv cv nv w0 w s reps ns) {w' : World} {nv' : Value} {ns' : List ByteArray} (hown : OwnTxts B w' nv' ns') (hB : Below B w w') (hgr : w.grownBy w' nv.ownBlock) :
    Blk w' g 55 #[.slice a l.length cap, .slice (some ⟨gi, 0, none⟩) l.length l.length, .slice (some ⟨gt, 0, none⟩) l.length l.length, dv, .int .i64 0, .int .i64 s.st, rv, cv, nv] ∧ RunE S B l a cap g gi gt dv rv cv nv' w0 (w'.setCell ⟨g, 8, none⟩ nv') s reps ns' := by
  have hbk := h.blk.kept hgr (Ne.symm (rowOff h.nms h.blk (by decide)))
  have hd' : OwnNums B w' dv (nums s.done) := h.done.kept hgr (rowApart h.done h.nms (by decide))
  have hr' : OwnNums B w' rv reps := h.reps.kept hgr (rowApart h.reps h.nms (by decide))
  have hc' : OwnCmds B w' cv s.cmds := h.cmds.kept hgr (rowApart h.cmds h.nms (by decide))
  have hb : Below B w (w'.setCell ⟨g, 8, none⟩ nv') := hB.setCell h.low nv'
  exact ⟨hbk, h.saga.below hb h.size, hbk.set 8 _, ownsRow_set hd' (rowOff hd' hbk (by decide)) _, ownsRow_set hr' (rowOff hr' hbk (by decide)) _, ownsRow_set hc' (rowOff hc' hbk (by decide)) _, ownsRow_set hown (rowOff hown hbk (by decide)) _, h.low, h.ok, h.base, h.bel.trans hb⟩
theorem RunE.stepCell (h : RunE S B l a cap g gi gt dv rv cv nv w0 w s reps ns) : ∃ b off, a = some ⟨b, off, none⟩ ∧ b < B ∧ ∀ i (hi : i < l.length), w.cell? ⟨b, off + i * 4, none⟩ = some (.string (nameAt l i)) := by
  obtain ⟨_, a', cap', hv, hc⟩ := h.saga.at'
  simp only [Value.slice.injEq] at hv
  obtain ⟨rfl, -, rfl⟩ := hv
  obtain ⟨b, off, rfl, hS, hcell⟩ := hc (by have := h.saga.len; omega)
  exact ⟨b, off, rfl, h.saga.low b hS, fun i hi => by unfold nameAt; rw [stepOf_eq hi]; exact (hcell i hi).1⟩
end
end Go.Proofs.YtbpijollcjdkhaaDoor
