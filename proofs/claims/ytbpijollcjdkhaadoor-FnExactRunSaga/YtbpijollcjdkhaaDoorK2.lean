/-
  The document's run of a saga as it lies in memory. No statement of the seat is proved here.
-/
import Derived.Test.YtbpijollcjdkhaaDoorK1
import Derived.Test.YtbpijollcjdkhaaDoorH0
namespace Go.Proofs.YtbpijollcjdkhaaDoor
open Go.ChangeShapes Go.WideShapes Go.ChangeAt Go.RowKit
set_option linter.unusedVariables false
set_option linter.unusedSimpArgs false

/-- Cells that are these numbers. -/
def IntsAt (cs : Array Value) (l : List Int) : Prop := cs.size = l.length ∧ ∀ i (h : i < l.length), cs[i]? = some (.int .i64 l[i])
theorem IntsAt.set {cs : Array Value} {l : List Int} (h : IntsAt cs l) (i : Nat) (x : Int) : IntsAt (cs.setIfInBounds i (.int .i64 x)) (l.set i x) := by
  refine ⟨by simp [h.1], fun j hj => ?_⟩
  have hj' : j < l.length := by simpa using hj
  rw [Array.getElem?_setIfInBounds, List.getElem_set]
  by_cases e : i = j
  · subst e; rw [if_pos rfl, if_pos (by rw [h.1]; exact hj'), if_pos rfl]
  · rw [if_neg e, if_neg e]; exact h.2 j hj'
def nums (l : List Nat) : List Int := l.map (fun k : Nat => (k : Int))
theorem nums_len (l : List Nat) : (nums l).length = l.length := by simp [nums]
theorem nums_at (l : List Nat) (i : Nat) (h : i < (nums l).length) : (nums l)[i] = ((l[i]'(by rwa [nums_len] at h) : Nat) : Int) := by simp [nums]
/-- The row v is not in block b. -/
def Off (v : Value) (b : Nat) : Prop := v.ownBlock ≠ some b
/-- The steps of a saga, in blocks of S. -/
structure SagaIn (S : Nat → Prop) (B : Nat) (w : World) (a : Option Addr) (cap : Nat) (l : List Step) : Prop where
  low : ∀ b, S b → b < B
  at' : StepsAt S w (.slice a l.length cap) l
  ok : ∀ x ∈ l, StepsOK 1048576 x
  len : 1 ≤ l.length ∧ l.length ≤ 20
  tries : ∀ i (hi : i < l.length), l[i].tries ≤ 5
  needs : ∀ i (hi : i < l.length), ∀ t ∈ l[i].needs, 0 ≤ findI (names l) t
theorem SagaIn.below {S : Nat → Prop} {B : Nat} {w w' : World} {a : Option Addr} {cap : Nat} {l : List Step} (h : SagaIn S B w a cap l) (hb : Below B w w') (hB : B ≤ w.heap.size) : SagaIn S B w' a cap l :=
  ⟨h.low, h.at'.keep (fun b i hs => hb.cell (h.low b hs)), h.ok, h.len, h.tries, h.needs⟩
/-- The document's run. -/
structure RunS (S : Nat → Prop) (B : Nat) (l : List Step) (a : Option Addr) (cap g gi gt : Nat) (dv rv cv : Value) (w0 w : World) (s : Sg) (reps : List Int) : Prop where
  saga : SagaIn S B w a cap l
  blk : Blk w g 55 #[.slice a l.length cap, .slice (some ⟨gi, 0, none⟩) l.length l.length, .slice (some ⟨gt, 0, none⟩) l.length l.length, dv, .int .i64 0, .int .i64 s.st, rv, cv, .slice none 0 0]
  is : ∃ cs, Blk w gi 3 cs ∧ IntsAt cs s.is
  tr : ∃ cs, Blk w gt 3 cs ∧ IntsAt cs s.tr
  done : OwnNums B w dv (nums s.done)
  reps : OwnNums B w rv reps
  cmds : OwnCmds B w cv s.cmds
  low : B ≤ g ∧ B ≤ gi ∧ B ≤ gt
  ne : gi ≠ gt
  di : Off dv gi ∧ Off dv gt
  ri : Off rv gi ∧ Off rv gt
  dr : dv.ownBlock = none ∨ dv.ownBlock ≠ rv.ownBlock
  ok : Ok l s
  base : B ≤ w0.heap.size
  bel : Below B w0 w
theorem Blk.apart {w : World} {g g' : Nat} {ty ty' : TypeId} {cs cs' : Array Value} (h : Blk w g ty cs) (h' : Blk w g' ty' cs') (hne : ty ≠ ty') : g ≠ g' := by
  intro e
  subst e
  unfold Blk at *
  rw [h] at h'
  injection h' with h'
  injection h' with _ h'
  exact hne h'
theorem OwnNums.off {B g : Nat} {w : World} {v : Value} {l : List Int} {ty : TypeId} {cs : Array Value} (h : OwnNums B w v l) (hb : Blk w g ty cs) (hne : ty ≠ 3) : Off v g := by
  rcases h.2 with ⟨rfl, _⟩ | ⟨k, cap, cur, rfl, hB, hg, _⟩
  · simp [Off, Value.ownBlock]
  · intro e
    simp [Value.ownBlock] at e
    subst e
    exact Blk.apart hb (show Blk w _ _ _ from hg) hne rfl
theorem OwnCmds.off {B g : Nat} {w : World} {v : Value} {l : List Cmd} {ty : TypeId} {cs : Array Value} (h : OwnCmds B w v l) (hb : Blk w g ty cs) (hne : ty ≠ 93) : Off v g := by
  rcases h.2 with ⟨rfl, _⟩ | ⟨k, cap, cur, rfl, hB, hg, _⟩
  · simp [Off, Value.ownBlock]
  · intro e
    simp [Value.ownBlock] at e
    subst e
    exact Blk.apart hb (show Blk w _ _ _ from hg) hne rfl
theorem ownsRow_set {B g i n : Nat} {w : World} {v : Value} {E : TypeId} {k : Nat} {xs : List Value} (h : w.ownsRow B E k v n xs) (ho : Off v g) (x : Value) : (w.setCell ⟨g, i, none⟩ x).ownsRow B E k v n xs := by
  obtain ⟨h1, h2⟩ := h
  refine ⟨h1, ?_⟩
  rcases h2 with h2 | ⟨b, cap, cur, hv, hB, hg, h3⟩
  · exact .inl h2
  · refine .inr ⟨b, cap, cur, hv, hB, ?_, h3⟩
    have hne : b ≠ g := fun e => ho (by rw [hv, e]; rfl)
    rw [Below.heap_setCell _ _ _ _ hne]; exact hg
theorem OwnNums.set {B g i : Nat} {w : World} {v : Value} {l : List Int} (h : OwnNums B w v l) (ho : Off v g) (x : Value) : OwnNums B (w.setCell ⟨g, i, none⟩ x) v l := ownsRow_set h ho x
theorem OwnCmds.set {B g i : Nat} {w : World} {v : Value} {l : List Cmd} (h : OwnCmds B w v l) (ho : Off v g) (x : Value) : OwnCmds B (w.setCell ⟨g, i, none⟩ x) v l := ownsRow_set h ho x
theorem OwnNums.apartC {B : Nat} {w : World} {v u : Value} {l : List Int} {c : List Cmd} (h : OwnNums B w v l) (hc : OwnCmds B w u c) : v.ownBlock = none ∨ v.ownBlock ≠ u.ownBlock := by
  rcases hc.2 with ⟨rfl, _⟩ | ⟨k, cap, cur, rfl, hB, hg, _⟩
  · rcases h.2 with ⟨rfl, _⟩ | ⟨k, cap, cur, rfl, _⟩
    · exact .inl rfl
    · right; simp [Value.ownBlock]
  · right
    exact h.off (show Blk w _ _ _ from hg) (by decide)
section
variable {S : Nat → Prop} {B : Nat} {l : List Step} {a : Option Addr} {cap g gi gt : Nat} {dv rv cv : Value} {w0 w : World} {s : Sg} {reps : List Int}
theorem RunS.size (h : RunS S B l a cap g gi gt dv rv cv w0 w s reps) : B ≤ w.heap.size := Nat.le_trans h.base h.bel.size
theorem RunS.gi_ne (h : RunS S B l a cap g gi gt dv rv cv w0 w s reps) : gi ≠ g := by
  obtain ⟨cs, hb, _⟩ := h.is
  exact Blk.apart hb h.blk (by decide)
theorem RunS.gt_ne (h : RunS S B l a cap g gi gt dv rv cv w0 w s reps) : gt ≠ g := by
  obtain ⟨cs, hb, _⟩ := h.tr
  exact Blk.apart hb h.blk (by decide)
theorem RunS.go (h : RunS S B l a cap g gi gt dv rv cv w0 w s reps) {w' : World} (hb : Below w.heap.size w w') : RunS S B l a cap g gi gt dv rv cv w0 w' s reps := by
  obtain ⟨cs, h1, h2⟩ := h.is
  obtain ⟨ct, h3, h4⟩ := h.tr
  exact ⟨h.saga.below (hb.mono h.size) h.size, Blk.below h.blk hb, ⟨cs, Blk.below h1 hb, h2⟩, ⟨ct, Blk.below h3 hb, h4⟩, h.done.below hb, h.reps.below hb, h.cmds.below hb, h.low, h.ne, h.di, h.ri, h.dr, h.ok, h.base, h.bel.trans (hb.mono h.size)⟩
theorem RunS.drew (h : RunS S B l a cap g gi gt dv rv cv w0 w s reps) : RunS S B l a cap g gi gt dv rv cv w0 w.drew s reps := h.go (Below.refl _ _).drew
/-- A cell of the run itself. -/
theorem RunS.putSt (h : RunS S B l a cap g gi gt dv rv cv w0 w s reps) (x : Int) : RunS S B l a cap g gi gt dv rv cv w0 (w.setCell ⟨g, 5, none⟩ (.int .i64 x)) (setSt s x) reps := by
  obtain ⟨cs, h1, h2⟩ := h.is
  obtain ⟨ct, h3, h4⟩ := h.tr
  have hb := (Below.refl B w).setCell (p := ⟨g, 5, none⟩) h.low.1 (.int .i64 x)
  refine ⟨h.saga.below hb h.size, h.blk.set 5 _, ⟨cs, h1.other h.gi_ne 5 _, h2⟩, ⟨ct, h3.other h.gt_ne 5 _, h4⟩, h.done.set (h.done.off h.blk (by decide)) _, h.reps.set (h.reps.off h.blk (by decide)) _, h.cmds.set (h.cmds.off h.blk (by decide)) _, h.low, h.ne, h.di, h.ri, h.dr, h.ok.setSt x, h.base, h.bel.trans hb⟩
theorem RunS.putIs (h : RunS S B l a cap g gi gt dv rv cv w0 w s reps) (i : Nat) (x : Int) (hok : Ok l (setIs s i x)) : RunS S B l a cap g gi gt dv rv cv w0 (w.setCell ⟨gi, i, none⟩ (.int .i64 x)) (setIs s i x) reps := by
  obtain ⟨cs, h1, h2⟩ := h.is
  obtain ⟨ct, h3, h4⟩ := h.tr
  have hb := (Below.refl B w).setCell (p := ⟨gi, i, none⟩) h.low.2.1 (.int .i64 x)
  refine ⟨h.saga.below hb h.size, h.blk.other (Ne.symm h.gi_ne) i _, ⟨_, h1.set i _, h2.set i x⟩, ⟨ct, h3.other (Ne.symm h.ne) i _, h4⟩, h.done.set h.di.1 _, h.reps.set h.ri.1 _, h.cmds.set (h.cmds.off h1 (by decide)) _, h.low, h.ne, h.di, h.ri, h.dr, hok, h.base, h.bel.trans hb⟩
theorem RunS.putTr (h : RunS S B l a cap g gi gt dv rv cv w0 w s reps) (i : Nat) (x : Int) (hok : Ok l (setTr s i x)) : RunS S B l a cap g gi gt dv rv cv w0 (w.setCell ⟨gt, i, none⟩ (.int .i64 x)) (setTr s i x) reps := by
  obtain ⟨cs, h1, h2⟩ := h.is
  obtain ⟨ct, h3, h4⟩ := h.tr
  have hb := (Below.refl B w).setCell (p := ⟨gt, i, none⟩) h.low.2.2 (.int .i64 x)
  refine ⟨h.saga.below hb h.size, h.blk.other (Ne.symm h.gt_ne) i _, ⟨cs, h1.other h.ne i _, h2⟩, ⟨_, h3.set i _, h4.set i x⟩, h.done.set h.di.2 _, h.reps.set h.ri.2 _, h.cmds.set (h.cmds.off h3 (by decide)) _, h.low, h.ne, h.di, h.ri, h.dr, hok, h.base, h.bel.trans hb⟩
/-- The commands grow. -/
theorem RunS.growC (h : RunS S B l a cap g gi gt dv rv cv w0 w s reps) {w' : World} {cv' : Value} {c : List Cmd} (hown : OwnCmds B w' cv' c) (hB : Below B w w') (hgr : w.grownBy w' cv.ownBlock) :
    Blk w' g 55 #[.slice a l.length cap, .slice (some ⟨gi, 0, none⟩) l.length l.length, .slice (some ⟨gt, 0, none⟩) l.length l.length, dv, .int .i64 0, .int .i64 s.st, rv, cv, .slice none 0 0] ∧ RunS S B l a cap g gi gt dv rv cv' w0 (w'.setCell ⟨g, 7, none⟩ cv') { s with cmds := c } reps := by
  obtain ⟨cs, h1, h2⟩ := h.is
  obtain ⟨ct, h3, h4⟩ := h.tr
  have hbk := h.blk.kept hgr (Ne.symm (h.cmds.off h.blk (by decide)))
  have h1' := h1.kept hgr (Ne.symm (h.cmds.off h1 (by decide)))
  have h3' := h3.kept hgr (Ne.symm (h.cmds.off h3 (by decide)))
  have hd' : OwnNums B w' dv (nums s.done) := h.done.kept hgr (h.done.apartC h.cmds)
  have hr' : OwnNums B w' rv reps := h.reps.kept hgr (h.reps.apartC h.cmds)
  have hb : Below B w (w'.setCell ⟨g, 7, none⟩ cv') := hB.setCell h.low.1 cv'
  refine ⟨hbk, h.saga.below hb h.size, hbk.set 7 _, ⟨cs, h1'.other h.gi_ne 7 _, h2⟩, ⟨ct, h3'.other h.gt_ne 7 _, h4⟩, hd'.set (hd'.off hbk (by decide)) _, hr'.set (hr'.off hbk (by decide)) _, hown.set (hown.off hbk (by decide)) _, h.low, h.ne, h.di, h.ri, h.dr, ⟨h.ok.il, h.ok.tl, h.ok.dn, h.ok.dk, h.ok.tb⟩, h.base, h.bel.trans hb⟩
/-- The done ones are a row that grew, or a new one. -/
theorem RunS.growD (h : RunS S B l a cap g gi gt dv rv cv w0 w s reps) {w' : World} {dv' : Value} {d : List Nat} (hown : OwnNums B w' dv' (nums d)) (hB : Below B w w') (hgr : w.grownBy w' dv.ownBlock) (hap : Off dv' gi ∧ Off dv' gt ∧ (dv'.ownBlock = none ∨ dv'.ownBlock ≠ rv.ownBlock)) (hok : Ok l { s with done := d }) :
    Blk w' g 55 #[.slice a l.length cap, .slice (some ⟨gi, 0, none⟩) l.length l.length, .slice (some ⟨gt, 0, none⟩) l.length l.length, dv, .int .i64 0, .int .i64 s.st, rv, cv, .slice none 0 0] ∧ RunS S B l a cap g gi gt dv' rv cv w0 (w'.setCell ⟨g, 3, none⟩ dv') { s with done := d } reps := by
  obtain ⟨cs, h1, h2⟩ := h.is
  obtain ⟨ct, h3, h4⟩ := h.tr
  have hbk := h.blk.kept hgr (Ne.symm (h.done.off h.blk (by decide)))
  have h1' := h1.kept hgr (Ne.symm h.di.1)
  have h3' := h3.kept hgr (Ne.symm h.di.2)
  have hr' : OwnNums B w' rv reps := h.reps.kept hgr (by
    rcases h.dr with e | e
    · rw [e]
      cases rv.ownBlock with
      | none => exact .inl rfl
      | some x => right; simp
    · exact .inr (Ne.symm e))
  have hc' : OwnCmds B w' cv s.cmds := h.cmds.kept hgr (by
    rcases h.done.apartC h.cmds with e | e
    · rw [e]
      cases cv.ownBlock with
      | none => exact .inl rfl
      | some x => right; simp
    · exact .inr (Ne.symm e))
  have hb : Below B w (w'.setCell ⟨g, 3, none⟩ dv') := hB.setCell h.low.1 dv'
  refine ⟨hbk, h.saga.below hb h.size, hbk.set 3 _, ⟨cs, h1'.other h.gi_ne 3 _, h2⟩, ⟨ct, h3'.other h.gt_ne 3 _, h4⟩, hown.set (hown.off hbk (by decide)) _, hr'.set (hr'.off hbk (by decide)) _, hc'.set (hc'.off hbk (by decide)) _, h.low, h.ne, ⟨hap.1, hap.2.1⟩, h.ri, hap.2.2, hok, h.base, h.bel.trans hb⟩
/-- The answers grow. -/
theorem RunS.growR (h : RunS S B l a cap g gi gt dv rv cv w0 w s reps) {w' : World} {rv' : Value} {r : List Int} (hown : OwnNums B w' rv' r) (hB : Below B w w') (hgr : w.grownBy w' rv.ownBlock) (hap : Off rv' gi ∧ Off rv' gt ∧ (dv.ownBlock = none ∨ dv.ownBlock ≠ rv'.ownBlock)) :
    Blk w' g 55 #[.slice a l.length cap, .slice (some ⟨gi, 0, none⟩) l.length l.length, .slice (some ⟨gt, 0, none⟩) l.length l.length, dv, .int .i64 0, .int .i64 s.st, rv, cv, .slice none 0 0] ∧ RunS S B l a cap g gi gt dv rv' cv w0 (w'.setCell ⟨g, 6, none⟩ rv') s r := by
  obtain ⟨cs, h1, h2⟩ := h.is
  obtain ⟨ct, h3, h4⟩ := h.tr
  have hbk := h.blk.kept hgr (Ne.symm (h.reps.off h.blk (by decide)))
  have h1' := h1.kept hgr (Ne.symm h.ri.1)
  have h3' := h3.kept hgr (Ne.symm h.ri.2)
  have hd' : OwnNums B w' dv (nums s.done) := h.done.kept hgr h.dr
  have hc' : OwnCmds B w' cv s.cmds := h.cmds.kept hgr (by
    rcases h.reps.apartC h.cmds with e | e
    · rw [e]
      cases cv.ownBlock with
      | none => exact .inl rfl
      | some x => right; simp
    · exact .inr (Ne.symm e))
  have hb : Below B w (w'.setCell ⟨g, 6, none⟩ rv') := hB.setCell h.low.1 rv'
  refine ⟨hbk, h.saga.below hb h.size, hbk.set 6 _, ⟨cs, h1'.other h.gi_ne 6 _, h2⟩, ⟨ct, h3'.other h.gt_ne 6 _, h4⟩, hd'.set (hd'.off hbk (by decide)) _, hown.set (hown.off hbk (by decide)) _, hc'.set (hc'.off hbk (by decide)) _, h.low, h.ne, h.di, ⟨hap.1, hap.2.1⟩, hap.2.2, h.ok, h.base, h.bel.trans hb⟩
/-- What a walk reads. -/
theorem RunS.isCell (h : RunS S B l a cap g gi gt dv rv cv w0 w s reps) (i : Nat) (hi : i < l.length) : w.cell? ⟨gi, i, none⟩ = some (.int .i64 (isAt s i)) ∧ w.frozen? ⟨gi, i, none⟩ = false := by
  obtain ⟨cs, h1, h2⟩ := h.is
  have hi' : i < s.is.length := by rw [h.ok.il]; exact hi
  exact ⟨by rw [h1.cell i, h2.2 i hi', isAt_eq hi'], h1.fro i⟩
theorem RunS.trCell (h : RunS S B l a cap g gi gt dv rv cv w0 w s reps) (i : Nat) (hi : i < l.length) : w.cell? ⟨gt, i, none⟩ = some (.int .i64 (trAt s i)) ∧ w.frozen? ⟨gt, i, none⟩ = false := by
  obtain ⟨cs, h1, h2⟩ := h.tr
  have hi' : i < s.tr.length := by rw [h.ok.tl]; exact hi
  exact ⟨by rw [h1.cell i, h2.2 i hi', trAt_eq hi'], h1.fro i⟩
theorem OwnNums.natCells {B : Nat} {w : World} {v : Value} {d : List Nat} (h : OwnNums B w v (nums d)) : ∃ da dc, v = .slice da d.length dc ∧ (0 < d.length → ∃ dg, da = some ⟨dg, 0, none⟩ ∧ B ≤ dg ∧ dg < w.heap.size ∧ ∀ j (hj : j < d.length), w.cell? ⟨dg, j, none⟩ = some (.int .i64 ((d[j] : Nat) : Int))) := by
  obtain ⟨da, dc, hdv, _, hdc⟩ := h.value
  refine ⟨da, dc, by rw [hdv, nums_len], fun h0 => ?_⟩
  obtain ⟨dg, h1, h2, h3, h4⟩ := hdc (by rw [nums_len]; exact h0)
  refine ⟨dg, h1, h2, h3, fun j hj => ?_⟩
  have hj' : j < (nums d).length := by rw [nums_len]; exact hj
  have := h4 j hj'
  rw [nums_at] at this
  exact this
/-- The steps' cells. -/
theorem RunS.stepCell (h : RunS S B l a cap g gi gt dv rv cv w0 w s reps) : ∃ b off, a = some ⟨b, off, none⟩ ∧ b < B ∧ ∀ i (hi : i < l.length), w.cell? ⟨b, off + i * 4, none⟩ = some (.string (stepOf l i).name) ∧ w.cell? ⟨b, off + i * 4 + 2, none⟩ = some (.bool (stepOf l i).undo) ∧ w.cell? ⟨b, off + i * 4 + 3, none⟩ = some (.int .i64 (stepOf l i).tries) ∧ ∃ nv, w.cell? ⟨b, off + i * 4 + 1, none⟩ = some nv ∧ TxtsAt S w nv (stepOf l i).needs := by
  obtain ⟨_, a', cap', hv, hc⟩ := h.saga.at'
  simp only [Value.slice.injEq] at hv
  obtain ⟨rfl, -, rfl⟩ := hv
  obtain ⟨b, off, rfl, hS, hcell⟩ := hc (by have := h.saga.len; omega)
  exact ⟨b, off, rfl, h.saga.low b hS, fun i hi => by rw [stepOf_eq hi]; exact hcell i hi⟩
end
end Go.Proofs.YtbpijollcjdkhaaDoor
