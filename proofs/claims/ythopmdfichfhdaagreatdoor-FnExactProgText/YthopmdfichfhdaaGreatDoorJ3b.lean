/-
  A program's text, as the program reads it: what lies in memory. No statement of the seat is proved here.
-/
import Derived.Test.YthopmdfichfhdaaGreatDoorJ3
namespace Go.Proofs.YthopmdfichfhdaaGreatDoor
open Go.ChangeShapes Go.WideShapes Go.ChangeAt Go.RowKit Go.Shelf
set_option linter.unusedVariables false
set_option linter.unusedSimpArgs false
attribute [local go_sem] Oper.semAt_some

theorem Blk.turn {W W' : World} {g : Nat} {ty : TypeId} {cs : Array Value} {row : Option Nat} (h : Blk W g ty cs) (hg : W.grownBy W' row) (hr : ∀ r, row = some r → ∃ o : Obj, W.heap[r]? = some o ∧ o.isCells = false) : Blk W' g ty cs :=
  (grownBy_keeps_cells hg hr h rfl).trans h
theorem row_turn {B n k : Nat} {W W' : World} {v : Value} {E : TypeId} {xs : List Value} {row : Option Nat} (h : W.ownsRow B E k v n xs) (hg : W.grownBy W' row) (hr : ∀ r, row = some r → ∃ o : Obj, W.heap[r]? = some o ∧ o.isCells = false) : W'.ownsRow B E k v n xs := by
  obtain ⟨h1, h2⟩ := h
  refine ⟨h1, ?_⟩
  rcases h2 with h2 | ⟨b, cap, cur, hv, hB, hgt, h3⟩
  · exact .inl h2
  · exact .inr ⟨b, cap, cur, hv, hB, (grownBy_keeps_cells hg hr hgt rfl).trans hgt, h3⟩
section
variable {B g : Nat} {iv tv jv : Value} {tvs : List Value} {W W' : World} {s : Rd}
theorem RdAt.turn (h : RdAt B g iv tv jv tvs W s) {row : Option Nat} (hg : W.grownBy W' row) (hr : ∀ r, row = some r → ∃ o : Obj, W.heap[r]? = some o ∧ o.isCells = false) : RdAt B g iv tv jv tvs W' s :=
  ⟨h.blk.turn hg hr, row_turn h.ini hg hr, row_turn h.thr hg hr, ⟨h.fam.len, fun i v l h1 h2 => row_turn (h.fam.own i v l h1 h2) hg hr, h.fam.dis⟩, row_turn h.jmp hg hr, trivial, Nat.le_trans h.size hg.size⟩
theorem row_off_low {B n k : Nat} {w : World} {v : Value} {E : TypeId} {xs : List Value} (h : w.ownsRow B E k v n xs) {b : Nat} (hb : b < B) : Off v b := fun e => by
  have := row_low h b e
  omega
theorem RdAt.poke (h : RdAt B g iv tv jv tvs W s) {b : Nat} (hb : b < B) (hne : g ≠ b) (i : Nat) (x : Value) : RdAt B g iv tv jv tvs (W.setCell ⟨b, i, none⟩ x) s :=
  ⟨h.blk.other hne _ _, row_set h.ini (row_off_low h.ini hb) _, row_set h.thr (row_off_low h.thr hb) _, ⟨h.fam.len, fun i v l h1 h2 => row_set (h.fam.own i v l h1 h2) (row_off_low (h.fam.own i v l h1 h2) hb) _, h.fam.dis⟩, row_set h.jmp (row_off_low h.jmp hb) _, trivial, by simpa using h.size⟩
end
/-- The boxes of ReadProg: the answer's three, where the reader is. -/
structure Box (h0 : Nat) (W : World) : Prop where
  prg : Blk W h0 30 #[.slice none 0 0, .slice none 0 0]
  cod : Blk W (h0 + 1) 3 #[.int .i64 0]
  lin : Blk W (h0 + 2) 3 #[.int .i64 0]
  ptr : Blk W (h0 + 4) 79 #[.pointer (some ⟨h0 + 3, 0, none⟩)]
theorem Box.turn {h0 : Nat} {W W' : World} (h : Box h0 W) {row : Option Nat} (hg : W.grownBy W' row) (hr : ∀ r, row = some r → ∃ o : Obj, W.heap[r]? = some o ∧ o.isCells = false) : Box h0 W' :=
  ⟨h.prg.turn hg hr, h.cod.turn hg hr, h.lin.turn hg hr, h.ptr.turn hg hr⟩
theorem Box.poke {h0 : Nat} {W : World} (h : Box h0 W) (b i : Nat) (hb : h0 + 4 < b ∨ b = h0 + 3) (x : Value) : Box h0 (W.setCell ⟨b, i, none⟩ x) :=
  ⟨h.prg.other (by omega) _ _, h.cod.other (by omega) _ _, h.lin.other (by omega) _ _, h.ptr.other (by omega) _ _⟩
theorem Box.chg {h0 B : Nat} {W W' : World} (h : Box h0 W) (hB : h0 + 4 < B) (hc : Chg B (h0 + 3) W W') : Box h0 W' :=
  ⟨hc.block _ _ h.prg (by omega) (.inl (by omega)), hc.block _ _ h.cod (by omega) (.inl (by omega)), hc.block _ _ h.lin (by omega) (.inl (by omega)), hc.block _ _ h.ptr (by omega) (.inl (by omega))⟩
/-- Between two lines. -/
def BetweenL (h0 : Nat) (w : World) (pre : List Ln) (W : World) : Prop :=
  ((∃ iv tv jv tvs s, RdAt (h0 + 8) (h0 + 3) iv tv jv tvs W s ∧ RdFit s ∧ JmpsIn s ∧ runR rd0 (pre.map (·.1)) = (0, s)) ∧ Box h0 W) ∧ Below h0 w W
/-- A line has a fault. -/
def FaultL (h0 : Nat) (w : World) (pre : List Ln) (W : World) : Prop :=
  (∃ s, (runR rd0 (pre.map (·.1))).1 ≠ 0 ∧ (runR rd0 (pre.map (·.1))).2 = s ∧ Blk W h0 30 #[.slice none 0 0, .slice none 0 0] ∧ Blk W (h0 + 1) 3 #[.int .i64 (runR rd0 (pre.map (·.1))).1] ∧ Blk W (h0 + 2) 3 #[.int .i64 s.ln]) ∧ Below h0 w W
theorem betweenOwn (h0 B : Nat) (w : World) (hB : h0 ≤ w.heap.size) (hB2 : h0 ≤ B) : OwnFrom B (BetweenL h0 w) :=
  OwnFrom.and (fun pre V V' row h hg hr => ⟨by
    obtain ⟨⟨iv, tv, jv, tvs, s, h1, h2, h3, h4⟩, h5⟩ := h
    exact ⟨iv, tv, jv, tvs, s, h1.turn hg (fun r e => (hr r e).2), h2, h3, h4⟩, h.2.turn hg (fun r e => (hr r e).2)⟩) (ownFrom_below hB hB2)
theorem faultOwn (h0 B : Nat) (w : World) (hB : h0 ≤ w.heap.size) (hB2 : h0 ≤ B) : OwnFrom B (FaultL h0 w) :=
  OwnFrom.and (fun pre V V' row h hg hr => by
    obtain ⟨s, h1, h2, h3, h4, h5⟩ := h
    exact ⟨s, h1, h2, h3.turn hg (fun r e => (hr r e).2), h4.turn hg (fun r e => (hr r e).2), h5.turn hg (fun r e => (hr r e).2)⟩) (ownFrom_below hB hB2)
theorem results_cell3 {fn : Func} {p q r : Tmp} {tp tq tr : TypeId} (h : fn.results = #[.cell p tp, .cell q tq, .cell r tr]) (tmps : Array Value) (P : Program) (w : World) :
    (results fn tmps).run P w = ((asAddr (tmps.getD p undef)).run P w).andThen fun a w₁ => ((loadVar tp a).run P w₁).andThen fun v w₂ => ((asAddr (tmps.getD q undef)).run P w₂).andThen fun a' w₃ => ((loadVar tq a').run P w₃).andThen fun v' w₄ => ((asAddr (tmps.getD r undef)).run P w₄).andThen fun a'' w₅ => ((loadVar tr a'').run P w₅).andThen fun v'' w₆ => .ok (.tuple #[v, v', v'']) w₆ := by
  simp only [results, h]
  simp [Sem.run_bind, Result.andThen]
/-- What ReadProg answers, in memory. -/
def PrgAt (B : Nat) (w : World) (v : Value) (r : PR) : Prop :=
  ∃ iv tv tvs, v = .tuple #[.agg #[iv, tv], .int .i64 r.code, .int .i64 r.line] ∧ OwnNums B w iv r.ini ∧ w.ownsRow B 39 1 tv tvs.length tvs ∧ Fam B w tvs r.thr
/-- The boxes of ReadProg as it makes them. -/
def boxW (w : World) : World := ((((w.alloc (.cells #[.slice none 0 0, .slice none 0 0] 30)).alloc (.cells #[.int .i64 0] 3)).alloc (.cells #[.int .i64 0] 3)).alloc (.cells #[.slice none 0 0, .slice none 0 0, .int .i64 0, .slice none 0 0] 82)).alloc (.cells #[.pointer (some ⟨w.heap.size + 3, 0, none⟩)] 79)
theorem boxW_size (w : World) : (boxW w).heap.size = w.heap.size + 5 := by simp [boxW]
theorem boxW_below (w : World) : Below w.heap.size w (boxW w) := (((((Below.refl _ w).alloc (Nat.le_refl _) _).alloc (by simp) _).alloc (by simp; omega) _).alloc (by simp; omega) _).alloc (by simp; omega) _
theorem last_at {w : World} {o : Obj} {k : Nat} (h : k = w.heap.size) : (w.alloc o).heap[k]? = some o := by subst h; exact heap_alloc_last w o
theorem boxW_box (w : World) : Box w.heap.size (boxW w) ∧ Blk (boxW w) (w.heap.size + 3) 82 #[.slice none 0 0, .slice none 0 0, .int .i64 0, .slice none 0 0] := by
  refine ⟨⟨?_, ?_, ?_, ?_⟩, ?_⟩ <;> unfold Blk boxW
  · repeat rw [Below.heap_alloc _ _ _ (by first | (simp; done) | (simp; omega))]
    exact last_at rfl
  · repeat rw [Below.heap_alloc _ _ _ (by first | (simp; done) | (simp; omega))]
    exact last_at (by simp)
  · repeat rw [Below.heap_alloc _ _ _ (by first | (simp; done) | (simp; omega))]
    exact last_at (by simp)
  · exact last_at (by simp)
  · rw [Below.heap_alloc _ _ _ (by first | (simp; done) | (simp; omega))]
    exact last_at (by simp)
theorem start_all (t : ByteArray) (w : World) : (splitW t (boxW w)).heap.size = w.heap.size + 8 ∧ SplitAt (w.heap.size + 5) (splitW t (boxW w)) t ∧ BetweenL w.heap.size w [] (splitW t (boxW w)) := by
  have hs := boxW_size w
  have hz : (splitW t (boxW w)).heap.size = w.heap.size + 8 := by simp [splitW, hs]
  have hb := splitW_below t (boxW w)
  obtain ⟨h1, h2⟩ := boxW_box w
  refine ⟨hz, by rw [← hs]; exact splitW_at t (boxW w), ⟨⟨.slice none 0 0, .slice none 0 0, .slice none 0 0, [], rd0, ⟨Blk.below h2 hb, World.ownsRow_nil _ _ _ _, World.ownsRow_nil _ _ _ _, ⟨rfl, (fun i v l h => by cases h), (fun i j u v _ h => by cases h)⟩, World.ownsRow_nil _ _ _ _, trivial, by rw [hz]; exact Nat.le_refl _⟩, ⟨by simp [rd0], by simp [rd0], by simp [rd0], by simp [rd0]⟩, (fun j hj => by cases hj), rfl⟩, ⟨Blk.below h1.prg hb, Blk.below h1.cod hb, Blk.below h1.lin hb, Blk.below h1.ptr hb⟩⟩, (boxW_below w).trans (hb.mono (by omega))⟩
theorem runR_ln (s : Rd) (ls : List ByteArray) : (runR s ls).1 = 0 → (runR s ls).2.ln = s.ln + ls.length := by
  induction ls generalizing s with
  | nil => intro _; simp [runR]
  | cons a t ih =>
    intro h
    simp only [runR] at h ⊢
    split at h
    · rename_i h1
      rw [if_pos h1, ih _ h, read_ln _ _ h1]
      simp only [List.length_cons]
      omega
    · rename_i h1
      exact absurd h h1
theorem Fam.turn {B : Nat} {W W' : World} {vs : List Value} {ls : List (List Ins)} {row : Option Nat} (h : Fam B W vs ls) (hg : W.grownBy W' row) (hr : ∀ r, row = some r → ∃ o : Obj, W.heap[r]? = some o ∧ o.isCells = false) : Fam B W' vs ls :=
  ⟨h.len, fun i v l h1 h2 => row_turn (h.own i v l h1 h2) hg hr, h.dis⟩
theorem row_mono {w : World} {base base' : Nat} {e : TypeId} {size : Nat} {v : Value} {n : Nat} {xs : List Value} (h : w.ownsRow base e size v n xs) (hb : base' ≤ base) : w.ownsRow base' e size v n xs :=
  ⟨h.1, h.2.imp id fun ⟨g, cap, cur, h1, h2, h3⟩ => ⟨g, cap, cur, h1, Nat.le_trans hb h2, h3⟩⟩
theorem Fam.mono {B B' : Nat} {W : World} {vs : List Value} {ls : List (List Ins)} (h : Fam B W vs ls) (hB : B' ≤ B) : Fam B' W vs ls :=
  ⟨h.len, fun i v l h1 h2 => row_mono (h.own i v l h1 h2) hB, h.dis⟩
theorem PrgAt.turn {B : Nat} {W W' : World} {v : Value} {r : PR} {row : Option Nat} (h : PrgAt B W v r) (hg : W.grownBy W' row) (hr : ∀ r, row = some r → ∃ o : Obj, W.heap[r]? = some o ∧ o.isCells = false) : PrgAt B W' v r := by
  obtain ⟨iv, tv, tvs, e, h1, h2, h3⟩ := h
  exact ⟨iv, tv, tvs, e, row_turn h1 hg hr, row_turn h2 hg hr, h3.turn hg hr⟩
theorem prg_none (B : Nat) (w : World) (c l : Int) : PrgAt B w (.tuple #[.agg #[.slice none 0 0, .slice none 0 0], .int .i64 c, .int .i64 l]) ⟨[], [], c, l⟩ :=
  ⟨_, _, [], rfl, World.ownsRow_nil _ _ _ _, World.ownsRow_nil _ _ _ _, ⟨rfl, (fun i v l h => by cases h), (fun i j u v _ h => by cases h)⟩⟩
/-- A way out of ReadProg, over the mark of its loop. -/
theorem leave_prg {n h0 D : Nat} {tmps : Array Value} {w W : World} {iv tv : Value} {c l : Int} {R0 : PR} (hD : W.heap[D]? = some (.deferred (some []))) (hlt : h0 + 4 < D)
    (p0 : tmps.getD 2 undef = .pointer (some ⟨h0, 0, none⟩)) (p1 : tmps.getD 3 undef = .pointer (some ⟨h0 + 1, 0, none⟩)) (p2 : tmps.getD 4 undef = .pointer (some ⟨h0 + 2, 0, none⟩))
    (k0 : Blk W h0 30 #[iv, tv]) (k1 : Blk W (h0 + 1) 3 #[.int .i64 c]) (k2 : Blk W (h0 + 2) 3 #[.int .i64 l])
    (hp : PrgAt h0 W (.tuple #[.agg #[iv, tv], .int .i64 c, .int .i64 l]) R0) (hb : Below h0 w W) :
    LeavesInM Fence.wide n Tryz.prog Tryz.f32 tmps (fun e w' => (∃ v, e = .returned v ∧ PrgAt h0 w' v R0) ∧ Below h0 w w') [{ target := .collected D, args := #[] }] .returning W := by
  have hg := grownBy_putObj' W D (.deferred none)
  have hr : ∀ r, some D = some r → ∃ o : Obj, W.heap[r]? = some o ∧ o.isCells = false := fun r e => by cases e; exact ⟨_, hD, rfl⟩
  refine ⟨by simp, .inl ⟨D, _, rfl, run_takeDeferred hD, ?_⟩⟩
  have q0 : Blk (W.putObj D (.deferred none)) h0 30 #[iv, tv] := k0.turn hg hr
  have q1 : Blk (W.putObj D (.deferred none)) (h0 + 1) 3 #[.int .i64 c] := k1.turn hg hr
  have q2 : Blk (W.putObj D (.deferred none)) (h0 + 2) 3 #[.int .i64 l] := k2.turn hg hr
  have l0 := run_loadVar_row (P := Tryz.prog) _ h0 30 30 #[iv, tv] (0, 0) _ q0 Tryz.underlying30 rfl (by kernel_rfl)
  have l1 : (loadVar 3 ⟨h0 + 1, 0, none⟩).run Tryz.prog (W.putObj D (.deferred none)) = .ok (.int .i64 c) (W.putObj D (.deferred none)) := by
    have := q1.cell 0
    simp at this
    simp [loadVar, go_sem, this]
  have l2 : (loadVar 3 ⟨h0 + 2, 0, none⟩).run Tryz.prog (W.putObj D (.deferred none)) = .ok (.int .i64 l) (W.putObj D (.deferred none)) := by
    have := q2.cell 0
    simp at this
    simp [loadVar, go_sem, this]
  refine ⟨.tuple #[.agg #[iv, tv], .int .i64 c, .int .i64 l], ?_, ⟨_, rfl, hp.turn hg hr⟩, ?_⟩
  · rw [results_cell3 rfl, p0, p1, p2]
    simp only [asAddr, Sem.run_pure, Result.andThen_ok, l0, l1, l2]
  · refine ⟨hb.os, hb.tape, hb.output, by simpa using hb.size, fun k hk => ?_⟩
    exact (World.putObj_heap_other (by omega)).trans (hb.block k hk)
theorem keeps_drew {A B : World} (h : KeepsOthers A B) : KeepsOthers A B.drew := ⟨h.size, h.same⟩
/-- A line has a fault: what is left. -/
theorem fault_end {h0 : Nat} {w W V : World} {pre : List Ln} {x : Ln} {rc : Int} {s rs : Rd} {Kp : World → World → Prop} {I : List Ln → World → Prop} {a : Act} (hk : KeepsOthers W V) (hbx : Box h0 V) (hbl : Below h0 w V) (hrc : ¬ rc = 0)
    (hsn : runR rd0 (pre.map (fun x => x.val) ++ [x.val]) = if rc = 0 then (0, rs) else (rc, { s with ln := s.ln + 1 })) :
    ownPostK Kp I (fun c pre V => c = Code.ret ∧ FaultL h0 w pre V) (pre ++ [x]) W Exit.ret a (((((V.setCell ⟨h0, 0, none⟩ (.slice none 0 0)).setCell ⟨h0, 1, none⟩ (.slice none 0 0)).setCell ⟨h0 + 1, 0, none⟩ (.int .i64 rc)).setCell ⟨h0 + 2, 0, none⟩ (.int .i64 (s.ln + 1))).drew) := by
  rw [if_neg hrc] at hsn
  refine ⟨?_, rfl, ⟨{ s with ln := s.ln + 1 }, ?_, ?_, ?_, ?_, ?_⟩, ?_⟩
  · exact keeps_drew ((((hk.trans (KeepsOthers.setCell _ _ _)).trans (KeepsOthers.setCell _ _ _)).trans (KeepsOthers.setCell _ _ _)).trans (KeepsOthers.setCell _ _ _))
  · rw [List.map_append, List.map_singleton, hsn]; exact hrc
  · rw [List.map_append, List.map_singleton, hsn]
  · have h1 := ((((hbx.prg.set 0 (.slice none 0 0)).set 1 (.slice none 0 0)).other (i := 0) (show h0 ≠ h0 + 1 by omega) (.int .i64 rc)).other (i := 0) (show h0 ≠ h0 + 2 by omega) (.int .i64 (s.ln + 1)))
    exact h1
  · rw [List.map_append, List.map_singleton, hsn]
    have h1 := (((((hbx.cod.other (i := 0) (show h0 + 1 ≠ h0 by omega) (.slice none 0 0)).other (i := 1) (show h0 + 1 ≠ h0 by omega) (.slice none 0 0)).set 0 (.int .i64 rc))).other (i := 0) (show h0 + 1 ≠ h0 + 2 by omega) (.int .i64 (s.ln + 1)))
    exact h1
  · have h1 := (((hbx.lin.other (i := 0) (show h0 + 2 ≠ h0 by omega) (.slice none 0 0)).other (i := 1) (show h0 + 2 ≠ h0 by omega) (.slice none 0 0)).other (i := 0) (show h0 + 2 ≠ h0 + 1 by omega) (.int .i64 rc)).set 0 (.int .i64 (s.ln + 1))
    exact h1
  · exact ((((hbl.setCell (p := ⟨h0, 0, none⟩) (Nat.le_refl _) _).setCell (p := ⟨h0, 1, none⟩) (Nat.le_refl _) _).setCell (p := ⟨h0 + 1, 0, none⟩) (Nat.le_succ _) _).setCell (p := ⟨h0 + 2, 0, none⟩) (by show h0 ≤ h0 + 2; omega) _).drew
end Go.Proofs.YthopmdfichfhdaaGreatDoor
