/-
  The program's run of a saga as it lies in memory; what its find answers. No statement of the seat is proved here.
-/
import Derived.Test.YtbpijollcjdkhaaDoorK11
import Derived.Test.YtbpijollcjdkhaaDoorI3
namespace Go.Proofs.YtbpijollcjdkhaaDoor
open Go.ChangeShapes Go.WideShapes Go.ChangeAt Go.RowKit
set_option linter.unusedVariables false
set_option linter.unusedSimpArgs false

/-- Cells that are steps' states and tries, in turn. -/
def PartsAt (cs : Array Value) (is tr : List Int) : Prop := cs.size = is.length * 2 ∧ tr.length = is.length ∧ (∀ i (h : i < is.length), cs[i * 2]? = some (.int .i64 is[i])) ∧ ∀ i (h : i < tr.length), cs[i * 2 + 1]? = some (.int .i64 tr[i])
theorem PartsAt.setIs {cs : Array Value} {is tr : List Int} (h : PartsAt cs is tr) (i : Nat) (x : Int) (hi : i < is.length) : PartsAt (cs.setIfInBounds (i * 2) (.int .i64 x)) (is.set i x) tr := by
  obtain ⟨h1, h2, h3, h4⟩ := h
  refine ⟨by simp [h1], by simp [h2], fun j hj => ?_, fun j hj => ?_⟩
  · have hj' : j < is.length := by simpa using hj
    rw [Array.getElem?_setIfInBounds, List.getElem_set]
    by_cases e : i = j
    · subst e; rw [if_pos rfl, if_pos (by omega), if_pos rfl]
    · rw [if_neg (by omega), if_neg e]; exact h3 j hj'
  · rw [Array.getElem?_setIfInBounds, if_neg (by omega)]; exact h4 j hj
theorem PartsAt.setTr {cs : Array Value} {is tr : List Int} (h : PartsAt cs is tr) (i : Nat) (x : Int) (hi : i < is.length) : PartsAt (cs.setIfInBounds (i * 2 + 1) (.int .i64 x)) is (tr.set i x) := by
  obtain ⟨h1, h2, h3, h4⟩ := h
  refine ⟨by simp [h1], by simp [h2], fun j hj => ?_, fun j hj => ?_⟩
  · rw [Array.getElem?_setIfInBounds, if_neg (by omega)]; exact h3 j hj
  · have hj' : j < tr.length := by simpa using hj
    rw [Array.getElem?_setIfInBounds, List.getElem_set]
    by_cases e : i = j
    · subst e; rw [if_pos rfl, if_pos (by omega), if_pos rfl]
    · rw [if_neg (by omega), if_neg e]; exact h4 j hj'
/-- The program's run. -/
structure RunI (S : Nat → Prop) (B : Nat) (l : List Step) (a : Option Addr) (cap g gp : Nat) (rv : Value) (reps : List Int) (dv cv : Value) (w0 w : World) (s : Sg) : Prop where
  saga : SagaIn S B w a cap l
  blk : Blk w g 64 #[.slice a l.length cap, .int .i64 s.st, .slice (some ⟨gp, 0, none⟩) l.length l.length, dv, cv]
  parts : ∃ cs, Blk w gp 88 cs ∧ PartsAt cs s.is s.tr
  done : OwnNums B w dv (nums s.done)
  cmds : OwnCmds B w cv s.cmds
  rps : OwnNums B w rv reps
  dr : dv.ownBlock = none ∨ dv.ownBlock ≠ rv.ownBlock
  low : B ≤ g ∧ B ≤ gp
  rng : ∀ i, 0 ≤ isAt s i ∧ isAt s i ≤ 4
  ok : Ok l s
  base : B ≤ w0.heap.size
  bel : Below B w0 w
section
variable {S : Nat → Prop} {B : Nat} {l : List Step} {a : Option Addr} {cap g gp : Nat} {rv : Value} {reps : List Int} {dv cv : Value} {w0 w : World} {s : Sg}
theorem RunI.size (h : RunI S B l a cap g gp rv reps dv cv w0 w s) : B ≤ w.heap.size := Nat.le_trans h.base h.bel.size
theorem RunI.gp_ne (h : RunI S B l a cap g gp rv reps dv cv w0 w s) : gp ≠ g := by
  obtain ⟨cs, hb, _⟩ := h.parts
  exact Blk.apart hb h.blk (by decide)
theorem RunI.go (h : RunI S B l a cap g gp rv reps dv cv w0 w s) {w' : World} (hb : Below w.heap.size w w') : RunI S B l a cap g gp rv reps dv cv w0 w' s := by
  obtain ⟨cs, h1, h2⟩ := h.parts
  exact ⟨h.saga.below (hb.mono h.size) h.size, Blk.below h.blk hb, ⟨cs, Blk.below h1 hb, h2⟩, h.done.below hb, h.cmds.below hb, h.rps.below hb, h.dr, h.low, h.rng, h.ok, h.base, h.bel.trans (hb.mono h.size)⟩
theorem RunI.drewN (h : RunI S B l a cap g gp rv reps dv cv w0 w s) (n : Nat) : RunI S B l a cap g gp rv reps dv cv w0 (w.drewN n) s := h.go (bel_drewN (Below.refl _ _) n)
theorem rng_set (h : ∀ i, 0 ≤ isAt s i ∧ isAt s i ≤ 4) {i : Nat} (hi : i < s.is.length) {x : Int} (h0 : 0 ≤ x) (h4 : x ≤ 4) : ∀ j, 0 ≤ isAt (setIs s i x) j ∧ isAt (setIs s i x) j ≤ 4 := fun j => by
  rw [isAt_set hi]
  split
  · exact ⟨h0, h4⟩
  · exact h j
theorem RunI.putSt (h : RunI S B l a cap g gp rv reps dv cv w0 w s) (x : Int) : RunI S B l a cap g gp rv reps dv cv w0 (w.setCell ⟨g, 1, none⟩ (.int .i64 x)) (setSt s x) := by
  obtain ⟨cs, h1, h2⟩ := h.parts
  have hb := (Below.refl B w).setCell (p := ⟨g, 1, none⟩) h.low.1 (.int .i64 x)
  exact ⟨h.saga.below hb h.size, h.blk.set 1 _, ⟨cs, h1.other h.gp_ne 1 _, h2⟩, h.done.set (h.done.off h.blk (by decide)) _, h.cmds.set (h.cmds.off h.blk (by decide)) _, h.rps.set (h.rps.off h.blk (by decide)) _, h.dr, h.low, h.rng, h.ok.setSt x, h.base, h.bel.trans hb⟩
theorem RunI.putIs (h : RunI S B l a cap g gp rv reps dv cv w0 w s) (i : Nat) (hi : i < l.length) (x : Int) (h0 : 0 ≤ x) (h4 : x ≤ 4) (hok : Ok l (setIs s i x)) : RunI S B l a cap g gp rv reps dv cv w0 (w.setCell ⟨gp, i * 2, none⟩ (.int .i64 x)) (setIs s i x) := by
  obtain ⟨cs, h1, h2⟩ := h.parts
  have hb := (Below.refl B w).setCell (p := ⟨gp, i * 2, none⟩) h.low.2 (.int .i64 x)
  have hi' : i < s.is.length := by rw [h.ok.il]; exact hi
  exact ⟨h.saga.below hb h.size, h.blk.other (Ne.symm h.gp_ne) _ _, ⟨_, h1.set _ _, h2.setIs i x hi'⟩, h.done.set (h.done.off h1 (by decide)) _, h.cmds.set (h.cmds.off h1 (by decide)) _, h.rps.set (h.rps.off h1 (by decide)) _, h.dr, h.low, rng_set h.rng hi' h0 h4, hok, h.base, h.bel.trans hb⟩
theorem RunI.putTr (h : RunI S B l a cap g gp rv reps dv cv w0 w s) (i : Nat) (hi : i < l.length) (x : Int) (hok : Ok l (setTr s i x)) : RunI S B l a cap g gp rv reps dv cv w0 (w.setCell ⟨gp, i * 2 + 1, none⟩ (.int .i64 x)) (setTr s i x) := by
  obtain ⟨cs, h1, h2⟩ := h.parts
  have hb := (Below.refl B w).setCell (p := ⟨gp, i * 2 + 1, none⟩) h.low.2 (.int .i64 x)
  have hi' : i < s.is.length := by rw [h.ok.il]; exact hi
  exact ⟨h.saga.below hb h.size, h.blk.other (Ne.symm h.gp_ne) _ _, ⟨_, h1.set _ _, h2.setTr i x hi'⟩, h.done.set (h.done.off h1 (by decide)) _, h.cmds.set (h.cmds.off h1 (by decide)) _, h.rps.set (h.rps.off h1 (by decide)) _, h.dr, h.low, h.rng, hok, h.base, h.bel.trans hb⟩
/-- The commands grow. -/
theorem RunI.growC (h : RunI S B l a cap g gp rv reps dv cv w0 w s) {w' : World} {cv' : Value} {c : List Cmd} (hown : OwnCmds B w' cv' c) (hB : Below B w w') (hgr : w.grownBy w' cv.ownBlock) :
    Blk w' g 64 #[.slice a l.length cap, .int .i64 s.st, .slice (some ⟨gp, 0, none⟩) l.length l.length, dv, cv] ∧ RunI S B l a cap g gp rv reps dv cv' w0 (w'.setCell ⟨g, 4, none⟩ cv') { s with cmds := c } := by
  obtain ⟨cs, h1, h2⟩ := h.parts
  have hbk := h.blk.kept hgr (Ne.symm (h.cmds.off h.blk (by decide)))
  have h1' := h1.kept hgr (Ne.symm (h.cmds.off h1 (by decide)))
  have hd' : OwnNums B w' dv (nums s.done) := h.done.kept hgr (h.done.apartC h.cmds)
  have hr' : OwnNums B w' rv reps := h.rps.kept hgr (h.rps.apartC h.cmds)
  have hb : Below B w (w'.setCell ⟨g, 4, none⟩ cv') := hB.setCell h.low.1 cv'
  exact ⟨hbk, h.saga.below hb h.size, hbk.set 4 _, ⟨cs, h1'.other h.gp_ne 4 _, h2⟩, hd'.set (hd'.off hbk (by decide)) _, hown.set (hown.off hbk (by decide)) _, hr'.set (hr'.off hbk (by decide)) _, h.dr, h.low, h.rng, ⟨h.ok.il, h.ok.tl, h.ok.dn, h.ok.dk, h.ok.tb⟩, h.base, h.bel.trans hb⟩
/-- The done ones are a row that grew, or one's beginning. -/
theorem RunI.growD (h : RunI S B l a cap g gp rv reps dv cv w0 w s) {w' : World} {dv' : Value} {d : List Nat} (hown : OwnNums B w' dv' (nums d)) (hB : Below B w w') (hgr : w.grownBy w' dv.ownBlock) (hat : dv'.ownBlock = dv.ownBlock ∨ dv'.ownBlock = some w.heap.size) (hok : Ok l { s with done := d }) :
    Blk w' g 64 #[.slice a l.length cap, .int .i64 s.st, .slice (some ⟨gp, 0, none⟩) l.length l.length, dv, cv] ∧ RunI S B l a cap g gp rv reps dv' cv w0 (w'.setCell ⟨g, 3, none⟩ dv') { s with done := d } := by
  obtain ⟨cs, h1, h2⟩ := h.parts
  have hbk := h.blk.kept hgr (Ne.symm (h.done.off h.blk (by decide)))
  have h1' := h1.kept hgr (Ne.symm (h.done.off h1 (by decide)))
  have hc' : OwnCmds B w' cv s.cmds := h.cmds.kept hgr (rowApart h.cmds h.done (by decide))
  have hr' : OwnNums B w' rv reps := h.rps.kept hgr (by
    rcases h.dr with e | e
    · rw [e]
      cases rv.ownBlock with
      | none => exact .inl rfl
      | some x => right; simp
    · exact .inr (Ne.symm e))
  have hdr : dv'.ownBlock = none ∨ dv'.ownBlock ≠ rv.ownBlock := by
    rcases hat with e | e
    · rw [e]; exact h.dr
    · rw [e]
      refine .inr fun e => ?_
      have := h.rps.low e.symm
      omega
  have hb : Below B w (w'.setCell ⟨g, 3, none⟩ dv') := hB.setCell h.low.1 dv'
  exact ⟨hbk, h.saga.below hb h.size, hbk.set 3 _, ⟨cs, h1'.other h.gp_ne 3 _, h2⟩, hown.set (hown.off hbk (by decide)) _, hc'.set (hc'.off hbk (by decide)) _, hr'.set (hr'.off hbk (by decide)) _, hdr, h.low, h.rng, hok, h.base, h.bel.trans hb⟩
/-- The answers grow. -/
theorem RunI.growR (h : RunI S B l a cap g gp rv reps dv cv w0 w s) {w' : World} {rv' : Value} {r : List Int} (hown : OwnNums B w' rv' r) (hB : Below B w w') (hgr : w.grownBy w' rv.ownBlock) (hat : rv'.ownBlock = rv.ownBlock ∨ rv'.ownBlock = some w.heap.size) : RunI S B l a cap g gp rv' r dv cv w0 w' s := by
  obtain ⟨cs, h1, h2⟩ := h.parts
  have hbk := h.blk.kept hgr (Ne.symm (h.rps.off h.blk (by decide)))
  have h1' := h1.kept hgr (Ne.symm (h.rps.off h1 (by decide)))
  have hd' : OwnNums B w' dv (nums s.done) := h.done.kept hgr h.dr
  have hc' : OwnCmds B w' cv s.cmds := h.cmds.kept hgr (rowApart h.cmds h.rps (by decide))
  have hdr : dv.ownBlock = none ∨ dv.ownBlock ≠ rv'.ownBlock := by
    rcases hat with e | e
    · rw [e]; exact h.dr
    · rw [e]
      refine .inr fun e => ?_
      have := h.done.low e
      omega
  exact ⟨h.saga.below hB h.size, hbk, ⟨cs, h1', h2⟩, hd', hc', hown, hdr, h.low, h.rng, h.ok, h.base, h.bel.trans hB⟩
theorem RunI.isCell (h : RunI S B l a cap g gp rv reps dv cv w0 w s) (i : Nat) (hi : i < l.length) : w.cell? ⟨gp, i * 2, none⟩ = some (.int .i64 (isAt s i)) ∧ w.frozen? ⟨gp, i * 2, none⟩ = false := by
  obtain ⟨cs, h1, h2⟩ := h.parts
  have hi' : i < s.is.length := by rw [h.ok.il]; exact hi
  exact ⟨by rw [h1.cell, h2.2.2.1 i hi', isAt_eq hi'], h1.fro _⟩
theorem RunI.trCell (h : RunI S B l a cap g gp rv reps dv cv w0 w s) (i : Nat) (hi : i < l.length) : w.cell? ⟨gp, i * 2 + 1, none⟩ = some (.int .i64 (trAt s i)) ∧ w.frozen? ⟨gp, i * 2 + 1, none⟩ = false := by
  obtain ⟨cs, h1, h2⟩ := h.parts
  have hi' : i < s.tr.length := by rw [h.ok.tl]; exact hi
  exact ⟨by rw [h1.cell, h2.2.2.2 i hi', trAt_eq hi'], h1.fro _⟩
theorem RunI.stepCell (h : RunI S B l a cap g gp rv reps dv cv w0 w s) : ∃ b off, a = some ⟨b, off, none⟩ ∧ b < B ∧ ∀ i (hi : i < l.length), w.cell? ⟨b, off + i * 4, none⟩ = some (.string (stepOf l i).name) ∧ w.cell? ⟨b, off + i * 4 + 2, none⟩ = some (.bool (stepOf l i).undo) ∧ w.cell? ⟨b, off + i * 4 + 3, none⟩ = some (.int .i64 (stepOf l i).tries) ∧ ∃ nv, w.cell? ⟨b, off + i * 4 + 1, none⟩ = some nv ∧ TxtsAt S w nv (stepOf l i).needs := by
  obtain ⟨_, a', cap', hv, hc⟩ := h.saga.at'
  simp only [Value.slice.injEq] at hv
  obtain ⟨rfl, -, rfl⟩ := hv
  obtain ⟨b, off, rfl, hS, hcell⟩ := hc (by have := h.saga.len; omega)
  exact ⟨b, off, rfl, h.saga.low b hS, fun i hi => by rw [stepOf_eq hi]; exact hcell i hi⟩
set_option maxRecDepth 100000 in
theorem implNamed (x0 : ByteArray) (na : Option Addr) (nn nc : Nat) (x2 : Bool) (x3 : Int) (t : ByteArray) (gx : Nat) (w : World) (hg : w.cell? ⟨gx, 0, none⟩ = some (.string t)) (hgl : gx < w.heap.size) :
    Calls Tryd.prog 68 #[.agg #[.string x0, .slice na nn nc, .bool x2, .int .i64 x3], .pointer (some ⟨gx, 0, none⟩)] w fun e w' => e = .returned (.bool (x0.toList == t.toList)) ∧ Below w.heap.size w w' := by
  have hb := (Below.refl _ w).alloc (Nat.le_refl _) (.cells #[.string x0, .slice na nn nc, .bool x2, .int .i64 x3] 56)
  have q1 := (hb.cell (p := ⟨gx, 0, none⟩) hgl).trans hg
  have n1 : gx ≠ w.heap.size := by omega
  have HB : Hid _ := hb
  clear hb
  go_enter Tryd.func68, Tryd.ntmps68
  go_wp2_with fail
  go_ret
  exact ⟨rfl, HB.out⟩
set_option maxRecDepth 100000 in
set_option maxHeartbeats 2000000 in
theorem implIndexSt (h : RunI S B l a cap g gp rv reps dv cv w0 w s) (t : ByteArray) (gx : Nat) (hg : w.cell? ⟨gx, 0, none⟩ = some (.string t)) (hgl : gx < w.heap.size) :
    Calls Tryd.prog 67 #[.slice a l.length cap, .func (.func 68) #[] #[.pointer (some ⟨gx, 0, none⟩)]] w fun e w' => e = .returned (.int .i64 (findI (names l) t)) ∧ Below w.heap.size w w' := by
  have HR : Hid (RunI S B l a cap g gp rv reps dv cv w0 w s) := h
  have HG : Hid (w.cell? ⟨gx, 0, none⟩ = some (.string t)) := hg
  have hl : l.length ≤ 20 := h.saga.len.2
  have hl' : (l.length : Int) ≤ 20 := by omega
  obtain ⟨F, hF⟩ : ∃ F, findI (names l) t = F := ⟨_, rfl⟩
  rw [hF]
  have HF : Hid (findI (names l) t = F) := hF
  clear h hg hF
  go_enter Tryd.func67, Tryd.ntmps67
  go_wp2_with fail
  go_loopw [8] (fun i8 wr => ∃ (k : Nat), i8 = .int .i64 (k : Int) ∧ k ≤ l.length ∧ (∀ i (hi : i < (names l).length), i < k → ((names l)[i].toList == t.toList) = false) ∧ Below w.heap.size w wr) (fun i8 _ => l.length - (intOf i8).toNat)
  case atStart => exact ⟨0, rfl, by omega, fun i hi h0 => absurd h0 (Nat.not_lt_zero i), Below.refl _ _⟩
  case round =>
    obtain ⟨k, rfl, hk, hall, hb⟩ := hrel
    have HA : Hid (∀ i (hi : i < (names l).length), i < k → ((names l)[i].toList == t.toList) = false) := hall
    clear hall
    by_cases hkn : k < l.length
    · have hkn' : (k : Int) < (l.length : Int) := by omega
      have hR := HR.out.go hb
      obtain ⟨b, off, rfl, hbB, hst⟩ := hR.stepCell
      obtain ⟨e0, e2, e3, nv, e1, hnv⟩ := hst k hkn
      obtain ⟨za, zc, hzv⟩ := hnv.shape
      subst hzv
      have hnm : (names l)[k]'(by rw [names_len]; exact hkn) = (stepOf l k).name := by rw [stepOf_eq hkn]; simp [names]
      obtain ⟨x, hx⟩ : ∃ x, stepOf l k = x := ⟨_, rfl⟩
      rw [hx] at e0 e1 e2 e3 hnm
      obtain ⟨x0, x1, x2, x3⟩ := x
      dsimp only at e0 e1 e2 e3 hnm
      have HNM : Hid ((names l)[k]'(by rw [names_len]; exact hkn) = x0) := hnm
      have cn := implNamed x0 za x1.length zc x2 x3 t gx wr ((hb.cell (p := ⟨gx, 0, none⟩) hgl).trans HG.out) (Nat.lt_of_lt_of_le hgl hb.size)
      have HBW : Hid (Below w.heap.size w wr) := hb
      clear hR hst hnv hnm hx hb
      cases he : (x0.toList == t.toList)
      · rw [he] at cn
        go_wp2_with (go_at_call 68; go_must (refine cn.mono ?_; rintro e w1 ⟨rfl, hb1⟩))
        refine ⟨⟨k + 1, rfl, by omega, fun i hi h0 => ?_, good_below HBW.out hb1⟩, by simp [intOf]; omega⟩
        by_cases e : i = k
        · subst e; rw [HNM.out]; exact he
        · exact HA.out i hi (by omega)
      · rw [he] at cn
        have hFk : F = (k : Int) := by rw [← HF.out]; exact findI_at (by rw [names_len]; exact hkn) HA.out (by rw [HNM.out]; exact he)
        subst hFk
        go_wp2_with (go_at_call 68; go_must (refine cn.mono ?_; rintro e w1 ⟨rfl, hb1⟩))
        go_ret
        exact ⟨rfl, good_below HBW.out hb1⟩
    · have hkn' : ¬ ((k : Int) < (l.length : Int)) := by omega
      have hFk : F = -1 := by rw [← HF.out]; exact findI_none (fun i hi => HA.out i hi (by rw [names_len] at hi; omega))
      subst hFk
      go_wp2_with fail
      go_ret
      exact ⟨rfl, hb⟩
set_option maxRecDepth 100000 in
theorem implFind (h : RunI S B l a cap g gp rv reps dv cv w0 w s) (t : ByteArray) :
    Calls Tryd.prog 52 #[.pointer (some ⟨g, 0, none⟩), .string t] w fun e w' => e = .returned (.int .i64 (findI (names l) t)) ∧ Below w.heap.size w w' := by
  have hb : Below w.heap.size w (w.alloc (.cells #[.string t] 9)) := (Below.refl _ w).alloc (Nat.le_refl _) _
  have kb : Blk (w.alloc (.cells #[.string t] 9)) w.heap.size 9 #[.string t] := heap_alloc_last w _
  have h1 := h.go hb
  have ci := implIndexSt h1 t w.heap.size (kb.cell 0) kb.lt
  have c0 := h1.blk.cell 0
  simp at c0
  have HB : Hid _ := hb
  clear h h1 kb hb
  go_enter Tryd.func52, Tryd.ntmps52
  go_wp2_with (go_at_call 67; go_must (refine ci.mono ?_; rintro e w1 ⟨rfl, hb1⟩))
  go_ret
  exact ⟨rfl, good_below HB.out hb1⟩
end
end Go.Proofs.YtbpijollcjdkhaaDoor
