/-
  The contracts of strings.Clone and of impl's scanner's add. No statement of the seat is proved here.
-/
import Derived.Test.YtbfoijeboaebdaaDoorPass
import Derived.Test.YtbfoijeboaebdaaDoorScan2
import Derived.Deep.RegionHeld3
import Derived.Deep.Cut
import Derived.Deep.CutRange
namespace Go.Proofs.YtbfoijeboaebdaaDoor
open Go.ChangeShapes Go.WideShapes Go.ChangeAt Go.RowKit
set_option linter.unusedVariables false

theorem implClone (t : ByteArray) (ht : t.size ≤ 65536) (w : World) : Calls Tryd.prog 76 #[.string t] w fun e w' => e = .returned (.string t) ∧ Below w.heap.size w w' := by
  have c := Tryd.stringslite_Clone t
  go_enter Tryd.func76, Tryd.ntmps76
  go_wp2_with (go_at_call 79; go_must (refine (c _ (by omega)).mono ?_; rintro e w1 ⟨rfl, hB1⟩))
  go_ret
  exact ⟨rfl, hB1⟩

theorem OwnT.lt_ne {B : Nat} {w : World} {v : Value} {l : List Tok} (h : OwnT B w v l) {b : Nat} (hb : w.heap.size ≤ b) : some b ≠ v.ownBlock := by
  rcases h.2 with ⟨rfl, _⟩ | ⟨k, cap, cur, rfl, hB, hg, _⟩
  · simp [Value.ownBlock]
  · simp only [Value.ownBlock]
    intro e
    injection e with e
    subst e
    have := (Array.getElem?_eq_some_iff.1 hg).1
    omega
theorem Blk.apart {w : World} {g g' : Nat} {ty ty' : TypeId} {cs cs' : Array Value} (h : Blk w g ty cs) (h' : Blk w g' ty' cs') (hne : ty ≠ ty') : g ≠ g' := by
  intro e
  subst e
  unfold Blk at *
  rw [h] at h'
  injection h' with h'
  injection h' with _ h'
  exact hne h'
theorem Blk.grown {w w' : World} {g : Nat} {ty : TypeId} {cs : Array Value} (h : Blk w g ty cs) {o : Option Nat} (hgr : w.grownBy w' o) (hne : some g ≠ o) : Blk w' g ty cs := by
  unfold Blk at *
  rw [hgr.block g (Blk.lt h) hne]; exact h
theorem Im.put {B g : Nat} {s : ByteArray} {p ln cl : Nat} {l : List Tok} {v : Value} {w0 w : World} (h : Im B g s p ln cl l v w0 w) {v' : Value} {w' : World} {l' : List Tok} (hown : OwnT B w' v' l') (hB : Below B w w') (hgr : w.grownBy w' v.ownBlock) :
    Blk w' g 48 #[.string s, .int .i64 p, .int .i64 ln, .int .i64 cl, v] ∧ Im B g s p ln cl l' v' w0 (w'.setCell ⟨g, 4, none⟩ v') := by
  have hb := h.own.kept hgr h.blk (by decide)
  exact ⟨hb, hb.set 4 _, hown.set hb (by decide) _ _, h.ge, (h.below.trans hB).setCell h.ge _⟩

set_option maxRecDepth 100000 in
set_option maxHeartbeats 4000000 in
theorem implAdd {B g : Nat} {s : ByteArray} {p ln cl : Nat} {l : List Tok} {v : Value} {w0 w : World} (k e : Nat) (tx : ByteArray) (n : Nat) (hs : s.size ≤ 65536) (hp : p ≤ s.size) (hln : ln ≤ p + 1) (hcl : cl ≤ p + 1) (hl : l.length ≤ 20000) (htx : tx.size ≤ 65536) (hal : Al s p e) (h : Im B g s p ln cl l v w0 w) :
    Calls Tryd.prog 68 #[.pointer (some ⟨g, 0, none⟩), .int .i64 k, .string tx, .int .i64 n, .int .i64 e] w fun x w' => x = .returned (.tuple #[]) ∧ ∃ v', Im B g s e (lineTo s p e ln cl).1 (lineTo s p e ln cl).2 (l ++ [⟨k, tx, n, p, ln, cl⟩]) v' w0 w' := by
  have c1 := h.blk.cell 1
  have c2 := h.blk.cell 2
  have c3 := h.blk.cell 3
  simp at c1 c2 c3
  have cc := implClone tx htx
  have hn0 : w.heap.size ≠ g := Nat.ne_of_gt h.blk.lt
  have HI : Hid (Im B g s p ln cl l v w0 w) := h
  have HA : Hid (Al s p e) := hal
  clear h hal
  go_enter Tryd.func68, Tryd.ntmps68
  go_upto_region 0 with fail
  go_cut [10] from 11 (fun s10 wx => ∃ bt, s10 = .pointer (some ⟨bt, 0, none⟩) ∧ Im B g s p ln cl l v w0 wx ∧ Blk wx bt 31 #[.int .i64 (k : Int), .string tx, .int .i64 (n : Int), .int .i64 (p : Int), .int .i64 (ln : Int), .int .i64 (cl : Int)] ∧ some bt ≠ v.ownBlock)
  case first =>
    go_region_held3 (fun w' => w'.cell? ⟨g, 1, none⟩ = some (.int .i64 (p : Int)) ∧ w'.cell? ⟨g, 2, none⟩ = some (.int .i64 (ln : Int)) ∧ w'.cell? ⟨g, 3, none⟩ = some (.int .i64 (cl : Int))) (go_keep) (first | (go_at_call 76; refine (cc _).mono ?_; rintro e w1 ⟨rfl, hB1⟩; have h1 : Im B g s p ln cl l v w0 w1 := HI.out.drew.bel hB1; have n1 : w1.heap.size ≠ g := Nat.ne_of_gt h1.blk.lt; have e1 := h1.blk.cell 1; have e2 := h1.blk.cell 2; have e3 := h1.blk.cell 3; simp at e1 e2 e3) | (go_at_call 76; refine (cc _).mono ?_; rintro e w1 ⟨rfl, hB1⟩; have h1 : Im B g s p ln cl l v w0 w1 := ((HI.out.bel ((Below.refl _ _).alloc (Nat.le_refl _) _)).drew).bel hB1; have n1 : w1.heap.size ≠ g := Nat.ne_of_gt h1.blk.lt; have e1 := h1.blk.cell 1; have e2 := h1.blk.cell 2; have e3 := h1.blk.cell 3; have hb : Blk w1 w.heap.size 31 #[.int .i64 0, .string ⟨#[]⟩, .int .i64 0, .int .i64 0, .int .i64 0, .int .i64 0] := Blk.below (show Blk (w.alloc (.cells #[.int .i64 0, .string ⟨#[]⟩, .int .i64 0, .int .i64 0, .int .i64 0, .int .i64 0] 31)).drew _ _ _ from heap_alloc_last w _) hB1; have z0 := hb.cell 0; have y0 := hb.fro 0; have z1 := hb.cell 1; have y1 := hb.fro 1; have z2 := hb.cell 2; have y2 := hb.fro 2; have z3 := hb.cell 3; have y3 := hb.fro 3; have z4 := hb.cell 4; have y4 := hb.fro 4; have z5 := hb.cell 5; have y5 := hb.fro 5; simp at e1 e2 e3 z0 z1 z2 z3 z4 z5))
    · go_wp2_with fail
      go_meet
      exact ⟨w1.heap.size, rfl, h1.bel ((Below.refl _ _).alloc (Nat.le_refl _) _), heap_alloc_last w1 _, h1.own.lt_ne (Nat.le_refl _)⟩
    · go_wp2_with fail
      go_meet
      have hbw : Below w.heap.size w w1 := (((Below.refl _ w).alloc (Nat.le_refl _) _).drew).trans (hB1.mono (by simp))
      refine ⟨w.heap.size, rfl, HI.out.bel ((((((hbw.setCell (Nat.le_refl _) _).setCell (Nat.le_refl _) _).setCell (Nat.le_refl _) _).setCell (Nat.le_refl _) _).setCell (Nat.le_refl _) _).setCell (Nat.le_refl _) _), (((((hb.set 0 _).set 1 _).set 2 _).set 3 _).set 4 _).set 5 _, HI.out.own.lt_ne (Nat.le_refl _)⟩
  case rest =>
    obtain ⟨bt, rfl, h1, hb1, hnb⟩ := hcut
    have d4 := h1.blk.cell 4
    have x0 := hb1.cell 0
    have x1 := hb1.cell 1
    have x2 := hb1.cell 2
    have x3 := hb1.cell 3
    have x4 := hb1.cell 4
    have x5 := hb1.cell 5
    simp at d4 x0 x1 x2 x3 x4 x5
    have hbs : B ≤ wc.heap.size := by have := h1.below.size; have := h1.ge; have := h1.blk.lt; omega
    have HI1 : Hid (Im B g s p ln cl l v w0 wc) := h1
    have HB1 : Hid (Blk wc bt 31 #[.int .i64 (k : Int), .string tx, .int .i64 (n : Int), .int .i64 (p : Int), .int .i64 (ln : Int), .int .i64 (cl : Int)]) := hb1
    have HNB : Hid (some bt ≠ v.ownBlock) := hnb
    have n1 : wc.heap.size ≠ g := Nat.ne_of_gt h1.blk.lt
    have n2 : wc.heap.size ≠ bt := Nat.ne_of_gt hb1.lt
    have hgb : g ≠ bt := h1.blk.apart hb1 (by decide)
    have ca4 : ∀ o, (wc.alloc o).cell? ⟨g, 4, none⟩ = some v := fun o => by have := (h1.bel ((Below.refl _ wc).alloc (Nat.le_refl _) o)).blk.cell 4; simpa using this
    clear h1 hb1 hnb HI cc
    go_wp2_with fail
    go_region_law (refine step_appendT rfl (.tmp 32) (.tmp 34) rfl B v l (by simp [Act.eval]) (HI1.out.own.below (((Below.refl _ wc).alloc (Nat.le_refl _) _).drew)) ⟨wc.heap.size, 0, none⟩ ⟨k, tx, n, p, ln, cl⟩ (by simp [Act.eval]) (tok_new wc k tx n p ln cl) (by omega) (by simp; omega) ?_; intro va vn vc w4 hown4 hB4 hgr4; obtain ⟨hb4, H4⟩ := (HI1.out.bel (((Below.refl _ wc).alloc (Nat.le_refl _) _).drew)).put hown4 hB4 hgr4; have g4 := hb4.cell 4; have f4 := hb4.fro 4; have hz4 : Blk w4 bt 31 #[.int .i64 (k : Int), .string tx, .int .i64 (n : Int), .int .i64 (p : Int), .int .i64 (ln : Int), .int .i64 (cl : Int)] := Blk.grown (HB1.out.below (((Below.refl _ wc).alloc (Nat.le_refl _) _).drew)) hgr4 HNB; have x0 := hz4.cell 0; have x1 := hz4.cell 1; have x2 := hz4.cell 2; have x3 := hz4.cell 3; have x4 := hz4.cell 4; have x5 := hz4.cell 5; simp at g4 x0 x1 x2 x3 x4 x5)
    all_goals
      go_wp2_with (go_at_call 41; go_must (refine (implPass hs hp hln hcl HA H4).mono ?_; rintro x w5 ⟨rfl, h5⟩))
      go_end0
      exact ⟨rfl, _, h5⟩
end Go.Proofs.YtbfoijeboaebdaaDoor
