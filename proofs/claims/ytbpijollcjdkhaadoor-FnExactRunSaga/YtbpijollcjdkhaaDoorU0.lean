/-
  The law on RunSaga: copies, marks and answers. No statement of the seat is proved here.
-/
import Derived.Test.YtbpijollcjdkhaaDoorK11
import Derived.Deep.Cut
namespace Go.Proofs.YtbpijollcjdkhaaDoor
open Go.ChangeShapes Go.WideShapes Go.ChangeAt Go.RowKit
set_option linter.unusedVariables false
set_option linter.unusedSimpArgs false

/-- A copy, in a block between L and U. -/
def CpMsgs (L U : Nat) (w : World) (v : Value) (l : List Msg) : Prop := ∃ g, L ≤ g ∧ g < U ∧ RowMsgs w g v l
theorem CpMsgs.keepU {L U : Nat} {w w' : World} {v : Value} {l : List Msg} (h : CpMsgs L U w v l) (hk : ∀ b, L ≤ b → b < U → w'.heap[b]? = w.heap[b]?) : CpMsgs L U w' v l := by
  obtain ⟨g, h1, h2, h3⟩ := h
  exact ⟨g, h1, h2, h3.keep (hk g h1 h2)⟩
theorem CpMsgs.at {L U : Nat} {w : World} {v : Value} {l : List Msg} (h : CpMsgs L U w v l) : MsgsAt (fun b => L ≤ b ∧ b < U) w v l := by
  obtain ⟨g, h1, h2, h3⟩ := h
  exact h3.at ⟨h1, h2⟩
theorem cpToMsgs {S : Nat → Prop} {l : List Msg} {v : Value} {w : World} (hS : ∀ b, S b → b < w.heap.size) (h : MsgsAt S w v l) (hl : l.length ≤ 1048576) (hok : ∀ x ∈ l, MsgsOK 1048576 x) :
    Calls Tryd.prog 8 #[v] w fun e w' => (∃ v', e = .returned v' ∧ CpMsgs w.heap.size w'.heap.size w' v' l) ∧ Below w.heap.size w w' :=
  (toSagaMsgS hS h hl).mono fun e w' ⟨⟨v', he, hr⟩, hb⟩ => ⟨⟨v', he, w.heap.size, Nat.le_refl _, hr.lt, hr⟩, hb⟩
theorem cpMarkMsgs {L U : Nat} {l : List Msg} {v : Value} {w : World} (s : Nat) (hs0 : 0 < s) (hs1 : s ≤ 10000000000000) (hl : l.length ≤ 1048576) (hok : ∀ x ∈ l, MsgsOK 1048576 x) (hUw : U ≤ w.heap.size) (h : CpMsgs L U w v l) :
    Calls Tryd.prog 14 #[v, .int .i64 s] w fun e w' => (∃ r : Nat, e = .returned (.int .i64 (r : Int)) ∧ 0 < r ∧ r ≤ s + 100000000) ∧ OutS (fun b => L ≤ b ∧ b < U) w w' := by
  obtain ⟨g, h1, h2, h3⟩ := h
  refine (markShMsgs s hs0 (by omega) hl h3.sh).mono ?_
  rintro e w' ⟨he, ho, _⟩
  exact ⟨⟨_, he, by omega, by omega⟩, ho.mono (fun b hb => by subst hb; exact ⟨h1, h2⟩)⟩
theorem CpMsgs.below {B L U : Nat} {w w' : World} {v : Value} {l : List Msg} (h : CpMsgs L U w v l) (hb : Below B w w') (hU : U ≤ B) : CpMsgs L U w' v l := h.keepU (fun b _ hb2 => hb.block b (Nat.lt_of_lt_of_le hb2 hU))
theorem CpMsgs.outS {S : Nat → Prop} {L U : Nat} {w w' : World} {v : Value} {l : List Msg} (h : CpMsgs L U w v l) (ho : OutS S w w') (hS : ∀ b, S b → b < L ∨ U ≤ b) (hU : U ≤ w.heap.size) : CpMsgs L U w' v l := h.keepU (fun b h1 h2 => ho.block b (Nat.lt_of_lt_of_le h2 hU) (fun hs => by have := hS b hs; omega))
def UStepsLim (left : Int) (l : List Step) : Prop := (l.length : Int) ≤ left ∧ ∀ x ∈ l, StepsOK left x
theorem UStepsLim.mono {a b : Int} {l : List Step} (h : UStepsLim a l) (hab : a ≤ b) : UStepsLim b l := ⟨Int.le_trans h.1 hab, fun x hx => (h.2 x hx).mono hab⟩
theorem UStepsLim.len {l : List Step} (h : UStepsLim 1048576 l) : l.length ≤ 1048576 := by have := h.1; omega
theorem UStepsTo {S : Nat → Prop} {l : List Step} {v : Value} {w : World} (hS : ∀ b, S b → b < w.heap.size) (h : StepsAt S w v l) (hl : UStepsLim 1048576 l) :
    Calls Tryd.prog 7 #[v] w fun e w' => (∃ v', e = .returned v' ∧ CpSteps w.heap.size w'.heap.size w' v' l) ∧ Below w.heap.size w w' := cpToSteps hS h hl.len hl.2
theorem UStepsMark {L U : Nat} {l : List Step} {v : Value} {w : World} (s : Nat) (hs0 : 0 < s) (hs1 : s ≤ 10000000000000) (hl : UStepsLim 1048576 l) (hUw : U ≤ w.heap.size) (h : CpSteps L U w v l) :
    Calls Tryd.prog 13 #[v, .int .i64 s] w fun e w' => (∃ r : Nat, e = .returned (.int .i64 (r : Int)) ∧ 0 < r ∧ r ≤ s + 2300000000000) ∧ OutS (fun b => L ≤ b ∧ b < U) w w' := cpMarkSteps s hs0 hs1 hl.len hl.2 hUw h
theorem UStepsSz {S : Nat → Prop} {l : List Step} {v : Value} {w : World} (hS : ∀ b, S b → b < w.heap.size) (h : StepsAt S w v l) (hx : ∀ x ∈ l, StepsFit x) (left : Int) (h0 : 0 ≤ left) (h1 : left ≤ 1048576) :
    Calls Tryd.prog 4 #[v, .int .i64 left] w fun e w' => (∃ r : Int, e = .returned (.int .i64 r) ∧ (r = -1 ∨ (0 ≤ r ∧ r ≤ left ∧ UStepsLim left l))) ∧ Below w.heap.size w w' :=
  (szSagaStepS hS h hx left h0 h1).mono fun e w' ⟨⟨r, he, hr⟩, hb⟩ => ⟨⟨r, he, hr.imp id fun ⟨a, b, c, d⟩ => ⟨a, b, c, d⟩⟩, hb⟩
def UMsgsLim (left : Int) (l : List Msg) : Prop := (l.length : Int) ≤ left ∧ ∀ x ∈ l, MsgsOK left x
theorem UMsgsLim.mono {a b : Int} {l : List Msg} (h : UMsgsLim a l) (hab : a ≤ b) : UMsgsLim b l := ⟨Int.le_trans h.1 hab, fun x hx => (h.2 x hx).mono hab⟩
theorem UMsgsLim.len {l : List Msg} (h : UMsgsLim 1048576 l) : l.length ≤ 1048576 := by have := h.1; omega
theorem UMsgsTo {S : Nat → Prop} {l : List Msg} {v : Value} {w : World} (hS : ∀ b, S b → b < w.heap.size) (h : MsgsAt S w v l) (hl : UMsgsLim 1048576 l) :
    Calls Tryd.prog 8 #[v] w fun e w' => (∃ v', e = .returned v' ∧ CpMsgs w.heap.size w'.heap.size w' v' l) ∧ Below w.heap.size w w' := cpToMsgs hS h hl.len hl.2
theorem UMsgsMark {L U : Nat} {l : List Msg} {v : Value} {w : World} (s : Nat) (hs0 : 0 < s) (hs1 : s ≤ 10000000000000) (hl : UMsgsLim 1048576 l) (hUw : U ≤ w.heap.size) (h : CpMsgs L U w v l) :
    Calls Tryd.prog 14 #[v, .int .i64 s] w fun e w' => (∃ r : Nat, e = .returned (.int .i64 (r : Int)) ∧ 0 < r ∧ r ≤ s + 100000000) ∧ OutS (fun b => L ≤ b ∧ b < U) w w' := cpMarkMsgs s hs0 hs1 hl.len hl.2 hUw h
theorem UMsgsSz {S : Nat → Prop} {l : List Msg} {v : Value} {w : World} (hS : ∀ b, S b → b < w.heap.size) (h : MsgsAt S w v l) (hx : ∀ x ∈ l, MsgsFit x) (left : Int) (h0 : 0 ≤ left) (h1 : left ≤ 1048576) :
    Calls Tryd.prog 5 #[v, .int .i64 left] w fun e w' => (∃ r : Int, e = .returned (.int .i64 r) ∧ (r = -1 ∨ (0 ≤ r ∧ r ≤ left ∧ UMsgsLim left l))) ∧ Below w.heap.size w w' :=
  (szSagaMsgS hS h hx left h0 h1).mono fun e w' ⟨⟨r, he, hr⟩, hb⟩ => ⟨⟨r, he, hr.imp id fun ⟨a, b, c, d⟩ => ⟨a, b, c, d⟩⟩, hb⟩

/-- Answers that are not too long. -/
def LogLim (x : Log) : Prop := x.reps.length ≤ 1000000 ∧ x.cmds.length ≤ 1000000 ∧ x.done.length ≤ 1000000
theorem OwnLog.below {B : Nat} {w w' : World} {v : Value} {x : Log} (h : OwnLog B w v x) (hb : Below w.heap.size w w') : OwnLog B w' v x := by
  obtain ⟨rv, cv, nv, hv, h1, h2, h3⟩ := h
  exact ⟨rv, cv, nv, hv, OwnNums.below h1 hb, OwnCmds.below h2 hb, OwnTxts.below h3 hb⟩
theorem OwnLog.out {B : Nat} {S : Nat → Prop} {w w' : World} {v : Value} {x : Log} (h : OwnLog B w v x) (ho : OutS S w w') (hS : ∀ b, S b → b < B) : OwnLog B w' v x := by
  obtain ⟨rv, cv, nv, hv, h1, h2, h3⟩ := h
  exact ⟨rv, cv, nv, hv, OwnNums.out h1 ho hS, OwnCmds.out h2 ho hS, OwnTxts.out h3 ho hS⟩
theorem OwnLog.shape {B : Nat} {w : World} {v : Value} {x : Log} (h : OwnLog B w v x) : ∃ ra rc ca cc na nc, v = .agg #[.int .i64 x.code, .int .i64 x.st, .slice ra x.reps.length rc, .slice ca x.cmds.length cc, .slice na x.done.length nc] ∧ OwnNums B w (.slice ra x.reps.length rc) x.reps ∧ OwnCmds B w (.slice ca x.cmds.length cc) x.cmds ∧ OwnTxts B w (.slice na x.done.length nc) x.done := by
  obtain ⟨rv, cv, nv, hv, h1, h2, h3⟩ := h
  obtain ⟨ra, rc, e1, -⟩ := h1.value
  obtain ⟨ca, cc, e2, -⟩ := h2.value
  obtain ⟨na, nc, e3, -⟩ := h3.value
  subst e1
  subst e2
  subst e3
  exact ⟨ra, rc, ca, cc, na, nc, hv, h1, h2, h3⟩
set_option maxRecDepth 100000 in
set_option maxHeartbeats 4000000 in
theorem eqLog {B1 B2 : Nat} {v1 v2 : Value} {x : Log} {w : World} (h1 : OwnLog B1 w v1 x) (h2 : OwnLog B2 w v2 x) :
    Calls Tryd.prog 10 #[v1, v2] w fun e w' => e = .returned (.bool true) ∧ Below w.heap.size w w' := by
  obtain ⟨ra, rc, ca, cc, na, nc, rfl, k1, k2, k3⟩ := h1.shape
  obtain ⟨rb, rd, cb, cd, nb, nd, rfl, j1, j2, j3⟩ := h2.shape
  have hA : ∀ o p, Below w.heap.size w ((w.alloc o).alloc p) := fun o p => ((Below.refl _ w).alloc (Nat.le_refl _) o).alloc (by simp only [World.size_alloc]; omega) p
  have e1 := fun W (hW : Below w.heap.size w W) => eqIntS (w := W) (fun b hb => hb.2) (fun b hb => hb.2) (OwnNums.at (k1.below hW)) (OwnNums.at (j1.below hW))
  have e2 := fun W (hW : Below w.heap.size w W) => eqSagaCmdS (w := W) (fun b hb => hb.2) (fun b hb => hb.2) (OwnCmds.at (k2.below hW)) (OwnCmds.at (j2.below hW))
  have e3 := fun W (hW : Below w.heap.size w W) => eqStringS (w := W) (fun b hb => hb.2) (fun b hb => hb.2) (OwnTxts.at (k3.below hW)) (OwnTxts.at (j3.below hW))
  obtain ⟨xc, xs, xr, xm, xd⟩ := x
  dsimp only at *
  obtain ⟨wb, hwb⟩ : ∃ wb, (w.alloc (.cells #[.int .i64 xc, .int .i64 xs, .slice ra xr.length rc, .slice ca xm.length cc, .slice na xd.length nc] 30)).alloc (.cells #[.int .i64 xc, .int .i64 xs, .slice rb xr.length rd, .slice cb xm.length cd, .slice nb xd.length nd] 30) = wb := ⟨_, rfl⟩
  have bB := hA (.cells #[.int .i64 xc, .int .i64 xs, .slice ra xr.length rc, .slice ca xm.length cc, .slice na xd.length nc] 30) (.cells #[.int .i64 xc, .int .i64 xs, .slice rb xr.length rd, .slice cb xm.length cd, .slice nb xd.length nd] 30)
  have b1 : Blk wb w.heap.size 30 #[.int .i64 xc, .int .i64 xs, .slice ra xr.length rc, .slice ca xm.length cc, .slice na xd.length nc] := by rw [← hwb]; exact two1 w _ _
  have b2 : Blk wb (w.heap.size + 1) 30 #[.int .i64 xc, .int .i64 xs, .slice rb xr.length rd, .slice cb xm.length cd, .slice nb xd.length nd] := by rw [← hwb]; exact two2 w _ _
  rw [hwb] at bB
  have HB : Hid (Below w.heap.size w wb) := bB
  have HB1 : Hid (Blk wb w.heap.size 30 #[.int .i64 xc, .int .i64 xs, .slice ra xr.length rc, .slice ca xm.length cc, .slice na xd.length nc]) := b1
  have HB2 : Hid (Blk wb (w.heap.size + 1) 30 #[.int .i64 xc, .int .i64 xs, .slice rb xr.length rd, .slice cb xm.length cd, .slice nb xd.length nd]) := b2
  have q0 := b1.cell 0
  have q1 := b1.cell 1
  have q2 := b1.cell 2
  have p0 := b2.cell 0
  have p1 := b2.cell 1
  have p2 := b2.cell 2
  simp at q0 q1 q2 p0 p1 p2
  clear h1 h2 k1 k2 k3 j1 j2 j3 hA bB b1 b2
  go_enter Tryd.func10, Tryd.ntmps10
  go_upto_region 7 with (go_at_call 29; go_must (refine (e1 _ HB.out).mono ?_; rintro e w1 ⟨rfl, hb1⟩))
  clear q0 q1 q2 p0 p1 p2 hwb
  have g1 := good_below HB.out hb1
  have q3 := (HB1.out.below hb1).cell 3
  have p3 := (HB2.out.below hb1).cell 3
  have q4 := (HB1.out.below hb1).cell 4
  have p4 := (HB2.out.below hb1).cell 4
  simp at q3 p3 q4 p4
  go_upto_region 9 with (go_at_call 30; go_must (refine (e2 _ g1).mono ?_; rintro e w2 ⟨rfl, hb2⟩))
  have g2 := good_below g1 hb2
  have q4' := (hb2.cell (World.block_lt_of_cell? _ _ q4)).trans q4
  have p4' := (hb2.cell (World.block_lt_of_cell? _ _ p4)).trans p4
  clear q3 p3 q4 p4
  go_wp2_with (go_at_call 31; go_must (refine (e3 _ g2).mono ?_; rintro e w3 ⟨rfl, hb3⟩))
  go_ret
  exact ⟨rfl, good_below g2 hb3⟩
/-- The blocks of an answer. -/
def LogBlk (v : Value) (b : Nat) : Prop := ∃ c s rv cv nv, v = .agg #[c, s, rv, cv, nv] ∧ (BlkOf rv b ∨ BlkOf cv b ∨ BlkOf nv b)
theorem LogBlk.of {c s rv cv nv : Value} {b : Nat} (h : LogBlk (.agg #[c, s, rv, cv, nv]) b) : BlkOf rv b ∨ BlkOf cv b ∨ BlkOf nv b := by
  obtain ⟨_, _, _, _, _, hv, h⟩ := h
  simp only [Value.agg.injEq, Array.mk.injEq, List.cons.injEq, and_true] at hv
  obtain ⟨rfl, rfl, rfl, rfl, rfl⟩ := hv
  exact h
theorem blk_own {v : Value} {b : Nat} (h : BlkOf v b) : v.ownBlock = some b := by
  obtain ⟨n, c, rfl⟩ := h
  rfl
theorem OwnLog.blks {B b : Nat} {w : World} {v : Value} {x : Log} (h : OwnLog B w v x) (hb : LogBlk v b) : B ≤ b ∧ b < w.heap.size := by
  obtain ⟨rv, cv, nv, rfl, h1, h2, h3⟩ := h
  rcases hb.of with hb | hb | hb
  · exact World.ownsRow.lt h1 b (blk_own hb)
  · exact World.ownsRow.lt h2 b (blk_own hb)
  · exact World.ownsRow.lt h3 b (blk_own hb)
theorem OwnLog.outA {B : Nat} {S : Nat → Prop} {w w' : World} {v : Value} {x : Log} (h : OwnLog B w v x) (ho : OutS S w w') (hS : ∀ b, LogBlk v b → ¬ S b) : OwnLog B w' v x := by
  obtain ⟨rv, cv, nv, rfl, h1, h2, h3⟩ := h
  exact ⟨rv, cv, nv, rfl, OwnNums.outA h1 ho (fun b hb => hS b ⟨_, _, _, _, _, rfl, .inl hb⟩), OwnCmds.outA h2 ho (fun b hb => hS b ⟨_, _, _, _, _, rfl, .inr (.inl hb)⟩), OwnTxts.outA h3 ho (fun b hb => hS b ⟨_, _, _, _, _, rfl, .inr (.inr hb)⟩)⟩
theorem OwnLog.notBox {B b : Nat} {w : World} {v : Value} {x : Log} {cs : Array Value} (h : OwnLog B w v x) (hk : Blk w b 30 cs) : ¬ LogBlk v b := by
  obtain ⟨rv, cv, nv, rfl, h1, h2, h3⟩ := h
  intro hb
  rcases hb.of with hb | hb | hb
  · exact rowOff h1 hk (by decide) (blk_own hb)
  · exact rowOff h2 hk (by decide) (blk_own hb)
  · exact rowOff h3 hk (by decide) (blk_own hb)
/-- An answer that is marked. -/
def LogMkd (w : World) (v : Value) (T : Nat) : Prop := ∃ (c s : Int) (ra ca na : Option Addr) (rc cc nc m1 m2 m3 : Nat), v = .agg #[.int .i64 c, .int .i64 s, .slice ra m1 rc, .slice ca m2 cc, .slice na m3 nc] ∧ (m1 ≤ 1000000 ∧ m2 ≤ 1000000 ∧ m3 ≤ 1000000) ∧ T = 1 + m1 + 3 * m2 + m3 ∧ MkdNums w (.slice ra m1 rc) m1 1 ∧ MkdCmds w (.slice ca m2 cc) m2 (1 + m1) ∧ MkdTxts w (.slice na m3 nc) m3 (1 + m1 + 3 * m2)
theorem LogMkd.below {w w' : World} {v : Value} {T : Nat} (h : LogMkd w v T) (hb : Below w.heap.size w w') : LogMkd w' v T := by
  obtain ⟨c, s, ra, ca, na, rc, cc, nc, m1, m2, m3, hv, hl, hT, h1, h2, h3⟩ := h
  exact ⟨c, s, ra, ca, na, rc, cc, nc, m1, m2, m3, hv, hl, hT, h1.below hb, h2.below hb, h3.below hb⟩
set_option maxRecDepth 100000 in
set_option maxHeartbeats 4000000 in
theorem markLog {B : Nat} {v : Value} {x : Log} {w : World} (hl : LogLim x) (h : OwnLog B w v x) :
    Calls Tryd.prog 15 #[v, .int .i64 1] w fun e w' => (∃ T : Nat, e = .returned (.int .i64 (T : Int)) ∧ T ≤ 100000000 ∧ LogMkd w' v T) ∧ OutS (LogBlk v) w w' := by
  obtain ⟨ra, rc, ca, cc, na, nc, rfl, k1, k2, k3⟩ := h.shape
  obtain ⟨xc, xs, xr, xm, xd⟩ := x
  unfold LogLim at hl
  dsimp only at *
  obtain ⟨l1, l2, l3⟩ := hl
  have bA : Below w.heap.size w (w.alloc (.cells #[.int .i64 xc, .int .i64 xs, .slice ra xr.length rc, .slice ca xm.length cc, .slice na xd.length nc] 30)) := (Below.refl _ w).alloc (Nat.le_refl _) _
  have kA : Blk (w.alloc (.cells #[.int .i64 xc, .int .i64 xs, .slice ra xr.length rc, .slice ca xm.length cc, .slice na xd.length nc] 30)) w.heap.size 30 #[.int .i64 xc, .int .i64 xs, .slice ra xr.length rc, .slice ca xm.length cc, .slice na xd.length nc] := heap_alloc_last w _
  obtain ⟨wa, hwa⟩ : ∃ wa, w.alloc (.cells #[.int .i64 xc, .int .i64 xs, .slice ra xr.length rc, .slice ca xm.length cc, .slice na xd.length nc] 30) = wa := ⟨_, rfl⟩
  rw [hwa] at bA kA
  have n1 := k1.below bA
  have n2 := k2.below bA
  have n3 := k3.below bA
  obtain ⟨T1, hT1⟩ : ∃ T1, T1 = 1 + xr.length := ⟨_, rfl⟩
  obtain ⟨T2, hT2⟩ : ∃ T2, T2 = T1 + 3 * xm.length := ⟨_, rfl⟩
  obtain ⟨T3, hT3⟩ : ∃ T3, T3 = T2 + xd.length := ⟨_, rfl⟩
  have c1 := markOwnNums' 1 T1 hT1 (by omega) (by omega) (by omega) n1
  have HKA : Hid (Blk wa w.heap.size 30 #[.int .i64 xc, .int .i64 xs, .slice ra xr.length rc, .slice ca xm.length cc, .slice na xd.length nc]) := kA
  have HBA : Hid (Below w.heap.size w wa) := bA
  have q2 := kA.cell 2
  simp at q2
  have hx1 : ¬ BlkOf (.slice ra xr.length rc) w.heap.size := fun hb => SlT.apart (by decide) n1.slt (.inr ⟨_, _, _, _, rfl, kA⟩ : SlT wa (.slice (some ⟨w.heap.size, 0, none⟩) 0 0) 30) hb BlkOf.mk
  have hx2 : ¬ BlkOf (.slice ca xm.length cc) w.heap.size := fun hb => SlT.apart (by decide) n2.slt (.inr ⟨_, _, _, _, rfl, kA⟩ : SlT wa (.slice (some ⟨w.heap.size, 0, none⟩) 0 0) 30) hb BlkOf.mk
  have HN1 : Hid (OwnNums B wa (.slice ra xr.length rc) xr) := n1
  have HN2 : Hid (OwnCmds B wa (.slice ca xm.length cc) xm) := n2
  have HN3 : Hid (OwnTxts B wa (.slice na xd.length nc) xd) := n3
  have HT1 : Hid (T1 = 1 + xr.length) := hT1
  have HT2 : Hid (T2 = T1 + 3 * xm.length) := hT2
  have HT3 : Hid (T3 = T2 + xd.length) := hT3
  clear h k1 k2 k3 bA kA n1 n2 n3 hT1 hT2 hT3
  go_enter Tryd.func15, Tryd.ntmps15
  go_upto_region 2 with (go_at_call 36; go_must (refine c1.mono ?_; rintro e w1 ⟨rfl, o1, m1⟩))
  clear c1 q2 hwa
  have kB : Blk w1 w.heap.size 30 #[.int .i64 xc, .int .i64 xs, .slice ra xr.length rc, .slice ca xm.length cc, .slice na xd.length nc] := (o1.block w.heap.size HKA.out.lt hx1).trans HKA.out
  have n2 := OwnCmds.outA HN2.out o1 (fun b hb hb' => SlT.apart (by decide) HN2.out.slt HN1.out.slt hb hb')
  have n3 := OwnTxts.outA HN3.out o1 (fun b hb hb' => SlT.apart (by decide) HN3.out.slt HN1.out.slt hb hb')
  have c2 := markOwnCmds' T1 T2 HT2.out (by have := HT1.out; omega) (by have := HT1.out; omega) (by omega) n2
  have q3 := kB.cell 3
  simp at q3
  have HO1 : Hid (OutS (BlkOf (.slice ra xr.length rc)) wa w1) := o1
  have HM1 : Hid (MkdNums w1 (.slice ra xr.length rc) xr.length 1) := m1
  have HKB : Hid (Blk w1 w.heap.size 30 #[.int .i64 xc, .int .i64 xs, .slice ra xr.length rc, .slice ca xm.length cc, .slice na xd.length nc]) := kB
  have HN2' : Hid (OwnCmds B w1 (.slice ca xm.length cc) xm) := n2
  have HN3' : Hid (OwnTxts B w1 (.slice na xd.length nc) xd) := n3
  clear o1 m1 kB n2 n3
  go_upto_region 3 with (go_at_call 37; go_must (refine c2.mono ?_; rintro e w2 ⟨rfl, o2, m2⟩))
  clear c2 q3
  have kC : Blk w2 w.heap.size 30 #[.int .i64 xc, .int .i64 xs, .slice ra xr.length rc, .slice ca xm.length cc, .slice na xd.length nc] := (o2.block w.heap.size HKB.out.lt hx2).trans HKB.out
  have n3 := OwnTxts.outA HN3'.out o2 (fun b hb hb' => SlT.apart (by decide) HN3'.out.slt HN2'.out.slt hb hb')
  have m1 := MkdNums.outA HM1.out o2 (fun b hb hb' => SlT.apart (by decide) HM1.out.slt HN2'.out.slt hb hb')
  have c3 := markOwnTxts' T2 T3 HT3.out (by have := HT1.out; have := HT2.out; omega) (by have := HT1.out; have := HT2.out; omega) (by omega) n3
  have q4 := kC.cell 4
  simp at q4
  have HO2 : Hid (OutS (BlkOf (.slice ca xm.length cc)) w1 w2) := o2
  have HM1' : Hid (MkdNums w2 (.slice ra xr.length rc) xr.length 1) := m1
  have HM2 : Hid (MkdCmds w2 (.slice ca xm.length cc) xm.length T1) := m2
  have HN3'' : Hid (OwnTxts B w2 (.slice na xd.length nc) xd) := n3
  clear o2 m1 m2 kC n3
  go_wp2_with (go_at_call 35; go_must (refine c3.mono ?_; rintro e w3 ⟨rfl, o3, m3⟩))
  go_ret
  have m1 := MkdNums.outA HM1'.out o3 (fun b hb hb' => SlT.apart (by decide) HM1'.out.slt HN3''.out.slt hb hb')
  have m2 := MkdCmds.outA HM2.out o3 (fun b hb hb' => SlT.apart (by decide) HM2.out.slt HN3''.out.slt hb hb')
  have t1 := HT1.out
  have t2 := HT2.out
  have t3 := HT3.out
  refine ⟨⟨T3, rfl, by omega, xc, xs, ra, ca, na, rc, cc, nc, xr.length, xm.length, xd.length, rfl, ⟨l1, l2, l3⟩, by omega, m1, by rw [← t1]; exact m2, by rw [show 1 + xr.length + 3 * xm.length = T2 by omega]; exact m3⟩, ?_⟩
  exact ((OutS.of HBA.out).trans ((HO1.out.mono fun b hb => ⟨_, _, _, _, _, rfl, .inl hb⟩).trans ((HO2.out.mono fun b hb => ⟨_, _, _, _, _, rfl, .inr (.inl hb)⟩).trans (o3.mono fun b hb => ⟨_, _, _, _, _, rfl, .inr (.inr hb)⟩))))
set_option maxRecDepth 100000 in
set_option maxHeartbeats 4000000 in
theorem heldLog {v : Value} {T : Nat} {w : World} (h : LogMkd w v T) :
    Calls Tryd.prog 16 #[v, .int .i64 1] w fun e w' => e = .returned (.int .i64 (T : Int)) ∧ Below w.heap.size w w' := by
  obtain ⟨c, s, ra, ca, na, rc, cc, nc, m1, m2, m3, rfl, ⟨l1, l2, l3⟩, hT, k1, k2, k3⟩ := h
  have bA : Below w.heap.size w (w.alloc (.cells #[.int .i64 c, .int .i64 s, .slice ra m1 rc, .slice ca m2 cc, .slice na m3 nc] 30)) := (Below.refl _ w).alloc (Nat.le_refl _) _
  have kA : Blk (w.alloc (.cells #[.int .i64 c, .int .i64 s, .slice ra m1 rc, .slice ca m2 cc, .slice na m3 nc] 30)) w.heap.size 30 #[.int .i64 c, .int .i64 s, .slice ra m1 rc, .slice ca m2 cc, .slice na m3 nc] := heap_alloc_last w _
  obtain ⟨wa, hwa⟩ : ∃ wa, w.alloc (.cells #[.int .i64 c, .int .i64 s, .slice ra m1 rc, .slice ca m2 cc, .slice na m3 nc] 30) = wa := ⟨_, rfl⟩
  rw [hwa] at bA kA
  obtain ⟨T1, hT1⟩ : ∃ T1, T1 = 1 + m1 := ⟨_, rfl⟩
  obtain ⟨T2, hT2⟩ : ∃ T2, T2 = T1 + 3 * m2 := ⟨_, rfl⟩
  have e3 : T = T2 + m3 := by omega
  rw [← hT1] at k2
  rw [show 1 + m1 + 3 * m2 = T2 by omega] at k3
  have c1 := heldIntS' (s := 1) T1 hT1 (by omega) (by omega) (by omega) (k1.below bA)
  have c2 := fun W (hW : Below wa.heap.size wa W) => heldSagaCmdS' (s := T1) (w := W) T2 hT2 (by omega) (by omega) (by omega) (k2.below (good_below bA hW))
  have c3 := fun W (hW : Below wa.heap.size wa W) => heldStringS' (s := T2) (w := W) T e3 (by omega) (by omega) (by omega) (k3.below (good_below bA hW))
  have q2 := kA.cell 2
  simp at q2
  have HKA : Hid (Blk wa w.heap.size 30 #[.int .i64 c, .int .i64 s, .slice ra m1 rc, .slice ca m2 cc, .slice na m3 nc]) := kA
  have HBA : Hid (Below w.heap.size w wa) := bA
  have z1 : ¬ ((T1 : Int) < 0) := by omega
  have z2 : ¬ ((T2 : Int) < 0) := by omega
  have z3 : ¬ ((T : Int) < 0) := by omega
  clear kA bA k1 k2 k3 hT hT1 hT2 e3
  go_enter Tryd.func16, Tryd.ntmps16
  go_upto_region 4 with (go_at_call 38; go_must (refine c1.mono ?_; rintro e w1 ⟨rfl, hb1⟩))
  have q3 := (HKA.out.below hb1).cell 3
  simp at q3
  clear q2 c1 hwa
  go_upto_region 7 with (go_at_call 39; go_must (refine (c2 _ hb1).mono ?_; rintro e w2 ⟨rfl, hb2⟩))
  have g2 := good_below hb1 hb2
  have q4 := (HKA.out.below g2).cell 4
  simp at q4
  clear q3 c2
  go_wp2_with (go_at_call 40; go_must (refine (c3 _ g2).mono ?_; rintro e w3 ⟨rfl, hb3⟩))
  go_ret
  exact ⟨rfl, good_below HBA.out (good_below g2 hb3)⟩
end Go.Proofs.YtbpijollcjdkhaaDoor
