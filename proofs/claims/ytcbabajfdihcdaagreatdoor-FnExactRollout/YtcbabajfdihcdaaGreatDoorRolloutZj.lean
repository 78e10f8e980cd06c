/-
  For all rules, layers, next layer, nodes, percents and sick nodes the law's call returns true: impl.Rollout and spec.Rollout answer alike (what is greater than the law's own limit of 1048576 it passes by itself), the arguments read as before and the stages that are answered own their memory; the two tables of unicode/utf8 are as the program's text lays them.
-/
import Derived.Test.YtcbabajfdihcdaaGreatDoorCards
import Derived.Test.YtcbabajfdihcdaaGreatDoorTie
import Derived.WalkKit
import Derived.ProofKit
import Derived.OpenShut
import Derived.ShutString
import Derived.ChangeOld
import Derived.Below
import Derived.Deep.DeepHandedRow
import Derived.Lib.LaidTab
import Derived.Lib.LaidU8
import Derived.Test.YtcbabajfdihcdaaGreatDoorZj15
namespace Go.Proofs.YtcbabajfdihcdaaGreatDoor.fnExactRollout
open Go.ChangeShapes Go.WideShapes Go.ChangeAt Go.RowKit
open Go.ChangeMaps (open_string shut_string)
set_option linter.unusedVariables false

/-- What the walk is told of a slice of bytes that came in. -/
def IsRow (k : IntKind) (w : World) (a : Option Addr) (len cap : Nat) (zs : List Int) : Prop :=
  (a = none ∧ len = 0 ∧ cap = 0 ∧ zs = []) ∨
  ∃ x, a = some x ∧ len ≤ cap ∧ cap ≤ maxLen ∧ zs.length = cap ∧ (∀ i, i < zs.length → w.cell? (x.add i) = some (.int k (zs.getD i 0))) ∧ ∀ n ∈ zs, (Lit.int k n).wf = true
theorem laidOut : laidOutB Tryz.prog = true := by kernel_rfl

theorem own : ownKnob Tryz.prog.godebug = none := by kernel_rfl
theorem first_eq : Rows.laid_unicode_utf8_first = Lib.firstData := by kernel_rfl
theorem accept_eq : (Rows.laid_unicode_utf8_acceptRanges : DataW Unit) = Lib.acceptData := by kernel_rfl

/-- What the row's list gives: the two tables of unicode/utf8. -/
theorem tabs {W : World} (h : laidMetH Tryz.prog Rows.fnExactRolloutRow.laid W) : Lib.Utf8Tabs 0 1 W := by
  have hL : laidMet Tryz.prog [("unicode/utf8.acceptRanges", Lib.acceptData), ("unicode/utf8.first", Lib.firstData)] W := by
    rw [← first_eq, ← accept_eq]; exact h
  exact utf8Tabs_of_reads Tryz.lays260 ⟨by kernel_rfl, by kernel_rfl, by kernel_rfl, by kernel_rfl, by kernel_rfl, by kernel_rfl, by kernel_rfl⟩ (Lib.laidMet.reads hL (.tail _ (.head _))) (Lib.laidMet.reads hL (.head _))

/-- The walk of the law, both callees by their contracts. -/
theorem walk (w : World) (a0 : Option Addr) (len0 cap0 : Nat) (l0 : List Rule) (a1 : Option Addr) (len1 cap1 : Nat) (l1 : List Layer) (v2 : Value) (l2 : Layer) (a3 : Option Addr) (len3 cap3 : Nat) (l3 : List ByteArray) (a4 : Option Addr) (len4 cap4 : Nat) (l4 : List Int) (a5 : Option Addr) (len5 cap5 : Nat) (l5 : List ByteArray)
    (h0 : RulesAt (fun b => b < w.heap.size) w (.slice a0 len0 cap0) l0 ∧ ∀ y ∈ l0, RulesFit y) (h1 : LayersAt (fun b => b < w.heap.size) w (.slice a1 len1 cap1) l1 ∧ ∀ y ∈ l1, LayersFit y) (h2 : OneLayAt (fun b => b < w.heap.size) w v2 l2 ∧ LayersFit l2)
    (h3 : TxtsAt (fun b => b < w.heap.size) w (.slice a3 len3 cap3) l3 ∧ ∀ y ∈ l3, TxtsFit y) (h4 : NumsAt (fun b => b < w.heap.size) w (.slice a4 len4 cap4) l4 ∧ ∀ y ∈ l4, NumsFit y) (h5 : TxtsAt (fun b => b < w.heap.size) w (.slice a5 len5 cap5) l5 ∧ ∀ y ∈ l5, TxtsFit y) (hT : Lib.Utf8Tabs 0 1 w) :
    Calls Tryz.prog 3 #[.slice a0 len0 cap0, .slice a1 len1 cap1, v2, .slice a3 len3 cap3, .slice a4 len4 cap4, .slice a5 len5 cap5] w fun e w' => e = .returned (.bool true) ∧ Below w.heap.size w w' :=
  rollWalk w _ _ _ _ _ _ l0 l1 l2 l3 l4 l5 h0.1 h0.2 h1.1 h1.2 h2.1 h2.2 h3.1 h3.2 h4.1 h5.1 h5.2 hT


set_option maxRecDepth 100000 in
theorem contract (H : Type) (enc : TypeId × Value → H) (W : World) (base : Nat) (args : Array Value) (ds gs : List (DataW H)) (before : List MemPlace)
    (hval : ∀ (j : Nat) t v, Tryz.f3.params[j]? = some t → args[j]? = some v → Value.okWide Tryz.prog W .any base t v)
    (hW : DataW.Whole enc Tryz.prog Tryz.f3.params.toList Rows.fnExactRolloutSpec.vars false W args.toList ds gs before) (hL : laidMetH Tryz.prog Rows.fnExactRolloutRow.laid W) :
    Calls Tryz.prog 3 args W fun e W' => ∃ v, e = .returned v ∧ Rows.fnExactRolloutSpec.post enc Tryz.prog Tryz.f3 false true false false W args v W' := by
  have hW' := hW
  obtain ⟨p, q, hA0, hV, rfl, hfz, hnd⟩ := hW
  have hA : DataW.TrodAll enc Tryz.prog W 0 (fun _ => true) true Tryz.f3.params.toList args.toList ds p := hA0
  rw [Tryz.params3] at hA hval
  obtain ⟨v0, vs0, d0, ds0, p0, q0, hargs, rfl, rfl, h0, r0⟩ := trodAll_cons hA
  obtain ⟨v1, vs1, d1, ds1, p1, q1, rfl, rfl, rfl, h1, r1⟩ := trodAll_cons r0
  obtain ⟨v2, vs2, d2, ds2, p2, q2, rfl, rfl, rfl, h2, r2⟩ := trodAll_cons r1
  obtain ⟨v3, vs3, d3, ds3, p3, q3, rfl, rfl, rfl, h3, r3⟩ := trodAll_cons r2
  obtain ⟨v4, vs4, d4, ds4, p4, q4, rfl, rfl, rfl, h4, r4⟩ := trodAll_cons r3
  obtain ⟨v5, vs5, d5, ds5, p5, q5, rfl, rfl, rfl, h5, r5⟩ := trodAll_cons r4
  obtain ⟨rfl, rfl, rfl⟩ := trodAll_nil r5
  obtain rfl : args = #[v0, v1, v2, v3, v4, v5] := by cases args; simp_all
  obtain ⟨rfl, rfl⟩ := trodVars_none hV
  obtain ⟨a0, len0, cap0, rfl⟩ := okWide_slice Tryz.underlying22 (hval 0 22 v0 rfl rfl)
  have k0 := h0
  have lt0 : ∀ x ∈ p0, x.block < W.heap.size := by obtain ⟨m, hm⟩ := k0; exact DataW.trod_lt m _ _ _ hm
  obtain ⟨l0, w0⟩ : ∃ l, RulesAt (fun b => b < W.heap.size) W (.slice a0 len0 cap0) l ∧ ∀ y ∈ l, RulesFit y := by
    obtain ⟨fuel, hf⟩ := h0
    obtain ⟨v, l, hcs, hR, hfit⟩ := openRules hf
    simp [Value.cells] at hcs
    subst hcs
    exact ⟨l, hR, hfit⟩
  obtain ⟨a1, len1, cap1, rfl⟩ := okWide_slice Tryz.underlying23 (hval 1 23 v1 rfl rfl)
  have k1 := h1
  have lt1 : ∀ x ∈ p1, x.block < W.heap.size := by obtain ⟨m, hm⟩ := k1; exact DataW.trod_lt m _ _ _ hm
  obtain ⟨l1, w1⟩ : ∃ l, LayersAt (fun b => b < W.heap.size) W (.slice a1 len1 cap1) l ∧ ∀ y ∈ l, LayersFit y := by
    obtain ⟨fuel, hf⟩ := h1
    obtain ⟨v, l, hcs, hR, hfit⟩ := openLayers hf
    simp [Value.cells] at hcs
    subst hcs
    exact ⟨l, hR, hfit⟩
  obtain ⟨a3, len3, cap3, rfl⟩ := okWide_slice Tryz.underlying27 (hval 3 27 v3 rfl rfl)
  have k3 := h3
  have lt3 : ∀ x ∈ p3, x.block < W.heap.size := by obtain ⟨m, hm⟩ := k3; exact DataW.trod_lt m _ _ _ hm
  obtain ⟨l3, w3⟩ : ∃ l, TxtsAt (fun b => b < W.heap.size) W (.slice a3 len3 cap3) l ∧ ∀ y ∈ l, TxtsFit y := by
    obtain ⟨fuel, hf⟩ := h3
    obtain ⟨v, l, hcs, hR, hfit⟩ := openTxts hf
    simp [Value.cells] at hcs
    subst hcs
    exact ⟨l, hR, hfit⟩
  obtain ⟨a4, len4, cap4, rfl⟩ := okWide_slice Tryz.underlying28 (hval 4 28 v4 rfl rfl)
  have k4 := h4
  have lt4 : ∀ x ∈ p4, x.block < W.heap.size := by obtain ⟨m, hm⟩ := k4; exact DataW.trod_lt m _ _ _ hm
  obtain ⟨l4, w4⟩ : ∃ l, NumsAt (fun b => b < W.heap.size) W (.slice a4 len4 cap4) l ∧ ∀ y ∈ l, NumsFit y := by
    obtain ⟨fuel, hf⟩ := h4
    obtain ⟨v, l, hcs, hR, hfit⟩ := openNums hf
    simp [Value.cells] at hcs
    subst hcs
    exact ⟨l, hR, hfit⟩
  obtain ⟨a5, len5, cap5, rfl⟩ := okWide_slice Tryz.underlying27 (hval 5 27 v5 rfl rfl)
  have k5 := h5
  have lt5 : ∀ x ∈ p5, x.block < W.heap.size := by obtain ⟨m, hm⟩ := k5; exact DataW.trod_lt m _ _ _ hm
  obtain ⟨l5, w5⟩ : ∃ l, TxtsAt (fun b => b < W.heap.size) W (.slice a5 len5 cap5) l ∧ ∀ y ∈ l, TxtsFit y := by
    obtain ⟨fuel, hf⟩ := h5
    obtain ⟨v, l, hcs, hR, hfit⟩ := openTxts hf
    simp [Value.cells] at hcs
    subst hcs
    exact ⟨l, hR, hfit⟩
  obtain ⟨cs2, rfl, hsz2⟩ := okWide_struct Tryz.underlying26 (hval 2 26 v2 rfl rfl)
  have k2 := h2
  have lt2 : ∀ x ∈ p2, x.block < W.heap.size := by obtain ⟨m, hm⟩ := k2; exact DataW.trod_lt m _ _ _ hm
  obtain ⟨l2, w2⟩ : ∃ l, OneLayAt (fun b => b < W.heap.size) W (.agg cs2) l ∧ LayersFit l := by
    obtain ⟨fuel, hf⟩ := h2
    obtain ⟨l, nn, hcs, hR, hfit⟩ := openOne hf
    simp [Value.cells] at hcs
    have hcs' : cs2 = #[.string l.name, .int .i64 l.rank, nn] := by
      apply Array.toList_inj.1
      simpa using hcs
    subst hcs'
    exact ⟨l, ⟨nn, rfl, hR⟩, hfit⟩
  clear hA0
  refine (walk W a0 len0 cap0 l0 a1 len1 cap1 l1 (.agg cs2) l2 a3 len3 cap3 l3 a4 len4 cap4 l4 a5 len5 cap5 l5 w0 w1 w2 w3 w4 w5 (tabs hL)).mono fun e W' ⟨he, bel⟩ => ?_
  subst he
  exact ⟨_, rfl, _, _, _, [], _, [], hW', trodAll_mk1 (shut_bool Tryz.underlying4 _), (trodAll_cons_mk (Below.trod laidOut (by kernel_rfl) (of_decide_eq_true (by kernel_rfl)) k0 bel lt0) (trodAll_cons_mk (Below.trod laidOut (by kernel_rfl) (of_decide_eq_true (by kernel_rfl)) k1 bel lt1) (trodAll_cons_mk (Below.trod laidOut (by kernel_rfl) (of_decide_eq_true (by kernel_rfl)) k2 bel lt2) (trodAll_cons_mk (Below.trod laidOut (by kernel_rfl) (of_decide_eq_true (by kernel_rfl)) k3 bel lt3) (trodAll_cons_mk (Below.trod laidOut (by kernel_rfl) (of_decide_eq_true (by kernel_rfl)) k4 bel lt4) (trodAll_cons_mk (Below.trod laidOut (by kernel_rfl) (of_decide_eq_true (by kernel_rfl)) k5 bel lt5) trodAll_mk0)))))), rfl, bel.frame _, fun h => by cases h⟩

/-- A world for the witness: the settled one, the two tables as their initialisers lay them. -/
noncomputable def laidWorld (os : Os) : World :=
  let w0 := World.holding Tryz.prog os ⟨#[], #[], []⟩
  let put (h : Array Obj) (g : Nat) (cs : Array Value) : Array Obj := h.modify g fun
    | .cells _ t frozen => .cells cs t frozen
    | o => o
  let h1 := put w0.heap 0 (Lib.firstTab.map fun z => Value.int .u8 z).toArray
  let h2 := put h1 1 ((List.range 16).flatMap fun i => [Value.int .u8 (Lib.accLo i), Value.int .u8 (Lib.accHi i)]).toArray
  { w0 with heap := h2 }
theorem laid_met (os : Os) : laidMet Tryz.prog Rows.fnExactRolloutRow.laid ((laidWorld os).forCall (fun _ _ => 0) ⟨#[], #[.slice none 0 0, .slice none 0 0, .agg #[.string ByteArray.empty, .int .i64 0, .slice none 0 0], .slice none 0 0, .slice none 0 0, .slice none 0 0], []⟩).memory :=
  laidMet_of_run' 8 (by kernel_rfl) (by kernel_rfl)
theorem reads (os : Os) {H : Type} (enc : TypeId × Value → H) : ∃ places, DataW.whole enc Tryz.prog ((laidWorld os).forCall (fun _ _ => 0) ⟨#[], #[.slice none 0 0, .slice none 0 0, .agg #[.string ByteArray.empty, .int .i64 0, .slice none 0 0], .slice none 0 0, .slice none 0 0, .slice none 0 0], []⟩).memory Tryz.f3.params.toList Rows.fnExactRolloutSpec.vars false #[Value.slice none 0 0, Value.slice none 0 0, Value.agg #[.string ByteArray.empty, .int .i64 0, .slice none 0 0], Value.slice none 0 0, Value.slice none 0 0, Value.slice none 0 0].toList 8 = some ([.nil, .nil, .agg [.lit (.string []), .lit (.int .i64 0), .nil], .nil, .nil, .nil], [], places) :=
  ⟨[], by kernel_rfl⟩

set_option maxRecDepth 100000 in
theorem lifted (os : Os) (started : os.Started) (H : Type) (enc : TypeId × Value → H) (F : Stop.Interp) :
    ReturnsInHanded {} Tryz.checked os 3 .any ((OpenSpec.ofChange Rows.fnExactRolloutSpec).preRow enc Tryz.prog Tryz.f3 Rows.fnExactRolloutRow.domain false Rows.fnExactRolloutRow.laid) (((OpenSpec.ofChange Rows.fnExactRolloutSpec).at F).post enc Tryz.prog Tryz.f3 false true false false) := by
  obtain ⟨places, hx⟩ := reads os enc
  refine returnsInHanded_of_row (C := Tryz.checked) (s := OpenSpec.ofChange Rows.fnExactRolloutSpec) own started (by kernel_rfl) Tryz.func3
    (witness_row_at (enc := enc) (C := Tryz.checked) false (laidWorld os) #[.slice none 0 0, .slice none 0 0, .agg #[.string ByteArray.empty, .int .i64 0, .slice none 0 0], .slice none 0 0, .slice none 0 0, .slice none 0 0] rfl (by kernel_rfl) (by kernel_rfl) (by kernel_rfl)
      (OpenSpec.preRow_of_cond 8 hx (by kernel_rfl) (fun k hk => by cases hk) (by kernel_rfl) (laid_met os))) ?_
  intro W base args ds gs before hval hW _ _ _ hL _ _
  exact contract H enc W base args ds gs before hval hW hL

theorem said : Rows.FnExactRolloutSaid :=
  OpenClaim.holds_of_cond 3 Tryz.f3 rfl rfl rfl rfl rfl rfl rfl ⟨rfl, rfl, rfl, rfl, rfl⟩ rfl rfl rfl rfl rfl (by kernel_rfl) Tryz.func3 (by kernel_rfl)
    (of_decide_eq_true (by kernel_rfl)) (by unfold Func.isWrapper; first | (rw [if_pos (by decide +kernel)]; kernel_rfl) | (rw [if_neg (by decide +kernel)]; exact ⟨rfl, rfl⟩))
    (fun os started H enc _ F => by rw [OpenClaim.pre_eq_preRow]; exact lifted os started H enc F)

/-- No parameter wants a stand-in; the program's own looks are off. -/
theorem plain (f : FuncId) (fn : Func) (hf : Tryz.pinned.checked.prog.funcNamed "loop.example/g00045/laws.FnExactRollout" = some f) (hfn : Tryz.pinned.checked.prog.funcs[f]? = some fn) :
    false = Tryz.pinned.checked.prog.looks [] ∧ ∀ (j : Nat) t, fn.params[j]? = some t → Tryz.pinned.checked.prog.wantsStandIn t = false := by
  obtain rfl : f = 3 := Option.some.inj ((show Tryz.prog.funcNamed "loop.example/g00045/laws.FnExactRollout" = some 3 by kernel_rfl).symm.trans hf) |>.symm
  obtain rfl : fn = Tryz.f3 := (Option.some.inj (Tryz.func3.symm.trans hfn)).symm
  refine ⟨by kernel_rfl, fun j t ht => ?_⟩
  rw [Tryz.params3] at ht
  have hm := Array.mem_of_getElem? ht
  simp only [List.mem_toArray, List.mem_cons, List.mem_nil_iff, or_false] at hm
  rcases hm with rfl | rfl | rfl | rfl | rfl | rfl
  · exact (show Tryz.prog.wantsStandIn 22 = false by kernel_rfl)
  · exact (show Tryz.prog.wantsStandIn 23 = false by kernel_rfl)
  · exact (show Tryz.prog.wantsStandIn 26 = false by kernel_rfl)
  · exact (show Tryz.prog.wantsStandIn 27 = false by kernel_rfl)
  · exact (show Tryz.prog.wantsStandIn 28 = false by kernel_rfl)
  · exact (show Tryz.prog.wantsStandIn 27 = false by kernel_rfl)

end Go.Proofs.YtcbabajfdihcdaaGreatDoor.fnExactRollout
namespace Go.Proofs.YtcbabajfdihcdaaGreatDoor
/-- The given statement: the tied card. -/
theorem fnExactRollout_holds : Rows.FnExactRolloutCardSaid :=
  Claim7.holds_tied_plain_at .later [] _ _ _ _ fnExactRollout.said (fun _ h => by cases h) (by kernel_rfl) (fun _ h => by cases h) fnExactRollout_row_tie rfl ⟨rfl, rfl⟩ (by kernel_rfl) rfl fnExactRollout.plain (by kernel_rfl)
#print axioms fnExactRollout_holds
end Go.Proofs.YtcbabajfdihcdaaGreatDoor
