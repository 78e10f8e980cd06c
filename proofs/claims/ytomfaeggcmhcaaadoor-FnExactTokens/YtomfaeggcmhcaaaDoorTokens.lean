/-
  For every string the law's call returns true: impl.Tokens and spec.Tokens answer alike, lexeme by lexeme, the answer's lexemes can be written over and stay as written behind another call (a string of more than 1048576 bytes the law itself passes by), and the argument reads as before; the two tables of unicode/utf8 are as the program's text lays them: the card ties them.
-/
import Derived.Test.YtomfaeggcmhcaaaDoorCards
import Derived.Test.YtomfaeggcmhcaaaDoorTie
import Derived.WalkKit
import Derived.ProofKit
import Derived.OpenShut
import Derived.ShutString
import Derived.ChangeOld
import Derived.Below
import Derived.Deep.DeepHandedRow
import Derived.Lib.LaidTab
import Derived.Lib.LaidU8
import Derived.Test.YtomfaeggcmhcaaaDoorToks
import Derived.Test.YtomfaeggcmhcaaaDoorScan7
import Derived.Test.YtomfaeggcmhcaaaDoorLaw2
namespace Go.Proofs.YtomfaeggcmhcaaaDoor.fnExactTokens
open Go.ChangeShapes Go.WideShapes Go.ChangeAt Go.RowKit
open Go.ChangeMaps (open_string shut_string)
set_option linter.unusedVariables false

theorem own : ownKnob Tryd.prog.godebug = none := by kernel_rfl
theorem first_eq : Rows.laid_unicode_utf8_first = Lib.firstData := by kernel_rfl
theorem accept_eq : (Rows.laid_unicode_utf8_acceptRanges : DataW Unit) = Lib.acceptData := by kernel_rfl

/-- What the row's list gives: the two tables of unicode/utf8. -/
theorem tabs {W : World} (h : laidMetH Tryd.prog Rows.fnExactTokensRow.laid W) : Lib.Utf8Tabs 0 1 W := by
  have hL : laidMet Tryd.prog [("unicode/utf8.acceptRanges", Lib.acceptData), ("unicode/utf8.first", Lib.firstData)] W := by
    rw [← first_eq, ← accept_eq]; exact h
  exact utf8Tabs_of_reads Tryd.lays260 ⟨by kernel_rfl, by kernel_rfl, by kernel_rfl, by kernel_rfl, by kernel_rfl, by kernel_rfl, by kernel_rfl⟩ (Lib.laidMet.reads hL (.tail _ (.head _))) (Lib.laidMet.reads hL (.head _))

theorem walk (a0 : ByteArray) (w0 : a0.size ≤ maxLen) (w : World) (hT : Lib.Utf8Tabs 0 1 w) :
    Calls Tryd.prog 3 #[.string a0] w fun e w' => e = .returned (.bool true) ∧ Below w.heap.size w w' := by
  by_cases h : (1048576 : Int) < (a0.size : Int)
  · clear hT
    go_enter Tryd.func3, Tryd.ntmps3
    go_wp2_with fail
    go_ret
    exact ⟨rfl, Below.refl _ _⟩
  · have c4 := specTokens a0
    have c5 := implTokens a0
    have hl : (tokF a0).toks.length ≤ 20000 := by
      unfold tokF
      split
      · simp [Res.toks]
      · exact tokF_len a0 0 false 1 1 [] (by simp)
    obtain ⟨c, hc⟩ : ∃ c, (tokF a0).code = c := ⟨_, rfl⟩
    obtain ⟨q, hq⟩ : ∃ q, (tokF a0).place = q := ⟨_, rfl⟩
    obtain ⟨L, hL⟩ : ∃ L, (tokF a0).toks = L := ⟨_, rfl⟩
    rw [hc, hq, hL] at c4 c5
    rw [hL] at hl
    clear hc hq hL
    have HT : Hid (Lib.Utf8Tabs 0 1 w) := hT
    clear hT
    go_enter Tryd.func3, Tryd.ntmps3
    go_wp2_with (first
      | (go_at_call 4; go_must (refine (c4 _).mono ?_; rintro e w1 ⟨v0, rfl, ho0, hb1⟩))
      | (go_at_call 5; refine (c5 _ (fun W hW => Utf8Tabs_below HT.out (good_below (good_below hb1 hb5) hW))).mono ?_; rintro e w6 ⟨v2, rfl, ho2, hb6⟩)
      | (go_at_call 5; go_must (refine (c5 _ (fun W hW => Utf8Tabs_below HT.out (good_below hb1 hW))).mono ?_; rintro e w2 ⟨v1, rfl, ho1, hb2⟩))
      | (go_at_call 6; refine (lawEqS hl ho2 (ho0.below (good_below hb5 hb6))).mono ?_; rintro e w7 ⟨rfl, hb7⟩)
      | (go_at_call 6; go_must (refine (lawEqS hl ho1 (ho0.below hb2)).mono ?_; rintro e w3 ⟨rfl, hb3⟩))
      | (go_at_call 7; go_must (refine (lawMark hl (ho1.below hb3)).mono ?_; rintro e w4 ⟨rfl, hb4, hm4⟩))
      | (go_at_call 8; refine (lawHeld hl (hm5.below (good_below hb6 hb7))).mono ?_; rintro e w8 ⟨rfl, hb8⟩)
      | (go_at_call 8; go_must (refine (lawHeld hl hm4).mono ?_; rintro e w5 ⟨rfl, hb5'⟩; have hm5 := hm4.below hb5'; have hb5 := (good_below hb2 hb3).trans (hb4.trans (hb5'.mono (Nat.le_trans (good_below hb2 hb3).size hb4.size))))))
    go_ret
    exact ⟨rfl, good_below hb1 (good_below (good_below (good_below hb5 hb6) hb7) hb8)⟩

theorem contract (H : Type) (enc : TypeId × Value → H) (W : World) (base : Nat) (args : Array Value) (ds gs : List (DataW H)) (before : List MemPlace)
    (hval : ∀ (j : Nat) t v, Tryd.f3.params[j]? = some t → args[j]? = some v → Value.okWide Tryd.prog W .any base t v)
    (hW : DataW.Whole enc Tryd.prog Tryd.f3.params.toList Rows.fnExactTokensSpec.vars false W args.toList ds gs before) (hL : laidMetH Tryd.prog Rows.fnExactTokensRow.laid W) :
    Calls Tryd.prog 3 args W fun e W' => ∃ v, e = .returned v ∧ Rows.fnExactTokensSpec.post enc Tryd.prog Tryd.f3 false true false false W args v W' := by
  have hW' := hW
  obtain ⟨p, q, hA0, hV, rfl, hfz, hnd⟩ := hW
  have hA : DataW.TrodAll enc Tryd.prog W 0 (fun _ => true) true Tryd.f3.params.toList args.toList ds p := hA0
  rw [Tryd.params3] at hA hval
  obtain ⟨v0, vs0, d0, ds0, p0, q0, hargs, rfl, rfl, h0, r0⟩ := trodAll_cons hA
  obtain ⟨rfl, rfl, rfl⟩ := trodAll_nil r0
  obtain rfl : args = #[v0] := by cases args; simp_all
  obtain ⟨rfl, rfl⟩ := trodVars_none hV
  obtain ⟨a0, rfl, rfl, rfl, w0⟩ := open_string Tryd.underlying9 (hval 0 9 v0 rfl rfl) h0
  clear hA0
  refine (walk a0 w0 W (tabs hL)).mono fun e W' ⟨he, bel⟩ => ?_
  subst he
  exact ⟨_, rfl, _, _, _, [], [], [], hW', trodAll_mk1 (shut_bool Tryd.underlying4 _), (trodAll_cons_mk (shut_string Tryd.underlying9 w0) trodAll_mk0), rfl, bel.frame _, fun h => by cases h⟩

/-- A world for the witness: the settled one, the two tables as their initialisers lay them. -/
noncomputable def laidWorld (os : Os) : World :=
  let w0 := World.holding Tryd.prog os ⟨#[], #[], []⟩
  let put (h : Array Obj) (g : Nat) (cs : Array Value) : Array Obj := h.modify g fun
    | .cells _ t frozen => .cells cs t frozen
    | o => o
  let h1 := put w0.heap 0 (Lib.firstTab.map fun z => Value.int .u8 z).toArray
  let h2 := put h1 1 ((List.range 16).flatMap fun i => [Value.int .u8 (Lib.accLo i), Value.int .u8 (Lib.accHi i)]).toArray
  { w0 with heap := h2 }
theorem laid_met (os : Os) : laidMet Tryd.prog Rows.fnExactTokensRow.laid ((laidWorld os).forCall (fun _ _ => 0) ⟨#[], #[.string ByteArray.empty], []⟩).memory :=
  laidMet_of_run' 8 (by kernel_rfl) (by kernel_rfl)
theorem reads (os : Os) {H : Type} (enc : TypeId × Value → H) : ∃ places, DataW.whole enc Tryd.prog ((laidWorld os).forCall (fun _ _ => 0) ⟨#[], #[.string ByteArray.empty], []⟩).memory Tryd.f3.params.toList Rows.fnExactTokensSpec.vars false #[Value.string ByteArray.empty].toList 8 = some ([.lit (.string [])], [], places) :=
  ⟨[], by kernel_rfl⟩

set_option maxRecDepth 100000 in
theorem lifted (os : Os) (started : os.Started) (H : Type) (enc : TypeId × Value → H) (F : Stop.Interp) :
    ReturnsInHanded {} Tryd.checked os 3 .any ((OpenSpec.ofChange Rows.fnExactTokensSpec).preRow enc Tryd.prog Tryd.f3 Rows.fnExactTokensRow.domain false Rows.fnExactTokensRow.laid) (((OpenSpec.ofChange Rows.fnExactTokensSpec).at F).post enc Tryd.prog Tryd.f3 false true false false) := by
  obtain ⟨places, hx⟩ := reads os enc
  refine returnsInHanded_of_row (C := Tryd.checked) (s := OpenSpec.ofChange Rows.fnExactTokensSpec) own started (by kernel_rfl) Tryd.func3
    (witness_row_at (enc := enc) (C := Tryd.checked) false (laidWorld os) #[.string ByteArray.empty] rfl (by kernel_rfl) (by kernel_rfl) (by kernel_rfl)
      (OpenSpec.preRow_of_cond 8 hx (by kernel_rfl) (fun k hk => by cases hk) (by kernel_rfl) (laid_met os))) ?_
  intro W base args ds gs before hval hW _ _ _ hL _ _
  exact contract H enc W base args ds gs before hval hW hL

theorem said : Rows.FnExactTokensSaid :=
  OpenClaim.holds_of_cond 3 Tryd.f3 rfl rfl rfl rfl rfl rfl rfl ⟨rfl, rfl, rfl, rfl, rfl⟩ rfl rfl rfl rfl rfl (by kernel_rfl) Tryd.func3 (by kernel_rfl)
    (of_decide_eq_true (by kernel_rfl)) (by unfold Func.isWrapper; first | (rw [if_pos (by decide +kernel)]; kernel_rfl) | (rw [if_neg (by decide +kernel)]; exact ⟨rfl, rfl⟩))
    (fun os started H enc _ F => by rw [OpenClaim.pre_eq_preRow]; exact lifted os started H enc F)

/-- No parameter wants a stand-in; the program's own looks are off. -/
theorem plain (f : FuncId) (fn : Func) (hf : Tryd.pinned.checked.prog.funcNamed "loop.example/g00045/laws.FnExactTokens" = some f) (hfn : Tryd.pinned.checked.prog.funcs[f]? = some fn) :
    false = Tryd.pinned.checked.prog.looks [] ∧ ∀ (j : Nat) t, fn.params[j]? = some t → Tryd.pinned.checked.prog.wantsStandIn t = false := by
  obtain rfl : f = 3 := Option.some.inj ((show Tryd.prog.funcNamed "loop.example/g00045/laws.FnExactTokens" = some 3 by kernel_rfl).symm.trans hf) |>.symm
  obtain rfl : fn = Tryd.f3 := (Option.some.inj (Tryd.func3.symm.trans hfn)).symm
  refine ⟨by kernel_rfl, fun j t ht => ?_⟩
  rw [Tryd.params3] at ht
  have hm := Array.mem_of_getElem? ht
  simp only [List.mem_toArray, List.mem_cons, List.mem_nil_iff, or_false] at hm
  subst hm
  exact (show Tryd.prog.wantsStandIn 9 = false by kernel_rfl)

end Go.Proofs.YtomfaeggcmhcaaaDoor.fnExactTokens
namespace Go.Proofs.YtomfaeggcmhcaaaDoor
/-- The given statement: the tied card. -/
theorem tokens_holds : Rows.FnExactTokensCardSaid :=
  Claim7.holds_tied_plain_at .later [] _ _ _ _ fnExactTokens.said (fun _ h => by cases h) (by kernel_rfl) (fun _ h => by cases h) fnExactTokens_row_tie rfl ⟨rfl, rfl⟩ (by kernel_rfl) rfl fnExactTokens.plain (by kernel_rfl)
#print axioms tokens_holds
end Go.Proofs.YtomfaeggcmhcaaaDoor
