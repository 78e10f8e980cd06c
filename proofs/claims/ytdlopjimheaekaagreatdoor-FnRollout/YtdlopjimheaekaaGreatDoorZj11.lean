/-
  What spec's Validate answers: its walk. Tools: rows of bytes that a call owns: append, the conversions from and to a string, as steps of a walk. The number of a node: spec.l08Hash and impl.nodeNumber. Texts sorted and looked for, wherever their row lies. Stages as plain data: held against each other; rows of stages of one's own whose nodes lie elsewhere. No statement of the seat is proved here.
-/
import Derived.Test.YtdlopjimheaekaaGreatDoorZj10
import Derived.Test.YtdlopjimheaekaaGreatDoorRows
import Derived.WalkKit
import Derived.WalkSpells
import Derived.ProofKit
import Derived.Below
import Derived.Lib.ConvBytes
import Derived.Laws.IdiomStrings
import Derived.Laws.BytesArg
namespace Go.Proofs.YtdlopjimheaekaaGreatDoor
open Go.ChangeShapes Go.WideShapes Go.ChangeAt Go.RowKit
set_option linter.unusedVariables false
set_option linter.unusedSimpArgs false

/-- By which code a setting is at fault. -/
def codeK (l : List Rule) (t : ByteArray) : Option Nat → Int
  | none => 7
  | some k => match l[k]? with
    | some r => (fitP r t).2
    | none => 7
def setCode (l : List Rule) (s : Setting) : Int := codeK l s.text (ruleO l s.path)
def setFault (l : List Rule) (s : Setting) : Option Fault := if (setCode l s == 0) = true then none else some ⟨setCode l s, s.path, s.from'⟩
def lostB (O : List Setting) (r : Rule) : Bool := r.must && !(hasB (O.map Setting.path) r.path)
def lostP (l : List Rule) (O : List Setting) : List ByteArray := (l.filter (lostB O)).map Rule.path
def nameFault (p : ByteArray) : Fault := ⟨5, p, ⟨#[]⟩⟩
def faultsF (l : List Rule) (O : List Setting) : List Fault := O.filterMap (setFault l) ++ (sortB (lostP l O)).map nameFault
noncomputable def validL (l0 : List Rule) (l1 : List Layer) : List Fault := if bookC l0 l1 = 0 then faultsF l0 (laidF (overP l1)) else []
noncomputable def validC (l0 : List Rule) (l1 : List Layer) : Int := bookC l0 l1
theorem rows_apart {B B' k k' n m : Nat} {e e' : TypeId} {w : World} {v u : Value} {a b : List Value} (h : w.ownsRow B e k v n a) (h2 : w.ownsRow B' e' k' u m b) (hne : e ≠ e') : v.ownBlock = none ∨ v.ownBlock ≠ u.ownBlock := by
  rcases h.2 with ⟨rfl, _⟩ | ⟨g, cap, cur, rfl, _, hg, _⟩
  · exact .inl rfl
  · right
    rcases h2.2 with ⟨rfl, _⟩ | ⟨g', cap', cur', rfl, _, hg', _⟩
    · simp [Value.ownBlock]
    · intro e
      simp only [Value.ownBlock, Option.some.injEq] at e
      subst e
      rw [hg] at hg'
      simp at hg'
      exact hne hg'.2
theorem FaultsAt.newAt (w : World) (x : Int) (y z : ByteArray) (g : Nat) (hg : w.heap.size = g) : FaultsAt (fun b => b = g) (w.alloc (.cells #[.int .i64 x, .string y, .string z] 81)) (.slice (some ⟨g, 0, none⟩) 1 1) [⟨x, y, z⟩] := by
  subst hg; exact FaultsAt.new w x y z
theorem valid_len (l0 : List Rule) (l1 : List Layer) : (validL l0 l1).length ≤ 1000000 := by
  unfold validL
  rcases bookC_cases l0 l1 with hc | hc | ⟨hc, hA, hB⟩
  · rw [hc, if_neg (by decide)]; simp
  · rw [hc, if_neg (by decide)]; simp
  · rw [hc, if_pos rfl]
    unfold faultsF
    have h1 := filterMap_len (setFault l0) (laidF (overP l1))
    have h2 := laid_len hB
    have h3 := sortB_len (lostP l0 (laidF (overP l1)))
    have h4 : (lostP l0 (laidF (overP l1))).length ≤ l0.length := by unfold lostP; rw [List.length_map]; exact List.length_filter_le _ _
    have h5 : l0.length ≤ 100 := (rules_all hA).1
    simp only [List.length_append, List.length_map]
    omega
theorem take_fault {l : List Rule} {O : List Setting} {k : Nat} (hk : k < O.length) : (O.take (k + 1)).filterMap (setFault l) = (O.take k).filterMap (setFault l) ++ (setFault l O[k]).toList := by
  rw [List.take_succ_eq_append_getElem hk, List.filterMap_append]
  congr 1
set_option maxRecDepth 100000 in
set_option maxHeartbeats 16000000 in
theorem specValidate (T : World → Prop) : ValidateC 15 T validL validC := by
  intro S l0 l1 v0 v1 w hS h0 hl0 hok0 h1 hl1 hok1 hT
  clear hT
  obtain ⟨a1, cap1, hv1⟩ := h1.shape
  have m0 : (l0.length : Int) ≤ 1048576 := by omega
  have m1 : (l1.length : Int) ≤ 1048576 := by omega
  have HE : Hid (∀ W : World, OwnFaults W.heap.size (W.alloc (.cells #[] 81)) (.slice (some ⟨W.heap.size, 0, none⟩) 0 0) []) := fun W => OwnFaults.empty _ W (Nat.le_refl _)
  unfold validC
  by_cases b0 : 4096 < l0.length
  · have b0' : (4096 : Int) < (l0.length : Int) := by omega
    have hc : bookC l0 l1 = 2 := by unfold bookC; rw [if_pos (.inl b0)]
    have hv : validL l0 l1 = [] := by unfold validL; rw [hc, if_neg (by decide)]
    rw [hc, hv]
    obtain ⟨a0, cap0, hv0⟩ := h0.shape
    subst hv0 hv1
    clear h0 h1 hok0 hok1 hS hc hv
    go_enter Tryz.func15, Tryz.ntmps15
    go_wp2_with fail
    go_ret2
    exact ⟨⟨_, rfl, HE.out w⟩, (Below.refl _ w).alloc (Nat.le_refl _) _⟩
  have b0' : ¬ ((4096 : Int) < (l0.length : Int)) := by omega
  by_cases b1 : 4096 < l1.length
  · have b1' : (4096 : Int) < (l1.length : Int) := by omega
    have hc : bookC l0 l1 = 2 := by unfold bookC; rw [if_pos (.inr b1)]
    have hv : validL l0 l1 = [] := by unfold validL; rw [hc, if_neg (by decide)]
    rw [hc, hv]
    obtain ⟨a0, cap0, hv0⟩ := h0.shape
    subst hv0 hv1
    clear h0 h1 hok0 hok1 hS hc hv
    go_enter Tryz.func15, Tryz.ntmps15
    go_wp2_with fail
    go_ret2
    exact ⟨⟨_, rfl, HE.out w⟩, (Below.refl _ w).alloc (Nat.le_refl _) _⟩
  have b1' : ¬ ((4096 : Int) < (l1.length : Int)) := by omega
  have hcd : bookC l0 l1 = if rulesB l0 && layersB nameOK l1 then 0 else 1 := by unfold bookC; rw [if_neg (by omega)]
  have c0 := specRules hS h0 hok0
  have c1 := fun W (hW : Below w.heap.size w W) => specLayers (w := W) nameSpec (fun b hb => Nat.lt_of_lt_of_le (hS b hb) hW.size) (h1.keep (cells_below hS hW)) hok1
  cases hA : rulesB l0
  · have hc : bookC l0 l1 = 1 := by rw [hcd, hA]; rfl
    have hv : validL l0 l1 = [] := by unfold validL; rw [hc, if_neg (by decide)]
    rw [hc, hv]
    rw [hA] at c0
    obtain ⟨a0, cap0, hv0⟩ := h0.shape
    subst hv0 hv1
    clear h0 h1 hok0 hok1 hS hc hv hcd hA c1
    go_enter Tryz.func15, Tryz.ntmps15
    go_wp2_with (go_at_call 11; go_must (refine c0.mono ?_; rintro e w2 ⟨rfl, hb2⟩))
    go_ret2
    exact ⟨⟨_, rfl, OwnFaults.mono (HE.out w2) hb2.size⟩, hb2.alloc hb2.size _⟩
  rw [hA] at c0
  cases hB : layersB nameOK l1
  · have hc : bookC l0 l1 = 1 := by rw [hcd, hA, hB]; rfl
    have hv : validL l0 l1 = [] := by unfold validL; rw [hc, if_neg (by decide)]
    rw [hc, hv]
    rw [hB] at c1
    obtain ⟨a0, cap0, hv0⟩ := h0.shape
    subst hv0 hv1
    clear h0 h1 hok0 hok1 hS hc hv hcd hA hB
    go_enter Tryz.func15, Tryz.ntmps15
    go_wp2_with (first
      | (go_at_call 12; go_must (refine (c1 _ hb2).mono ?_; rintro e w3 ⟨rfl, hb3⟩; have hb23 := good_below hb2 hb3))
      | (go_at_call 11; go_must (refine c0.mono ?_; rintro e w2 ⟨rfl, hb2⟩)))
    go_ret2
    exact ⟨⟨_, rfl, OwnFaults.mono (HE.out w3) hb23.size⟩, hb23.alloc hb23.size _⟩
  rw [hB] at c1
  have hc : bookC l0 l1 = 0 := by rw [hcd, hA, hB]; rfl
  have hv : validL l0 l1 = faultsF l0 (laidF (overP l1)) := by unfold validL; rw [hc, if_pos rfl]
  rw [hc, hv]
  have hl100 : l0.length ≤ 100 := (rules_all hA).1
  have hl100' : (l0.length : Int) ≤ 100 := by omega
  have cm := fun W (hW : Below w.heap.size w W) => specMergeR (w := W) (fun b hb => Nat.lt_of_lt_of_le (hS b hb) hW.size) (h1.keep (cells_below hS hW)) hB
  have cr := fun W (hW : Below w.heap.size w W) p => specRule (w := W) (fun b hb => Nat.lt_of_lt_of_le (hS b hb) hW.size) (h0.keep (cells_below hS hW)) p
  have hfa := laid_fair hok1
  have hlen := laid_len hB
  obtain ⟨O, hO⟩ : ∃ O, laidF (overP l1) = O := ⟨_, rfl⟩
  rw [hO] at cm hfa hlen ⊢
  have HFA : Hid (Fair O) := hfa
  have hlen' : (O.length : Int) ≤ 2000 := by omega
  have HS : Hid (∀ b, S b → b < w.heap.size) := hS
  have HCR : Hid (∀ W (hW : Below w.heap.size w W) p, Calls Tryz.prog 41 #[v0, .string p] W fun e w' => e = .returned (.int .i64 (ruleN (ruleO l0 p))) ∧ w' = W) := cr
  obtain ⟨a0, cap0, cv, hv0, hcv, hrow⟩ := rules_cv h0
  have HCV : Hid (∀ k (hk : k < l0.length), TxtsAt S w (cv k) l0[k].choices) := hcv
  have HROW : Hid _ := hrow
  have HOK : Hid (∀ x ∈ l0, RulesOK 1048576 x) := hok0
  obtain ⟨PL, hPL⟩ : ∃ PL, faultsF l0 O = PL := ⟨_, rfl⟩
  rw [hPL]
  have HPL : Hid (faultsF l0 O = PL) := hPL
  subst hv0 hv1
  clear h0 h1 hok0 hok1 hS hA hB hO hfa hc hv hcd hcv hrow hPL cr
  go_enter Tryz.func15, Tryz.ntmps15
  go_wp2_with (first
    | (go_at_call 40; go_must (refine (cm _ hbE).mono ?_; rintro e w6 ⟨⟨pa, rfl, how6⟩, hb6⟩; have hb6' := good_below hbE hb6; obtain ⟨aa, ac, hav, -⟩ := how6.value; subst hav; have hof6 := OwnFaults.below (HE.out w3) hb6))
    | (go_at_call 12; go_must (refine (c1 _ hb2).mono ?_; rintro e w3 ⟨rfl, hb3⟩; have hb3' := good_below hb2 hb3; have hbE := hb3'.alloc hb3'.size (.cells #[] 81)))
    | (go_at_call 11; go_must (refine c0.mono ?_; rintro e w2 ⟨rfl, hb2⟩)))
  have b36 : Below w3.heap.size w3 w6 := good_below ((Below.refl _ w3).alloc (Nat.le_refl _) _) hb6
  have hs36 := b36.size
  have HB3 : Hid (Below w.heap.size w w3) := hb3'
  have b67 : Below w6.heap.size w6 (w6.alloc (.cells #[] 9)) := (Below.refl _ w6).alloc (Nat.le_refl _) _
  have HOS : Hid (OwnSettings w3.heap.size (w6.alloc (.cells #[] 9)) (.slice aa O.length ac) O) := OwnSettings.below (OwnSettings.mono how6 (by simp)) b67
  have HOF : Hid (OwnFaults w3.heap.size (w6.alloc (.cells #[] 9)) (.slice (some ⟨w3.heap.size, 0, none⟩) 0 0) []) := OwnFaults.below hof6 b67
  have HOT : Hid (OwnTxts w3.heap.size (w6.alloc (.cells #[] 9)) (.slice (some ⟨w6.heap.size, 0, none⟩) 0 0) []) := OwnTxts.empty w3.heap.size w6 hs36
  have HB7 : Hid (Below w3.heap.size w3 (w6.alloc (.cells #[] 9))) := b36.alloc hs36 _
  clear c0 c1 cm hb2 hb3 hb3' hbE hb6 hb6' how6 hof6 b36 b67
  go_loopw [6, 8, 9] (fun i6 i8 i9 wr => ∃ (k : Nat) (fa : Option Addr) (fc : Nat) (ta : Option Addr) (tc : Nat) (out : List Fault), i9 = .int .i64 (k : Int) ∧ i6 = .slice fa out.length fc ∧ i8 = .slice ta k tc ∧ k ≤ O.length ∧ out = (O.take k).filterMap (setFault l0) ∧ OwnFaults w3.heap.size wr (.slice fa out.length fc) out ∧ OwnTxts w3.heap.size wr (.slice ta k tc) ((O.map Setting.path).take k) ∧ OwnSettings w3.heap.size wr (.slice aa O.length ac) O ∧ Below w3.heap.size w3 wr) (fun _ _ i9 _ => O.length - (intOf i9).toNat)
  case atStart => exact ⟨0, _, 0, _, 0, [], rfl, rfl, rfl, by omega, rfl, HOF.out, HOT.out, HOS.out, HB7.out⟩
  case round =>
    obtain ⟨k, fa, fc, ta, tc, out, rfl, rfl, rfl, hk, hout, hof, hot, hos, hb⟩ := hrel
    have hbs := hb.size
    have hol : out.length ≤ 2000 := by
      have := filterMap_len (setFault l0) (O.take k)
      rw [← hout, List.length_take] at this
      omega
    have HOUT : Hid (out = (O.take k).filterMap (setFault l0)) := hout
    have HF : Hid (OwnFaults w3.heap.size wr (.slice fa out.length fc) out) := hof
    have HT : Hid (OwnTxts w3.heap.size wr (.slice ta k tc) ((O.map Setting.path).take k)) := hot
    have HO : Hid (OwnSettings w3.heap.size wr (.slice aa O.length ac) O) := hos
    have HBR : Hid (Below w3.heap.size w3 wr) := hb
    clear hout hof hot hos
    by_cases hkn : k < O.length
    · have hkn' : (k : Int) < (O.length : Int) := by omega
      have hsc : ∀ W, OwnSettings w3.heap.size W (.slice aa O.length ac) O → ∃ g, aa = some ⟨g, 0, none⟩ ∧ g < W.heap.size ∧ W.cell? ⟨g, k * 3, none⟩ = some (.string O[k].path) ∧ W.cell? ⟨g, k * 3 + 1, none⟩ = some (.string O[k].text) ∧ W.cell? ⟨g, k * 3 + 2, none⟩ = some (.string O[k].from') := fun W hW => by
        obtain ⟨_, _, hva, -, hca⟩ := hW.value
        simp only [Value.slice.injEq] at hva
        obtain ⟨rfl, -, rfl⟩ := hva
        obtain ⟨g, rfl, -, hg, hcell⟩ := hca (by omega)
        exact ⟨g, rfl, hg, hcell k hkn⟩
      have hfz := HFA.out O[k] (List.getElem_mem hkn)
      have htk : (O.map Setting.path).take (k + 1) = (O.map Setting.path).take k ++ [O[k].path] := by
        rw [List.take_succ_eq_append_getElem (by simpa using hkn)]
        simp
      have hfk := take_fault (l := l0) hkn
      rw [← HOUT.out] at hfk
      obtain ⟨x, hx⟩ : ∃ x, O[k] = x := ⟨_, rfl⟩
      rw [hx] at hsc hfz htk hfk
      obtain ⟨sp, st, sf⟩ := x
      dsimp only at hsc hfz htk
      obtain ⟨g, rfl, hg, d0, d1, d2⟩ := hsc wr HO.out
      have HSC : Hid (∀ W, OwnSettings w3.heap.size W (.slice (some ⟨g, 0, none⟩) O.length ac) O → W.cell? ⟨g, k * 3, none⟩ = some (.string sp) ∧ W.cell? ⟨g, k * 3 + 1, none⟩ = some (.string st) ∧ W.cell? ⟨g, k * 3 + 2, none⟩ = some (.string sf) ∧ g < W.heap.size) := fun W hW => by
        obtain ⟨g', e, hg', q⟩ := hsc W hW
        simp only [Option.some.injEq, Addr.mk.injEq, and_true] at e
        subst e
        exact ⟨q.1, q.2.1, q.2.2, hg'⟩
      have HTK : Hid ((O.map Setting.path).take (k + 1) = (O.map Setting.path).take k ++ [sp]) := htk
      have HFK : Hid ((O.take (k + 1)).filterMap (setFault l0) = out ++ (setFault l0 ⟨sp, st, sf⟩).toList) := hfk
      have ht1 := hfz.2.1
      clear hsc hx htk hfk hfz
      have bA : Below wr.heap.size wr (wr.alloc (.cells #[.string sp] 9)) := (Below.refl _ wr).alloc (Nat.le_refl _) _
      have HBA : Hid (Below wr.heap.size wr (wr.alloc (.cells #[.string sp] 9))) := bA
      have HTA : Hid (OwnTxts w3.heap.size (wr.alloc (.cells #[.string sp] 9)) (.slice ta k tc) ((O.map Setting.path).take k)) := OwnTxts.below HT.out bA
      have HFAp : Hid (OwnFaults w3.heap.size (wr.alloc (.cells #[.string sp] 9)) (.slice fa out.length fc) out) := OwnFaults.below HF.out bA
      have HOA : Hid (OwnSettings w3.heap.size (wr.alloc (.cells #[.string sp] 9)) (.slice (some ⟨g, 0, none⟩) O.length ac) O) := OwnSettings.below HO.out bA
      clear bA hb
      go_upto_region 12 with (at_builtin; go_must (refine wpList_appendTxts rfl (.tmp 43) (.tmp 49) rfl w3.heap.size (.slice ta k tc) ((O.map Setting.path).take k) rfl HTA.out _ [sp] rfl (TxtsAt.newAt _ sp _ (by simp)) (by simp <;> omega) (by simp only [World.size_alloc]; omega) ?_; intro v9 w9 hown9 hB9 hgr9 hnil9; obtain ⟨a9, c9, e9, -⟩ := hown9.value; have hl9 : ((O.map Setting.path).take k ++ [sp]).length = k + 1 := (by simp <;> omega); rw [hl9] at e9; subst e9))
      have hof9 := OwnFaults.kept HFAp.out hgr9 (rows_apart HFAp.out HTA.out (by decide))
      have hos9 := OwnSettings.kept HOA.out hgr9 (rows_apart HOA.out HTA.out (by decide))
      have hb9 : Below w3.heap.size w3 w9 := (HBR.out.alloc hbs _).trans hB9
      have hs9 := hb9.size
      have hbw9 := good_below HB3.out hb9
      obtain ⟨e0, e1, e2, hg9⟩ := HSC.out w9 hos9
      have HF9 : Hid (OwnFaults w3.heap.size w9 (.slice fa out.length fc) out) := hof9
      have HO9 : Hid (OwnSettings w3.heap.size w9 (.slice (some ⟨g, 0, none⟩) O.length ac) O) := hos9
      have HT9 : Hid (OwnTxts w3.heap.size w9 (.slice a9 (k + 1) c9) ((O.map Setting.path).take (k + 1))) := by rw [HTK.out]; exact hown9
      have HB9 : Hid (Below w3.heap.size w3 w9) := hb9
      have HW9 : Hid (Below w.heap.size w w9) := hbw9
      have cr := HCR.out w9 hbw9 sp
      clear hof9 hos9 hown9 hB9 hgr9 hb9 hbw9 d0 d1 d2
      cases hK : ruleO l0 sp with
      | none =>
        rw [hK] at cr
        unfold ruleN at cr
        have hsf : setFault l0 ⟨sp, st, sf⟩ = some ⟨7, sp, sf⟩ := by unfold setFault setCode; rw [hK]; rfl
        have hfk := HFK.out
        rw [hsf] at hfk
        have HFK2 : Hid ((O.take (k + 1)).filterMap (setFault l0) = out ++ [⟨7, sp, sf⟩]) := hfk
        clear hK hsf hfk HFK
        go_upto_region 17 with (go_at_call 41; go_must (refine cr.mono ?_; rintro e w4 ⟨rfl, rfl⟩))
        go_region_law (refine step_appendFaults rfl (.tmp 75) (.tmp 88) rfl w3.heap.size (.slice fa out.length fc) out (by simp [Act.eval]) (OwnFaults.below HF9.out (((Below.refl _ w4).alloc (Nat.le_refl _) _).drew)) (.slice (some ⟨w4.heap.size, 0, none⟩) 1 1) [⟨7, sp, sf⟩] (by simp [Act.eval]) ((FaultsAt.new w4 7 sp sf).keep (fun b i _ => rfl)) (by simp; omega) (by simp; omega) ?_; intro va vn vc w5 hown5 hB5 hgr5 hnil5; obtain ⟨a5, c5, e5, -⟩ := hown5.value; simp only [Value.slice.injEq] at e5; obtain ⟨rfl, rfl, rfl⟩ := e5; have hB5' := ((HB9.out.alloc hs9 (.cells #[.int .i64 7, .string sp, .string sf] 81)).drew).trans hB5; have hk5 : Below w4.heap.size w4 ((w4.alloc (.cells #[.int .i64 7, .string sp, .string sf] 81)).drew) := (((Below.refl _ w4).alloc (Nat.le_refl _) _).drew); have ht5 := (OwnTxts.below HT9.out hk5).kept hgr5 (rows_apart (OwnTxts.below HT9.out hk5) (OwnFaults.below HF9.out hk5) (by decide)); have ho5 := (OwnSettings.below HO9.out hk5).kept hgr5 (rows_apart (OwnSettings.below HO9.out hk5) (OwnFaults.below HF9.out hk5) (by decide)))
        all_goals (go_wp2_with fail; exact ⟨⟨k + 1, va, vc, a9, c9, out ++ [⟨7, sp, sf⟩], by go_num, by simp, by go_num, by omega, HFK2.out.symm, by simpa using hown5, ht5, ho5, hB5'⟩, by simp [intOf]; omega⟩)
      | some i =>
        rw [hK] at cr
        unfold ruleN at cr
        have hil := rule_lt hK
        have hil' : (i : Int) < (l0.length : Int) := by omega
        have hcode : setCode l0 ⟨sp, st, sf⟩ = (fitP l0[i] st).2 := by unfold setCode codeK; simp only [hK, List.getElem?_eq_getElem hil]
        have hsf : setFault l0 ⟨sp, st, sf⟩ = if ((fitP l0[i] st).2 == 0) = true then none else some ⟨(fitP l0[i] st).2, sp, sf⟩ := by unfold setFault; rw [hcode]
        obtain ⟨b, off, rfl, hbS, hrc⟩ := HROW.out (by omega)
        have hbw := HS.out b hbS
        obtain ⟨c_0, c_1, c_2, c_3, c_5, c_6, c_4⟩ := hrc i hil
        have hnv := HCV.out i hil
        obtain ⟨x, hx⟩ : ∃ x, l0[i] = x := ⟨_, rfl⟩
        rw [hx] at c_0 c_1 c_2 c_3 c_5 c_6 hnv hsf
        obtain ⟨nv, hnve⟩ : ∃ nv, cv i = nv := ⟨_, rfl⟩
        rw [hnve] at c_4 hnv
        obtain ⟨xp, xk, xi, xa, xc, xm, xd⟩ := x
        dsimp only at c_0 c_1 c_2 c_3 c_5 c_6 hnv
        have cf := fun W (hW : Below w.heap.size w W) => specFit (w := W) ⟨xp, xk, xi, xa, xc, xm, xd⟩ nv (fun b hb => Nat.lt_of_lt_of_le (HS.out b hb) hW.size) (hnv.keep (cells_below HS.out hW)) st ht1
        unfold rVal at cf
        obtain ⟨FV, hFV⟩ : ∃ FV, fitP ⟨xp, xk, xi, xa, xc, xm, xd⟩ st = FV := ⟨_, rfl⟩
        rw [hFV] at cf hsf
        obtain ⟨f1, f2⟩ := FV
        dsimp only at cf hsf
        have HSF : Hid (setFault l0 ⟨sp, st, sf⟩ = if (f2 == 0) = true then none else some ⟨f2, sp, sf⟩) := hsf
        have yA : ∀ N : GoodW (fun W => Below w9.heap.size w9 W), N.W.cell? ⟨g, k * 3 + 1, none⟩ = some (.string st) := fun N => (N.ok.cell (p := ⟨g, k * 3 + 1, none⟩) hg9).trans e1
        have hww : ∀ N : GoodW (fun W => Below w9.heap.size w9 W), Below w.heap.size w N.W := fun N => good_below HW9.out N.ok
        have y_0 := fun N => ((hww N).cell (p := ⟨b, off + i * 7, none⟩) hbw).trans c_0
        have y_1 := fun N => ((hww N).cell (p := ⟨b, off + i * 7 + 1, none⟩) hbw).trans c_1
        have y_2 := fun N => ((hww N).cell (p := ⟨b, off + i * 7 + 2, none⟩) hbw).trans c_2
        have y_3 := fun N => ((hww N).cell (p := ⟨b, off + i * 7 + 3, none⟩) hbw).trans c_3
        have y_4 := fun N => ((hww N).cell (p := ⟨b, off + i * 7 + 4, none⟩) hbw).trans c_4
        have y_5 := fun N => ((hww N).cell (p := ⟨b, off + i * 7 + 5, none⟩) hbw).trans c_5
        have y_6 := fun N => ((hww N).cell (p := ⟨b, off + i * 7 + 6, none⟩) hbw).trans c_6
        have cf1 := fun N : GoodW (fun W => Below w9.heap.size w9 W) => cf N.W (hww N)
        have HE0 : Hid (w9.cell? ⟨g, k * 3, none⟩ = some (.string sp)) := e0
        have HE2 : Hid (w9.cell? ⟨g, k * 3 + 2, none⟩ = some (.string sf)) := e2
        clear hrc hx hnve hFV hsf hcode hK cf hww c_0 c_1 c_2 c_3 c_4 c_5 c_6 hnv e2
        go_upto_region 15 with (go_at_call 41; go_must (refine cr.mono ?_; rintro e w4 ⟨rfl, rfl⟩))
        haveI ne1 : Nonempty (GoodW (fun W => Below w4.heap.size w4 W)) := ⟨⟨_, Below.refl _ w4⟩⟩
        refine wp_region_calm (fun W => Below w4.heap.size w4 W) (by kernel_rfl) (by kernel_rfl) (Below.refl _ w4).drew ?_
        repeat (go_big_quiet_step ((go_at_call 37; exact Calls.calm _ (fun w2 hb => good_below (GoodW.ok _) hb) (cf1 _))))
        refine wpQuiet_nil ?_
        rintro WA ⟨⟨XA, hXA⟩, hEA⟩
        have hWA : Below w4.heap.size w4 WA := by rw [hEA]; exact hXA
        clear hEA hXA XA cf1 y_0 y_1 y_2 y_3 y_4 y_5 y_6 yA
        have i0 := (hWA.cell (p := ⟨g, k * 3, none⟩) hg9).trans HE0.out
        have i2 := (hWA.cell (p := ⟨g, k * 3 + 2, none⟩) hg9).trans HE2.out
        have HFX : Hid (OwnFaults w3.heap.size WA (.slice fa out.length fc) out) := OwnFaults.below HF9.out hWA
        have HOX : Hid (OwnSettings w3.heap.size WA (.slice (some ⟨g, 0, none⟩) O.length ac) O) := OwnSettings.below HO9.out hWA
        have HTX : Hid (OwnTxts w3.heap.size WA (.slice a9 (k + 1) c9) ((O.map Setting.path).take (k + 1))) := OwnTxts.below HT9.out hWA
        have HBX : Hid (Below w3.heap.size w3 WA) := good_below HB9.out hWA
        have hsX := HBX.out.size
        clear hWA e0 e1
        cases hf : (f2 == 0)
        · have hsf := HSF.out
          rw [hf, if_neg (by simp)] at hsf
          have hfk := HFK.out
          rw [hsf] at hfk
          have HFK2 : Hid ((O.take (k + 1)).filterMap (setFault l0) = out ++ [⟨f2, sp, sf⟩]) := hfk
          clear hsf hfk HFK HSF
          go_upto_region 17 with fail
          go_region_law (refine step_appendFaults rfl (.tmp 75) (.tmp 88) rfl w3.heap.size (.slice fa out.length fc) out (by simp [Act.eval]) (OwnFaults.below HFX.out (((Below.refl _ WA).alloc (Nat.le_refl _) _).drew)) (.slice (some ⟨WA.heap.size, 0, none⟩) 1 1) [⟨f2, sp, sf⟩] (by simp [Act.eval]) ((FaultsAt.new WA f2 sp sf).keep (fun b i _ => rfl)) (by simp; omega) (by simp; omega) ?_; intro va vn vc w5 hown5 hB5 hgr5 hnil5; obtain ⟨a5, c5, e5, -⟩ := hown5.value; simp only [Value.slice.injEq] at e5; obtain ⟨rfl, rfl, rfl⟩ := e5; have hB5' := ((HBX.out.alloc hsX (.cells #[.int .i64 f2, .string sp, .string sf] 81)).drew).trans hB5; have hk5 : Below WA.heap.size WA ((WA.alloc (.cells #[.int .i64 f2, .string sp, .string sf] 81)).drew) := (((Below.refl _ WA).alloc (Nat.le_refl _) _).drew); have ht5 := (OwnTxts.below HTX.out hk5).kept hgr5 (rows_apart (OwnTxts.below HTX.out hk5) (OwnFaults.below HFX.out hk5) (by decide)); have ho5 := (OwnSettings.below HOX.out hk5).kept hgr5 (rows_apart (OwnSettings.below HOX.out hk5) (OwnFaults.below HFX.out hk5) (by decide)))
          all_goals (go_wp2_with fail; exact ⟨⟨k + 1, va, vc, a9, c9, out ++ [⟨f2, sp, sf⟩], by go_num, by simp, by go_num, by omega, HFK2.out.symm, by simpa using hown5, ht5, ho5, hB5'⟩, by simp [intOf]; omega⟩)
        · have hsf := HSF.out
          rw [hf, if_pos rfl] at hsf
          have hfk := HFK.out
          rw [hsf] at hfk
          have hfk2 : (O.take (k + 1)).filterMap (setFault l0) = out := by simpa using hfk
          have HFK2 : Hid ((O.take (k + 1)).filterMap (setFault l0) = out) := hfk2
          have hf0 : f2 = 0 := by simpa using hf
          subst hf0
          clear hsf hfk HFK HSF
          go_wp2_with fail
          exact ⟨⟨k + 1, fa, fc, a9, c9, out, by go_num, rfl, by go_num, by omega, HFK2.out.symm, HFX.out, HTX.out, HOX.out, HBX.out⟩, by simp [intOf]; omega⟩
    · obtain rfl : k = O.length := by omega
      have hkn' : ¬ ((O.length : Int) < (O.length : Int)) := by omega
      have hout := HOUT.out
      rw [List.take_length] at hout
      have hot := HT.out
      rw [List.take_of_length_le (by simp)] at hot
      have HOT2 : Hid (OwnTxts w3.heap.size wr (.slice ta O.length tc) (O.map Setting.path)) := hot
      have HOUT2 : Hid (out = O.filterMap (setFault l0)) := hout
      have HLE : Hid (OwnTxts wr.heap.size (wr.alloc (.cells #[] 9)) (.slice (some ⟨wr.heap.size, 0, none⟩) 0 0) []) := OwnTxts.empty wr.heap.size wr (Nat.le_refl _)
      have HBR2 : Hid (Below w.heap.size w wr) := good_below HB3.out hb
      clear hout hot HOUT HT
      obtain ⟨w8, hw8⟩ : ∃ w8, w8 = wr := ⟨_, rfl⟩
      subst hw8
      go_wp2_with fail
      go_loopw [12, 13] (fun i12 i13 wr => ∃ (j : Nat) (la : Option Addr) (lc : Nat) (L : List ByteArray), i13 = .int .i64 (j : Int) ∧ i12 = .slice la L.length lc ∧ j ≤ l0.length ∧ L = ((l0.take j).filter (lostB O)).map Rule.path ∧ OwnTxts w8.heap.size wr (.slice la L.length lc) L ∧ Below w8.heap.size w8 wr) (fun _ i13 _ => l0.length - (intOf i13).toNat)
      case atStart => exact ⟨0, _, 0, [], rfl, rfl, by omega, rfl, HLE.out, (Below.refl _ w8).alloc (Nat.le_refl _) _⟩
      case round =>
        obtain ⟨j, la, lc, L, rfl, rfl, hj, hL, hol2, hb8⟩ := hrel
        have HL : Hid (L = ((l0.take j).filter (lostB O)).map Rule.path) := hL
        have hLl : L.length ≤ 100 := by
          rw [hL, List.length_map]
          have := List.length_filter_le (lostB O) (l0.take j)
          rw [List.length_take] at this
          omega
        have HOL : Hid (OwnTxts w8.heap.size wr (.slice la L.length lc) L) := hol2
        have HB8 : Hid (Below w8.heap.size w8 wr) := hb8
        have hbs8 := hb8.size
        clear hL hol2
        by_cases hjn : j < l0.length
        · have hjn' : (j : Int) < (l0.length : Int) := by omega
          obtain ⟨b, off, rfl, hbS, hrc⟩ := HROW.out (by omega)
          have hbw := HS.out b hbS
          have hw8r := good_below HBR2.out hb8
          have r0 := (hw8r.cell (p := ⟨b, off + j * 7, none⟩) hbw).trans (hrc j hjn).1
          have r5 := (hw8r.cell (p := ⟨b, off + j * 7 + 5, none⟩) hbw).trans (hrc j hjn).2.2.2.2.1
          have htk : ((l0.take (j + 1)).filter (lostB O)).map Rule.path = ((l0.take j).filter (lostB O)).map Rule.path ++ (if lostB O l0[j] then [l0[j].path] else []) := by
            rw [List.take_succ_eq_append_getElem hjn, List.filter_append, List.map_append]
            congr 1
            cases hq : lostB O l0[j] <;> simp [hq]
          rw [← HL.out] at htk
          have hlb : lostB O l0[j] = (l0[j].must && !(hasB (O.map Setting.path) l0[j].path)) := rfl
          obtain ⟨x, hx⟩ : ∃ x, l0[j] = x := ⟨_, rfl⟩
          rw [hx] at r0 r5 htk hlb
          obtain ⟨xp, xk, xi, xa, xc, xm, xd⟩ := x
          dsimp only at r0 r5 hlb htk
          rw [hlb] at htk
          obtain ⟨_, _, htv, -, htc⟩ := (OwnTxts.below HOT2.out hb8).value
          rw [List.length_map] at htv
          simp only [Value.slice.injEq] at htv
          obtain ⟨rfl, -, rfl⟩ := htv
          have ch := specHas (O.map Setting.path) xp ta tc wr (by simp; omega) (fun h0 => by
            obtain ⟨g, e, -, hg, hc⟩ := htc h0
            exact ⟨g, e, fun j hj => by simpa using hc j hj⟩)
          rw [List.length_map] at ch
          obtain ⟨HBx, hHB⟩ : ∃ HBx, hasB (O.map Setting.path) xp = HBx := ⟨_, rfl⟩
          rw [hHB] at ch htk
          have HTK : Hid (((l0.take (j + 1)).filter (lostB O)).map Rule.path = L ++ (if (xm && !HBx) = true then [xp] else [])) := htk
          clear hrc hx hlb htk hHB htc hw8r
          cases xm
          · have htk := HTK.out
            simp at htk
            have htk2 : ((l0.take (j + 1)).filter (lostB O)).map Rule.path = L := by simpa using htk
            have HTK2 : Hid (((l0.take (j + 1)).filter (lostB O)).map Rule.path = L) := htk2
            clear htk ch htk2
            go_wp2_with fail
            exact ⟨⟨j + 1, la, lc, L, by go_num, rfl, by omega, HTK2.out.symm, HOL.out, HB8.out⟩, by simp [intOf]; omega⟩
          · cases HBx
            · have HTK2 : Hid (((l0.take (j + 1)).filter (lostB O)).map Rule.path = L ++ [xp]) := HTK.out
              go_wp2_with (first
                | (go_at_call 17; go_must (refine ch.mono ?_; rintro e w4 ⟨rfl, rfl⟩))
                | (at_builtin; go_must (refine wpList_appendTxts rfl (.tmp 112) (.tmp 118) rfl w8.heap.size (.slice la L.length lc) L rfl (OwnTxts.below HOL.out ((Below.refl _ wr).alloc (Nat.le_refl _) _)) _ [xp] rfl (TxtsAt.newAt _ xp _ (by simp)) (by simp <;> omega) (by simp only [World.size_alloc]; omega) ?_; intro v9 w9 hown9 hB9 hgr9 hnil9; obtain ⟨a9, c9, e9, -⟩ := hown9.value; have hl9 : (L ++ [xp]).length = L.length + 1 := (by simp); rw [hl9] at e9; subst e9)))
              exact ⟨⟨j + 1, a9, c9, L ++ [xp], by go_num, by simp, by omega, HTK2.out.symm, by simpa using hown9, (HB8.out.alloc hbs8 _).trans hB9⟩, by simp [intOf]; omega⟩
            · have htk2 : ((l0.take (j + 1)).filter (lostB O)).map Rule.path = L := by simpa using HTK.out
              have HTK2 : Hid (((l0.take (j + 1)).filter (lostB O)).map Rule.path = L) := htk2
              clear htk2
              go_wp2_with (go_at_call 17; go_must (refine ch.mono ?_; rintro e w4 ⟨rfl, rfl⟩))
              exact ⟨⟨j + 1, la, lc, L, by go_num, rfl, by omega, HTK2.out.symm, HOL.out, HB8.out⟩, by simp [intOf]; omega⟩
        · obtain rfl : j = l0.length := by omega
          have hjn' : ¬ ((l0.length : Int) < (l0.length : Int)) := by omega
          have hL := HL.out
          rw [List.take_length] at hL
          have hL2 : L = lostP l0 O := hL
          have cs := specSort (OwnTxts.toS HOL.out) (by omega)
          have hsl := sortB_len L
          obtain ⟨SL, hSL⟩ : ∃ SL, sortB L = SL := ⟨_, rfl⟩
          rw [hSL] at cs hsl
          have HSL : Hid (faultsF l0 O = out ++ SL.map nameFault) := by
            unfold Hid faultsF
            rw [← hL2, hSL, HOUT2.out]
          have hsl' : (SL.length : Int) ≤ 100 := by omega
          have HF8 : Hid (OwnFaults w3.heap.size wr (.slice fa out.length fc) out) := OwnFaults.below HF.out hb8
          have HBZ : Hid (Below w3.heap.size w3 wr) := HBR.out.trans (hb8.mono hbs)
          clear hL hL2 hSL HL HOL
          obtain ⟨wz, hwz⟩ : ∃ wz, wz = wr := ⟨_, rfl⟩
          subst hwz
          go_wp2_with (go_at_call 13; go_must (refine cs.mono ?_; rintro e w9 ⟨⟨ps, rfl, hos⟩, hb9⟩; have hot := hos.toT; obtain ⟨sa, sc, hsv, -⟩ := hot.value; subst hsv))
          have HSO : Hid (OwnTxts wz.heap.size w9 (.slice sa SL.length sc) SL) := hot
          have HF9 : Hid (OwnFaults w3.heap.size w9 (.slice fa out.length fc) out) := OwnFaults.below HF8.out hb9
          have HB9 : Hid (Below w3.heap.size w3 w9) := HBZ.out.trans (hb9.mono HBZ.out.size)
          clear cs hos hot hb9 HF8 HF
          go_loopw [6, 14] (fun i6 i14 wr => ∃ (m : Nat) (ga : Option Addr) (gc : Nat) (acc : List Fault), i14 = .int .i64 (m : Int) ∧ i6 = .slice ga acc.length gc ∧ m ≤ SL.length ∧ acc = out ++ (SL.take m).map nameFault ∧ OwnFaults w3.heap.size wr (.slice ga acc.length gc) acc ∧ OwnTxts wz.heap.size wr (.slice sa SL.length sc) SL ∧ Below w3.heap.size w3 wr) (fun _ i14 _ => SL.length - (intOf i14).toNat)
          case atStart => exact ⟨0, fa, fc, out, rfl, rfl, by omega, by simp, HF9.out, HSO.out, HB9.out⟩
          case round =>
            obtain ⟨m, ga, gc, acc, rfl, rfl, hm, hacc, hofa, hosa, hbz⟩ := hrel
            have HACC : Hid (acc = out ++ (SL.take m).map nameFault) := hacc
            have hal : acc.length ≤ 2100 := by
              rw [hacc]
              simp only [List.length_append, List.length_map, List.length_take]
              omega
            have hsz := hbz.size
            have HBZ2 : Hid (Below w3.heap.size w3 wr) := hbz
            have HFZ : Hid (OwnFaults w3.heap.size wr (.slice ga acc.length gc) acc) := hofa
            have HSZ : Hid (OwnTxts wz.heap.size wr (.slice sa SL.length sc) SL) := hosa
            clear hacc hofa hosa hbz
            by_cases hmn : m < SL.length
            · have hmn' : (m : Int) < (SL.length : Int) := by omega
              obtain ⟨_, _, htv, -, htc⟩ := HSZ.out.value
              simp only [Value.slice.injEq] at htv
              obtain ⟨rfl, -, rfl⟩ := htv
              obtain ⟨g, rfl, -, hg, hcell⟩ := htc (by omega)
              have d0 := hcell m hmn
              have htk : out ++ (SL.take (m + 1)).map nameFault = (out ++ (SL.take m).map nameFault) ++ [nameFault SL[m]] := by
                rw [List.take_succ_eq_append_getElem hmn, List.map_append, List.append_assoc]
                rfl
              rw [← HACC.out] at htk
              obtain ⟨x, hx⟩ : ∃ x, SL[m] = x := ⟨_, rfl⟩
              rw [hx] at d0 htk
              have HTK : Hid (out ++ (SL.take (m + 1)).map nameFault = acc ++ [⟨5, x, ⟨#[]⟩⟩]) := htk
              have bA : Below wr.heap.size wr (wr.alloc (.cells #[.int .i64 5, .string x, .string ⟨#[]⟩] 81)) := (Below.refl _ wr).alloc (Nat.le_refl _) _
              have HFA2 : Hid (OwnFaults w3.heap.size (wr.alloc (.cells #[.int .i64 5, .string x, .string ⟨#[]⟩] 81)) (.slice ga acc.length gc) acc) := OwnFaults.below HFZ.out bA
              have HSA2 : Hid (OwnTxts wz.heap.size (wr.alloc (.cells #[.int .i64 5, .string x, .string ⟨#[]⟩] 81)) (.slice (some ⟨g, 0, none⟩) SL.length sc) SL) := OwnTxts.below HSZ.out bA
              clear hcell htc hx htk bA
              go_wp2_with (at_builtin; go_must (refine wpList_appendFaults rfl (.tmp 128) (.tmp 134) rfl w3.heap.size (.slice ga acc.length gc) acc rfl HFA2.out _ [⟨5, x, ⟨#[]⟩⟩] rfl (FaultsAt.newAt _ 5 x ⟨#[]⟩ _ (by simp)) (by simp <;> omega) (by simp only [World.size_alloc]; omega) ?_; intro v9 wy hown9 hB9 hgr9 hnil9; obtain ⟨a9, c9, e9, -⟩ := hown9.value; have hl9 : (acc ++ [(⟨5, x, ⟨#[]⟩⟩ : Fault)]).length = acc.length + 1 := (by simp); rw [hl9] at e9; subst e9))
              exact ⟨⟨m + 1, a9, c9, acc ++ [⟨5, x, ⟨#[]⟩⟩], by go_num, by simp, by omega, HTK.out.symm, by simpa using hown9, OwnTxts.kept HSA2.out hgr9 (rows_apart HSA2.out HFA2.out (by decide)), (HBZ2.out.alloc hsz _).trans hB9⟩, by simp [intOf]; omega⟩
            · obtain rfl : m = SL.length := by omega
              have hmn' : ¬ ((SL.length : Int) < (SL.length : Int)) := by omega
              have hacc := HACC.out
              rw [List.take_length, ← HSL.out, HPL.out] at hacc
              subst hacc
              go_wp2_with fail
              go_ret2
              exact ⟨⟨_, rfl, OwnFaults.mono HFZ.out HB3.out.size⟩, HB3.out.trans (HBZ2.out.mono HB3.out.size)⟩
end Go.Proofs.YtdlopjimheaekaaGreatDoor

namespace Go.Proofs.YtdlopjimheaekaaGreatDoor
open Go.RowKit
section
variable {P : Program}

def bv (b : UInt8) : Value := .int .u8 (b.toNat : Int)
/-- The slice v owns, among the blocks from B on, just the bytes l. -/
def OwnB (B : Nat) (w : World) (v : Value) (l : List UInt8) : Prop := w.ownsRow B 5 1 v l.length (l.map bv)

theorem OwnB.below {B : Nat} {w w' : World} {v : Value} {l : List UInt8} (h : OwnB B w v l) (hb : Below w.heap.size w w') : OwnB B w' v l := by
  obtain ⟨hl, h⟩ := h
  refine ⟨hl, ?_⟩
  rcases h with h | ⟨g, cap, cur, hv, hB, hg, h1, h2, h3, h4⟩
  · exact .inl h
  · refine .inr ⟨g, cap, cur, hv, hB, ?_, h1, h2, h3, h4⟩
    rw [hb.block g (Array.getElem?_eq_some_iff.1 hg).1]; exact hg

theorem OwnB.block {B : Nat} {w : World} {v : Value} {l : List UInt8} (h : OwnB B w v l) : ∀ k, v.ownBlock = some k → B ≤ k := by
  intro k hk
  rcases h.2 with ⟨rfl, _⟩ | ⟨g, cap, cur, rfl, hB, _⟩
  · simp [Value.ownBlock] at hk
  · simp [Value.ownBlock] at hk; omega

/-- Its cells, where it has some. -/
theorem OwnB.value {B : Nat} {w : World} {v : Value} {l : List UInt8} (h : OwnB B w v l) :
    (v = .slice none 0 0 ∧ l = []) ∨ ∃ g cap, v = .slice (some ⟨g, 0, none⟩) l.length cap ∧ ∀ j (hj : j < l.length), w.cell? ⟨g, j, none⟩ = some (bv l[j]) := by
  rcases h.2 with ⟨rfl, h0⟩ | ⟨g, cap, cur, rfl, hB, hg, h1, h2, h3, h4⟩
  · exact .inl ⟨rfl, List.eq_nil_of_length_eq_zero h0⟩
  · refine .inr ⟨g, cap, rfl, fun j hj => ?_⟩
    simp only [World.cell?, hg]
    have h5 := congrArg (·[j]?) h4
    simp only [Nat.mul_one, List.getElem?_take, hj, if_true, List.getElem?_map, List.getElem?_eq_getElem hj, Option.map_some] at h5
    simpa using h5

theorem wpList_appendB {ops : Array Oper} {rest : List Oper} {o : Oper} {a : Act} {w : World} {Q : Exit → Act → World → Prop} (hgd : o.guard = none) (s x : Operand) (t : TypeId)
    (ho : o.op = .call { callee := .builtin .append, args := #[s, x], argTypes := #[t, t] })
    (ht : P.underlying t = some (.slice 5)) (hi : (P.info? 5).map (fun i => (i.zero, i.size, i.bytes)) = some (some (.int .u8 0), 1, 1))
    (B : Nat) (v : Value) (l : List UInt8) (hs : a.eval s = v) (hown : OwnB B w v l)
    (ad : Addr) (m c : Nat) (news : List UInt8) (hx : a.eval x = .slice (some ad) m c) (hl : news.length = m) (hnews : ∀ j (h : j < news.length), w.cell? (ad.add j) = some (bv news[j]))
    (hsz : l.length + news.length ≤ 10000000) (hB : B ≤ w.heap.size)
    (h : ∀ v' w', OwnB B w' v' (l ++ news) → Below B w w' → w.grownBy w' v.ownBlock → wpList P ops Q rest (a.put o.dst v') w') : wpList P ops Q (o :: rest) a w := by
  obtain ⟨i, hii, hz0, hz1, hz2⟩ := info_parts hi
  refine wpList_append_own w hgd s x t ho B 5 i (.int .u8 0) 1 1 ht hii hz0 hz1 hz2 rfl (by decide) v l.length (l.map bv) hs hown ad m c (news.map bv) hx (by simp [hl]) ?_ ?_ ?_ ?_ hB ?_
  · intro j u hj
    simp only [List.getElem?_map, Option.map_eq_some_iff] at hj
    obtain ⟨b, hb, rfl⟩ := hj
    obtain ⟨hj', rfl⟩ := List.getElem?_eq_some_iff.1 hb
    exact hnews j hj'
  · intro u hu
    obtain ⟨b, _, rfl⟩ := List.mem_map.1 hu
    rfl
  · unfold maxLen; omega
  · omega
  · intro v' w' h1 h2 h3
    refine h v' w' ?_ ((Below.refl _ w).grown h2 hB (OwnB.block hown)) h2
    unfold OwnB
    rw [List.map_append, List.length_append, hl]
    exact h1

/-- []byte(s) of a string: a new row. -/
theorem wpList_bytesOf {ops : Array Oper} {rest : List Oper} {o : Oper} {a : Act} {w : World} {Q : Exit → Act → World → Prop} (hgd : o.guard = none) (src t : TypeId) (x : Operand)
    (ho : o.op = .convert src t x) (hs : P.underlying src = some .string) (ht : P.underlying t = some (.slice 5)) (he : P.underlying 5 = some (.int .u8))
    (s : ByteArray) (hx : a.eval x = .string s)
    (h : ∀ cap, wpList P ops Q rest (a.put o.dst (.slice (some ⟨w.heap.size, 0, none⟩) s.size cap)) (Lib.bytesWorld w 5 s)) : wpList P ops Q (o :: rest) a w := by
  refine wpList_plain hgd fun _ hK => ?_
  unfold Oper.wp execOp
  simp only [ho, hx, Sem.run_bind, Lib.run_convert_string_bytes w src t 5 s hs ht he, Result.andThen_ok]
  exact hK _ _ (h _)

theorem bytesWorld_below (w : World) (s : ByteArray) : Below w.heap.size w (Lib.bytesWorld w 5 s) :=
  ⟨by simp [Lib.bytesWorld, World.freeze]; rfl, by simp [Lib.bytesWorld, World.freeze], by simp [Lib.bytesWorld, World.freeze]; rfl, by rw [Lib.bytesWorld_size]; omega, fun k hk => Lib.bytesWorld_at_old w 5 s k hk⟩

/-- string(b) of a row that the call owns. -/
theorem wpList_stringOf {ops : Array Oper} {rest : List Oper} {o : Oper} {a : Act} {w : World} {Q : Exit → Act → World → Prop} (hgd : o.guard = none) (t dst : TypeId) (x : Operand)
    (ho : o.op = .convert t dst x) (hd : P.underlying dst = some .string) (ht : P.underlying t = some (.slice 5)) (he : P.underlying 5 = some (.int .u8))
    (B : Nat) (v : Value) (l : List UInt8) (hx : a.eval x = v) (hown : OwnB B w v l)
    (h : wpList P ops Q rest (a.put o.dst (.string ⟨l.toArray⟩)) w) : wpList P ops Q (o :: rest) a w := by
  refine wpList_plain hgd fun _ hK => ?_
  unfold Oper.wp execOp
  have hrun : (convert t dst v).run P w = .ok (.string ⟨l.toArray⟩) w := by
    rcases hown.value with ⟨rfl, rfl⟩ | ⟨g, cap, rfl, hc⟩
    · exact run_convert_bytes_nil w t 5 ht he 0 0 dst hd
    · refine run_convert_bytes_back w t dst 5 ⟨g, 0, none⟩ cap l ht he hd fun j hj => ?_
      have hadd : (⟨g, 0, none⟩ : Addr).add j = ⟨g, j, none⟩ := by unfold Addr.add; split <;> simp_all
      rw [hadd]; exact hc j hj
  simp only [ho, hx, Sem.run_bind, hrun, Result.andThen_ok]
  exact hK _ _ h
end
end Go.Proofs.YtdlopjimheaekaaGreatDoor

namespace Go.Proofs.YtdlopjimheaekaaGreatDoor
open Go.ChangeShapes Go.WideShapes Go.ChangeAt Go.RowKit
set_option linter.unusedVariables false
set_option linter.unusedSimpArgs false

def hashStep (h : Nat) (b : UInt8) : Nat := (h ^^^ b.toNat) * 16777619 % 4294967296
def hashL (l : List UInt8) : Nat := l.foldl hashStep 2166136261
/-- A node's number. -/
def hashF (t : ByteArray) : Nat := hashL t.data.toList % 100
theorem hashStep_eq (h : Nat) (b : UInt8) : hashStep h b = (h ^^^ b.toNat) * 16777619 % 4294967296 := by unfold hashStep; rfl
theorem hashL_app (l : List UInt8) (x : UInt8) : hashL (l ++ [x]) = hashStep (hashL l) x := by
  unfold hashL
  rw [List.foldl_append, List.foldl_cons, List.foldl_nil]
theorem hashStep_lt (h : Nat) (b : UInt8) : hashStep h b < 4294967296 := by
  rw [hashStep_eq]
  omega
theorem hashL_lt (l : List UInt8) : hashL l < 4294967296 := by
  rcases List.eq_nil_or_concat l with rfl | ⟨t, x, rfl⟩
  · unfold hashL
    rw [List.foldl_nil]
    omega
  · rw [List.concat_eq_append, hashL_app]
    exact hashStep_lt _ _
theorem hashL_succ (d : ByteArray) (k : Nat) (h : k < d.size) : hashL (d.data.toList.take (k + 1)) = (hashL (d.data.toList.take k) ^^^ byt d k) * 16777619 % 4294967296 := by
  have hl : k < d.data.toList.length := by simpa using h
  have : (d.data.toList[k]).toNat = byt d k := by
    rw [← byt_eq d k h]; rfl
  rw [List.take_succ_eq_append_getElem hl, hashL_app, hashStep_eq, this]
theorem xor_lt (h b : Nat) (hh : h < 4294967296) (hb : b < 256) : h ^^^ b < 4294967296 := by
  have := @Nat.xor_lt_two_pow h b 32 hh (by omega)
  simpa using this
theorem xor_i64 (a b : Nat) (ha : a < 4294967296) (hb : b < 256) : bits .xor .i64 (a : Int) (b : Int) = ((a ^^^ b : Nat) : Int) := by
  have hx : a ^^^ b < 4294967296 := xor_lt a b ha hb
  have h1 : (BitVec.ofInt 64 (a : Int)).toNat = a := by
    rw [BitVec.ofInt_natCast, BitVec.toNat_ofNat]; exact Nat.mod_eq_of_lt (by omega)
  have h2 : (BitVec.ofInt 64 (b : Int)).toNat = b := by
    rw [BitVec.ofInt_natCast, BitVec.toNat_ofNat]; exact Nat.mod_eq_of_lt (by omega)
  show IntKind.i64.wrap ((BitVec.ofInt 64 (a : Int) ^^^ BitVec.ofInt 64 (b : Int)).toNat : Int) = _
  rw [BitVec.toNat_xor, h1, h2, IntKind.wrap_i64]
  omega
theorem xor_u32 (a b : Nat) (ha : a < 4294967296) (hb : b < 256) : bits .xor .u32 (a : Int) (b : Int) = ((a ^^^ b : Nat) : Int) := by
  have hx : a ^^^ b < 4294967296 := xor_lt a b ha hb
  have h1 : (BitVec.ofInt 32 (a : Int)).toNat = a := by
    rw [BitVec.ofInt_natCast, BitVec.toNat_ofNat]; exact Nat.mod_eq_of_lt (by omega)
  have h2 : (BitVec.ofInt 32 (b : Int)).toNat = b := by
    rw [BitVec.ofInt_natCast, BitVec.toNat_ofNat]; exact Nat.mod_eq_of_lt (by omega)
  show IntKind.u32.wrap ((BitVec.ofInt 32 (a : Int) ^^^ BitVec.ofInt 32 (b : Int)).toNat : Int) = _
  rw [BitVec.toNat_xor, h1, h2, IntKind.wrap_u32]
  omega
set_option maxRecDepth 100000 in
set_option maxHeartbeats 1000000 in
theorem specHash (t : ByteArray) (ht : t.size ≤ 1048576) (w : World) :
    Calls Tryz.prog 16 #[.string t] w fun e w' => e = .returned (.int .i64 (hashF t : Int)) ∧ w' = w := by
  have hts : (t.size : Int) ≤ 1048576 := by omega
  unfold hashF
  obtain ⟨L, hL⟩ : ∃ L, t.data.toList = L := ⟨_, rfl⟩
  have HL : Hid (t.data.toList = L) := hL
  rw [hL]
  clear hL
  go_enter Tryz.func16, Tryz.ntmps16
  go_wp2_with fail
  go_loopw [3, 4] (fun i3 i4 wr => ∃ (k h : Nat), i4 = .int .i64 (k : Int) ∧ i3 = .int .i64 (h : Int) ∧ k ≤ t.size ∧ hashL (L.take k) = h ∧ wr = w) (fun _ i4 _ => t.size - (intOf i4).toNat)
  case atStart => exact ⟨0, 2166136261, rfl, rfl, by omega, rfl, rfl⟩
  case round =>
    obtain ⟨k, h, rfl, rfl, hk, hh, rfl⟩ := hrel
    have HH : Hid (hashL (L.take k) = h) := hh
    have hlt : h < 4294967296 := hh ▸ hashL_lt _
    clear hh
    by_cases hkn : k < t.size
    · have hkn' : (k : Int) < (t.size : Int) := by omega
      have hb := byt_eq t k hkn
      have hb2 := byt_lt t k
      have hsucc : hashL (L.take (k + 1)) = (h ^^^ byt t k) * 16777619 % 4294967296 := by rw [← HL.out, hashL_succ t k hkn, HL.out, HH.out]
      obtain ⟨c, hc⟩ : ∃ c, byt t k = c := ⟨_, rfl⟩
      rw [hc] at hb hb2 hsucc
      clear hc
      have hx := xor_lt h c hlt hb2
      have hxe : bits .xor .i64 (h : Int) (c : Int) = ((h ^^^ c : Nat) : Int) := xor_i64 h c hlt hb2
      obtain ⟨x, hxx⟩ : ∃ x, h ^^^ c = x := ⟨_, rfl⟩
      rw [hxx] at hx hxe hsucc
      have HS : Hid (hashL (L.take (k + 1)) = x * 16777619 % 4294967296) := hsucc
      clear hsucc hxx
      go_wp2_with fail
      exact ⟨⟨k + 1, x * 16777619 % 4294967296, by simp, by simp, by omega, HS.out, trivial⟩, by simp [intOf]; omega⟩
    · have hkn' : ¬ ((k : Int) < (t.size : Int)) := by omega
      have hkt : L.take k = L := List.take_of_length_le (by rw [← HL.out]; simp; omega)
      have hh := HH.out
      rw [hkt] at hh
      have HH2 : Hid (hashL L = h) := hh
      clear hh hkt HH
      go_wp2_with fail
      go_ret
      refine ⟨?_, rfl⟩
      rw [HH2.out]
      simp
set_option maxRecDepth 100000 in
set_option maxHeartbeats 1000000 in
theorem implHash (t : ByteArray) (ht : t.size ≤ 1048576) (w : World) :
    Calls Tryz.prog 62 #[.string t] w fun e w' => e = .returned (.int .i64 (hashF t : Int)) ∧ Below w.heap.size w w' := by
  have hts : (t.size : Int) ≤ 1048576 := by omega
  unfold hashF
  obtain ⟨L, hL⟩ : ∃ L, t.data.toList = L := ⟨_, rfl⟩
  have HL : Hid (t.data.toList = L) := hL
  rw [hL]
  clear hL
  have hconv := Lib.run_convert_string_bytes (P := Tryz.prog) w 9 22 5 t Tryz.underlying9 Tryz.underlying22 Tryz.underlying5
  have hbw := bytesWorld_below w t
  have hcel : ∀ k, k < t.size → (Lib.bytesWorld w 5 t).cell? ⟨w.heap.size, k, none⟩ = some (.int .u8 (byt t k : Int)) := by
    intro k hk
    rw [Lib.bytesWorld_cell w 5 t k hk, ← byt_eq t k hk]
    have hl : k < t.data.toList.length := by simpa using hk
    rw [List.getD_eq_getElem?_getD, List.getElem?_eq_getElem hl]
    rfl
  have hgs := Lib.bytesWorld_size w 5 t
  obtain ⟨W1, hW1⟩ : ∃ W1, Lib.bytesWorld w 5 t = W1 := ⟨_, rfl⟩
  rw [hW1] at hconv hbw hcel hgs
  have HCE : Hid (∀ k, k < t.size → W1.cell? ⟨w.heap.size, k, none⟩ = some (.int .u8 (byt t k : Int))) := hcel
  clear hW1 hcel
  go_enter Tryz.func62, Tryz.ntmps62
  go_wp2_with fail
  go_loopw [3, 9] (fun i3 i9 wr => ∃ (k h : Nat), i9 = .int .i64 (k : Int) ∧ i3 = .int .u32 (h : Int) ∧ k ≤ t.size ∧ hashL (L.take k) = h ∧ wr = W1) (fun _ i9 _ => t.size - (intOf i9).toNat)
  case atStart => exact ⟨0, 2166136261, rfl, rfl, by omega, rfl, rfl⟩
  case round =>
    obtain ⟨k, h, rfl, rfl, hk, hh, rfl⟩ := hrel
    have HH : Hid (hashL (L.take k) = h) := hh
    have hlt : h < 4294967296 := hh ▸ hashL_lt _
    clear hh
    by_cases hkn : k < t.size
    · have hkn' : (k : Int) < (t.size : Int) := by omega
      have hb := HCE.out k hkn
      have hb2 := byt_lt t k
      have hsucc : hashL (L.take (k + 1)) = (h ^^^ byt t k) * 16777619 % 4294967296 := by rw [← HL.out, hashL_succ t k hkn, HL.out, HH.out]
      obtain ⟨c, hc⟩ : ∃ c, byt t k = c := ⟨_, rfl⟩
      rw [hc] at hb hb2 hsucc
      clear hc
      have hx := xor_lt h c hlt hb2
      have hxe : bits .xor .u32 (h : Int) (c : Int) = ((h ^^^ c : Nat) : Int) := xor_u32 h c hlt hb2
      obtain ⟨x, hxx⟩ : ∃ x, h ^^^ c = x := ⟨_, rfl⟩
      rw [hxx] at hx hxe hsucc
      have HS : Hid (hashL (L.take (k + 1)) = x * 16777619 % 4294967296) := hsucc
      clear hsucc hxx
      go_wp2_with fail
      refine ⟨⟨k + 1, x * 16777619 % 4294967296, by simp, ?_, by omega, HS.out, trivial⟩, by simp [intOf]; omega⟩
      first
        | rfl
        | (congr 1; first | (rw [IntKind.wrap_u32]; omega) | (simp; done) | omega)
    · have hkn' : ¬ ((k : Int) < (t.size : Int)) := by omega
      have hkt : L.take k = L := List.take_of_length_le (by rw [← HL.out]; simp; omega)
      have hh := HH.out
      rw [hkt] at hh
      have HH2 : Hid (hashL L = h) := hh
      clear hh hkt HH
      go_wp2_with fail
      go_ret
      refine ⟨?_, hbw⟩
      rw [HH2.out]
      simp
end Go.Proofs.YtdlopjimheaekaaGreatDoor

namespace Go.Proofs.YtdlopjimheaekaaGreatDoor
open Go.ChangeShapes Go.WideShapes Go.ChangeAt Go.RowKit
set_option linter.unusedVariables false
set_option linter.unusedSimpArgs false

set_option maxRecDepth 100000 in
set_option maxHeartbeats 400000 in
theorem specHasA (ss : List ByteArray) (t : ByteArray) (a : Option Addr) (cap : Nat) (w : World) (hlen : ss.length ≤ 1000000)
    (hc : 0 < ss.length → ∃ g o, a = some ⟨g, o, none⟩ ∧ ∀ j (hj : j < ss.length), w.cell? ⟨g, o + j, none⟩ = some (.string ss[j])) :
    Calls Tryz.prog 17 #[.slice a ss.length cap, .string t] w fun e w' => e = .returned (.bool (hasB ss t)) ∧ w = w' := by
  have HC : Hid _ := hc
  clear hc
  obtain ⟨n, hn⟩ : ∃ n, ss.length = n := ⟨_, rfl⟩
  rw [hn]
  go_enter Tryz.func17, Tryz.ntmps17
  go_wp2
  go_loop [5] (fun i => ∃ k : Nat, k ≤ n ∧ i = .int .i64 (k : Int) ∧ (ss.take k).any (fun x => x.toList == t.toList) = false) (fun i => n - (intOf i).toNat)
  case atStart => exact ⟨0, by omega, rfl, rfl⟩
  case round =>
    obtain ⟨k, hk, rfl, h0⟩ := hrel
    have H0 : Hid ((ss.take k).any (fun x => x.toList == t.toList) = false) := h0
    clear h0
    by_cases hkn : k < n
    · have hk' : k < ss.length := by omega
      obtain ⟨g, o, rfl, hcell0⟩ := HC.out (by omega)
      have hcell := hcell0 k hk'
      clear hcell0
      obtain ⟨x, hx⟩ : ∃ x, ss[k] = x := ⟨_, rfl⟩
      rw [hx] at hcell
      have HX : Hid (ss[k] = x) := hx
      clear hx
      go_wp2
      · have h1 : (x.toList == t.toList) = true := by assumption
        go_ret
        refine ⟨?_, rfl⟩
        have : hasB ss t = true := any_hit ss _ k hk' (by rw [HX.out]; exact h1)
        rw [this]; rfl
      · have h1 : (x.toList == t.toList) = false := by assumption
        go_round
        case rel => exact ⟨k + 1, by omega, by go_num, any_take_succ ss _ k hk' H0 (by rw [HX.out]; exact h1)⟩
        case measure => simp [intOf]; omega
    · go_wp2
      go_ret
      refine ⟨?_, rfl⟩
      have : hasB ss t = false := by
        have h1 := H0.out
        rw [List.take_of_length_le (by omega)] at h1
        exact h1
      rw [this]; rfl
set_option maxRecDepth 100000 in
set_option maxHeartbeats 4000000 in
theorem specSortA {l : List ByteArray} {a : Option Addr} {cap : Nat} {w : World} (hc : 0 < l.length → ∃ g o, a = some ⟨g, o, none⟩ ∧ ∀ j (hj : j < l.length), w.cell? ⟨g, o + j, none⟩ = some (.string l[j])) (hl : l.length ≤ 100000) :
    Calls Tryz.prog 13 #[.slice a l.length cap] w fun e w' => (∃ p, e = .returned p ∧ OwnS w.heap.size w' p (sortB l)) ∧ Below w.heap.size w w' := by
  have HC : Hid _ := hc
  clear hc
  unfold sortB
  obtain ⟨F, hF⟩ : ∃ F, l.foldl sortStep [] = F := ⟨_, rfl⟩
  have HF : Hid (l.foldl sortStep [] = F) := hF
  rw [hF]
  clear hF
  go_enter Tryz.func13, Tryz.ntmps13
  go_wp2_with fail
  go_loopw [3, 4] (fun i3 i4 wr => ∃ (k g cp : Nat) (out : List ByteArray), i4 = .int .i64 (k : Int) ∧ i3 = .slice (some ⟨g, 0, none⟩) out.length cp ∧ k ≤ l.length ∧ out.length ≤ k ∧ OwnS w.heap.size wr (.slice (some ⟨g, 0, none⟩) out.length cp) out ∧ (l.drop k).foldl sortStep out = F ∧ Below w.heap.size w wr) (fun _ i4 _ => l.length - (intOf i4).toNat)
  case atStart => exact ⟨0, w.heap.size, 0, [], rfl, rfl, by omega, by simp, ⟨rfl, .inr ⟨w.heap.size, 0, #[], rfl, Nat.le_refl _, heap_alloc_last w _, Nat.le_refl _, Nat.zero_le _, rfl, rfl⟩⟩, HF, (Below.refl _ w).alloc (Nat.le_refl _) _⟩
  case round =>
    obtain ⟨k, g, cp, out, rfl, rfl, hk, hok, hown, hfold, hb⟩ := hrel
    obtain ⟨wo, hwo⟩ : ∃ wo, wo = wr := ⟨_, rfl⟩
    subst hwo
    have HOW : Hid (OwnS w.heap.size wo (.slice (some ⟨g, 0, none⟩) out.length cp) out) := hown
    have HFO : Hid ((l.drop k).foldl sortStep out = F) := hfold
    have HBL : Hid (Below w.heap.size w wo) := hb
    clear hown hfold
    by_cases hkn : k < l.length
    · have hkn' : (k : Int) < (l.length : Int) := by omega
      obtain ⟨gl, ol, rfl, hcell⟩ := HC.out (by omega)
      have y0 := hcell k hkn
      have hglt : gl < w.heap.size := by
        cases hh : w.heap[gl]? with
        | none => simp [World.cell?, hh] at y0
        | some o => exact (Array.getElem?_eq_some_iff.1 hh).1
      have f0 := (hb.cell (p := ⟨gl, ol + k, none⟩) hglt).trans y0
      have hnx : (l.drop (k + 1)).foldl sortStep (sortStep out l[k]) = F := by
        have := HFO.out
        rw [List.drop_eq_getElem_cons hkn, List.foldl_cons] at this
        exact this
      obtain ⟨t, ht⟩ : ∃ t, l[k] = t := ⟨_, rfl⟩
      rw [ht] at y0 f0 hnx
      have HNX : Hid ((l.drop (k + 1)).foldl sortStep (sortStep out t) = F) := hnx
      clear hnx ht hcell HFO
      obtain ⟨a3, c3, hv3, hs3⟩ := HOW.out.value
      simp only [Value.slice.injEq, true_and] at hv3
      obtain ⟨rfl, rfl⟩ := hv3
      have ch := specHas out t (some ⟨g, 0, none⟩) cp wo (by omega) hs3
      have HS3 : Hid _ := hs3
      obtain ⟨G, hG⟩ : ∃ G, hasB out t = G := ⟨_, rfl⟩
      rw [hG] at ch
      have HG : Hid (hasB out t = G) := hG
      clear hG hs3
      cases G
      · go_wp2_with (go_at_call 17; go_must (refine ch.mono ?_; rintro e w2 ⟨rfl, rfl⟩))
        go_loopw [5] (fun i5 wz => ∃ j : Nat, i5 = .int .i64 (j : Int) ∧ j ≤ out.length ∧ (∀ i (hi : i < out.length), i < j → lessB out[i] t = true) ∧ Below wo.heap.size wo wz) (fun i5 _ => out.length - (intOf i5).toNat)
        case atStart => exact ⟨0, rfl, by omega, fun i _ h => by omega, Below.refl _ _⟩
        case round =>
          obtain ⟨j, rfl, hj, hja, hbz⟩ := hrel
          have HJA : Hid (∀ i (hi : i < out.length), i < j → lessB out[i] t = true) := hja
          clear hja
          have hbw := good_below HBL.out hbz
          have f1 := (hbw.cell (p := ⟨gl, ol + k, none⟩) hglt).trans y0
          by_cases hjn : j < out.length
          · have hjn' : (j : Int) < (out.length : Int) := by omega
            obtain ⟨g', hg', hcc⟩ := HS3.out (by omega)
            simp only [Option.some.injEq, Addr.mk.injEq, and_true] at hg'
            subst hg'
            have hgw : g < wo.heap.size := HOW.out.lt
            have f2 := (hbz.cell (p := ⟨g, j, none⟩) hgw).trans (hcc j hjn)
            obtain ⟨x, hx⟩ : ∃ x, out[j] = x := ⟨_, rfl⟩
            rw [hx] at f2
            have HX : Hid (out[j] = x) := hx
            clear hx hcc
            cases hless : Go.Op.bytesLess x.toList t.toList
            · go_wp2_with fail
              go_quiet (fail)
              have hlow : lowsN out t = j := lows_at out t j HJA.out hj (fun hj2 => by rw [HX.out]; exact hless)
              have HLOW : Hid (lowsN out t = j) := hlow
              clear hlow
              have hcp := HOW.out.cap
              have hcp1 : (j : Int) ≤ (cp : Int) := by omega
              have hcp2 : (cp : Int) ≤ 9223372036854775807 := by have := hcp.2; simp [maxLen] at this; omega
              have hj' : (j : Int) ≤ (out.length : Int) := by omega
              obtain ⟨ti, hti, ht0, ht1, ht2⟩ := info9
              have hbq := bel_drewN hbz nq
              have hbq2 := good_below HBL.out hbq
              have HBQ : Hid (Below wo.heap.size wo (wr.drewN nq)) := hbq
              have HBQ2 : Hid (Below w.heap.size w (wr.drewN nq)) := hbq2
              clear hbq hbq2
              have hsz0 : (wr.drewN nq).heap.size = wr.heap.size := rfl
              go_wp2_with (at_builtin; go_must (refine wpList_appendSm rfl (.tmp 37) (.tmp 40) 28 rfl Tryz.underlying28 ti hti ht0 ht1 ht2 wr.heap.size (.slice (some ⟨wr.heap.size, 0, none⟩) 0 0) [] rfl ⟨rfl, .inr ⟨wr.heap.size, 0, #[], rfl, Nat.le_refl _, heap_alloc_last (wr.drewN nq) _, Nat.le_refl _, Nat.zero_le _, rfl, rfl⟩⟩ ⟨g, j, none⟩ (cp - j) (out.drop j) (out.length - j) (by simp) rfl (fun i hi => by rw [add_at]; simp at hi; have := ((HOW.out.below HBQ.out).below ((Below.refl _ _).alloc (Nat.le_refl _) (.cells #[] 9))).cells (j + i) (by omega); rw [this]; simp) (by simp; omega) (by simp) ?_; intro v4 w4 hown4 hB4 hgr4 hnil4; obtain ⟨g4, c4, rfl, hg4⟩ := hown4.shaped (n := out.length - j) (by simp) (fun e => by have := hnil4.1 e; simp at this)))
              have hb4 : Below wo.heap.size wo w4 := ((HBQ.out.alloc HBQ.out.size _).trans (hB4.mono hbz.size))
              have hB4' := good_below HBL.out hb4
              have f4 := (hB4'.cell (p := ⟨gl, ol + k, none⟩) hglt).trans y0
              have ht4 := (HOW.out.below hb4).take j hj
              have HT4 : Hid (OwnS w.heap.size w4 (.slice (some ⟨g, 0, none⟩) j cp) (out.take j)) := ht4
              have hn4 : OwnS wr.heap.size w4 (.slice (some ⟨g4, 0, none⟩) (out.length - j) c4) (out.drop j) := by simpa using hown4
              have HN4 : Hid (OwnS wr.heap.size w4 (.slice (some ⟨g4, 0, none⟩) (out.length - j) c4) (out.drop j)) := hn4
              have hg4ne : some g4 ≠ some g := fun e => by injection e with e; have := hbz.size; have := HOW.out.lt; omega
              have HG4 : Hid (some g4 ≠ some g) := hg4ne
              have HB4 : Hid (Below w.heap.size w w4) := hB4'
              have hws : w.heap.size ≤ w4.heap.size := hB4'.size
              have hst : sortStep out t = (out.take j ++ [t]) ++ out.drop j := by unfold sortStep; rw [HG.out, HLOW.out]; rfl
              have HST : Hid (sortStep out t = (out.take j ++ [t]) ++ out.drop j) := hst
              have hsl : ((out.take j ++ [t]) ++ out.drop j).length = out.length + 1 := by simp; omega
              have HSL : Hid (((out.take j ++ [t]) ++ out.drop j).length = out.length + 1) := hsl
              clear hb4 hB4' ht4 hn4 hg4ne hown4 hB4 hgr4 hnil4 hst hsl hbz f1 ch hb HBQ HBQ2 hcp
              go_region_law (first
                | (refine step_appendSm rfl (.tmp 44) (.tmp 49) rfl w.heap.size (.slice (some ⟨g, 0, none⟩) j cp) (out.take j) (by simp [Act.eval]) (HT4.out.below (((Below.refl _ w4).alloc (Nat.le_refl _) _).drew)) ⟨w4.heap.size, 0, none⟩ 1 [t] 1 rfl (by simp [Act.eval]) (fun i hi => by have : i = 0 := (by simpa using hi); subst this; exact new_cell w4 t) (by simp; omega) (by simp; omega) ?_; intro v5 w5 hown5 hB5 hgr5 hnil5; have hn5 := (HN4.out.below (((Below.refl _ w4).alloc (Nat.le_refl _) (.cells #[.string t] 9)).drew)).kept hgr5 HG4.out; obtain ⟨g5, c5, rfl, hg5⟩ := hown5.shaped (n := j + 1) (by simp; omega) (fun e => by have := hnil5.1 e; simp at this); have hB5' := ((HB4.out.alloc hws (.cells #[.string t] 9)).drew).trans hB5)
                | (refine step_appendSm rfl (.tmp 50) (.tmp 51) rfl w.heap.size (.slice (some ⟨g5, 0, none⟩) (j + 1) c5) (out.take j ++ [t]) (by simp [Act.eval]) hown5 ⟨g4, 0, none⟩ c4 (out.drop j) (out.length - j) (by simp) (by simp [Act.eval]) (fun i hi => by rw [add_at, Nat.zero_add]; exact hn5.cells i hi) (by simp; omega) hB5'.size ?_; intro v6 w6 hown6 hB6 hgr6 hnil6; obtain ⟨g6, c6, rfl, hg6⟩ := hown6.shaped (n := out.length + 1) HSL.out (fun e => by have := hnil6.1 e; simp at this); have hB6' := hB5'.trans hB6))
              all_goals
                go_wp2_with fail
                exact ⟨⟨k + 1, g6, c6, (out.take j ++ [t]) ++ out.drop j, rfl, by rw [HSL.out], by omega, by rw [HSL.out]; omega, by rw [HSL.out]; exact hown6, by rw [← HST.out]; exact HNX.out, hB6'⟩, by simp [intOf]; omega⟩
            · go_wp2_with fail
              go_quiet (fail)
              go_wp2_with fail
              refine ⟨⟨j + 1, rfl, by omega, fun i hi hij => ?_, bel_drewN hbz _⟩, by simp [intOf]; omega⟩
              by_cases hij2 : i < j
              · exact HJA.out i hi hij2
              · obtain rfl : i = j := by omega
                rw [HX.out]; exact hless
          · have hjn0 : ¬ j < out.length := hjn
            have hjn' : ¬ ((j : Int) < (out.length : Int)) := by omega
            by_cases hcpj : j = cp
            · subst hcpj
              go_wp2_with fail
              go_quiet (fail)
              have hlow : lowsN out t = j := lows_at out t j HJA.out hj (fun hj2 => absurd hj2 hjn0)
              have HLOW : Hid (lowsN out t = j) := hlow
              clear hlow
              have hcp := HOW.out.cap
              have hcp1 : (j : Int) ≤ (j : Int) := by omega
              have hcp2 : (j : Int) ≤ 9223372036854775807 := by have := hcp.2; simp [maxLen] at this; omega
              have hj' : (j : Int) ≤ (out.length : Int) := by omega
              obtain ⟨ti, hti, ht0, ht1, ht2⟩ := info9
              have hbq := bel_drewN hbz nq
              have hbq2 := good_below HBL.out hbq
              have HBQ : Hid (Below wo.heap.size wo (wr.drewN nq)) := hbq
              have HBQ2 : Hid (Below w.heap.size w (wr.drewN nq)) := hbq2
              clear hbq hbq2
              have hsz0 : (wr.drewN nq).heap.size = wr.heap.size := rfl
              go_wp2_with (at_builtin; go_must (refine wpList_appendSm rfl (.tmp 37) (.tmp 40) 28 rfl Tryz.underlying28 ti hti ht0 ht1 ht2 wr.heap.size (.slice (some ⟨wr.heap.size, 0, none⟩) 0 0) [] rfl ⟨rfl, .inr ⟨wr.heap.size, 0, #[], rfl, Nat.le_refl _, heap_alloc_last (wr.drewN nq) _, Nat.le_refl _, Nat.zero_le _, rfl, rfl⟩⟩ ⟨g, 0, none⟩ 0 (out.drop j) 0 (by simp <;> omega) rfl (fun i hi => by simp at hi <;> omega) (by simp <;> omega) (by simp) ?_; intro v4 w4 hown4 hB4 hgr4 hnil4; obtain ⟨g4, c4, rfl, hg4⟩ := hown4.shaped (n := 0) (by simp <;> omega) (fun e => by have := hnil4.1 e; simp at this)))
              have hb4 : Below wo.heap.size wo w4 := ((HBQ.out.alloc HBQ.out.size _).trans (hB4.mono hbz.size))
              have hB4' := good_below HBL.out hb4
              have f4 := (hB4'.cell (p := ⟨gl, ol + k, none⟩) hglt).trans y0
              have ht4 := (HOW.out.below hb4).take j hj
              have HT4 : Hid (OwnS w.heap.size w4 (.slice (some ⟨g, 0, none⟩) j j) (out.take j)) := ht4
              have hn4 : OwnS wr.heap.size w4 (.slice (some ⟨g4, 0, none⟩) 0 c4) (out.drop j) := by simpa using hown4
              have HN4 : Hid (OwnS wr.heap.size w4 (.slice (some ⟨g4, 0, none⟩) 0 c4) (out.drop j)) := hn4
              have hg4ne : some g4 ≠ some g := fun e => by injection e with e; have := hbz.size; have := HOW.out.lt; omega
              have HG4 : Hid (some g4 ≠ some g) := hg4ne
              have HB4 : Hid (Below w.heap.size w w4) := hB4'
              have hws : w.heap.size ≤ w4.heap.size := hB4'.size
              have hst : sortStep out t = (out.take j ++ [t]) ++ out.drop j := by unfold sortStep; rw [HG.out, HLOW.out]; rfl
              have HST : Hid (sortStep out t = (out.take j ++ [t]) ++ out.drop j) := hst
              have hsl : ((out.take j ++ [t]) ++ out.drop j).length = out.length + 1 := by simp; omega
              have HSL : Hid (((out.take j ++ [t]) ++ out.drop j).length = out.length + 1) := hsl
              clear hb4 hB4' ht4 hn4 hg4ne hown4 hB4 hgr4 hnil4 hst hsl hbz f1 ch hb HBQ HBQ2 hcp
              go_region_law (first
                | (refine step_appendSm rfl (.tmp 44) (.tmp 49) rfl w.heap.size (.slice (some ⟨g, 0, none⟩) j j) (out.take j) (by simp [Act.eval]) (HT4.out.below (((Below.refl _ w4).alloc (Nat.le_refl _) _).drew)) ⟨w4.heap.size, 0, none⟩ 1 [t] 1 rfl (by simp [Act.eval]) (fun i hi => by have : i = 0 := (by simpa using hi); subst this; exact new_cell w4 t) (by simp <;> omega) (by simp <;> omega) ?_; intro v5 w5 hown5 hB5 hgr5 hnil5; have hn5 := (HN4.out.below (((Below.refl _ w4).alloc (Nat.le_refl _) (.cells #[.string t] 9)).drew)).kept hgr5 HG4.out; obtain ⟨g5, c5, rfl, hg5⟩ := hown5.shaped (n := j + 1) (by simp <;> omega) (fun e => by have := hnil5.1 e; simp at this); have hB5' := ((HB4.out.alloc hws (.cells #[.string t] 9)).drew).trans hB5)
                | (refine step_appendSm rfl (.tmp 50) (.tmp 51) rfl w.heap.size (.slice (some ⟨g5, 0, none⟩) (j + 1) c5) (out.take j ++ [t]) (by simp [Act.eval]) hown5 ⟨g4, 0, none⟩ c4 (out.drop j) 0 (by simp <;> omega) (by simp [Act.eval]) (fun i hi => by rw [add_at, Nat.zero_add]; exact hn5.cells i hi) (by simp <;> omega) hB5'.size ?_; intro v6 w6 hown6 hB6 hgr6 hnil6; obtain ⟨g6, c6, rfl, hg6⟩ := hown6.shaped (n := out.length + 1) HSL.out (fun e => by have := hnil6.1 e; simp at this); have hB6' := hB5'.trans hB6))
              all_goals
                go_wp2_with fail
                exact ⟨⟨k + 1, g6, c6, (out.take j ++ [t]) ++ out.drop j, rfl, by rw [HSL.out], by omega, by rw [HSL.out]; omega, by rw [HSL.out]; exact hown6, by rw [← HST.out]; exact HNX.out, hB6'⟩, by simp [intOf]; omega⟩
            · have hcpj2 : ¬ cp = j := fun e => hcpj e.symm
              go_wp2_with fail
              go_quiet (fail)
              have hlow : lowsN out t = j := lows_at out t j HJA.out hj (fun hj2 => absurd hj2 hjn0)
              have HLOW : Hid (lowsN out t = j) := hlow
              clear hlow
              have hcp := HOW.out.cap
              have hcp1 : (j : Int) ≤ (cp : Int) := by omega
              have hcp2 : (cp : Int) ≤ 9223372036854775807 := by have := hcp.2; simp [maxLen] at this; omega
              have hj' : (j : Int) ≤ (out.length : Int) := by omega
              obtain ⟨ti, hti, ht0, ht1, ht2⟩ := info9
              have hbq := bel_drewN hbz nq
              have hbq2 := good_below HBL.out hbq
              have HBQ : Hid (Below wo.heap.size wo (wr.drewN nq)) := hbq
              have HBQ2 : Hid (Below w.heap.size w (wr.drewN nq)) := hbq2
              clear hbq hbq2
              have hsz0 : (wr.drewN nq).heap.size = wr.heap.size := rfl
              go_wp2_with (at_builtin; go_must (refine wpList_appendSm rfl (.tmp 37) (.tmp 40) 28 rfl Tryz.underlying28 ti hti ht0 ht1 ht2 wr.heap.size (.slice (some ⟨wr.heap.size, 0, none⟩) 0 0) [] rfl ⟨rfl, .inr ⟨wr.heap.size, 0, #[], rfl, Nat.le_refl _, heap_alloc_last (wr.drewN nq) _, Nat.le_refl _, Nat.zero_le _, rfl, rfl⟩⟩ ⟨g, j, none⟩ (cp - j) (out.drop j) (out.length - j) (by simp) rfl (fun i hi => by simp at hi; omega) (by simp; omega) (by simp) ?_; intro v4 w4 hown4 hB4 hgr4 hnil4; obtain ⟨g4, c4, rfl, hg4⟩ := hown4.shaped (n := out.length - j) (by simp) (fun e => by have := hnil4.1 e; simp at this)))
              have hb4 : Below wo.heap.size wo w4 := ((HBQ.out.alloc HBQ.out.size _).trans (hB4.mono hbz.size))
              have hB4' := good_below HBL.out hb4
              have f4 := (hB4'.cell (p := ⟨gl, ol + k, none⟩) hglt).trans y0
              have ht4 := (HOW.out.below hb4).take j hj
              have HT4 : Hid (OwnS w.heap.size w4 (.slice (some ⟨g, 0, none⟩) j cp) (out.take j)) := ht4
              have hn4 : OwnS wr.heap.size w4 (.slice (some ⟨g4, 0, none⟩) (out.length - j) c4) (out.drop j) := by simpa using hown4
              have HN4 : Hid (OwnS wr.heap.size w4 (.slice (some ⟨g4, 0, none⟩) (out.length - j) c4) (out.drop j)) := hn4
              have hg4ne : some g4 ≠ some g := fun e => by injection e with e; have := hbz.size; have := HOW.out.lt; omega
              have HG4 : Hid (some g4 ≠ some g) := hg4ne
              have HB4 : Hid (Below w.heap.size w w4) := hB4'
              have hws : w.heap.size ≤ w4.heap.size := hB4'.size
              have hst : sortStep out t = (out.take j ++ [t]) ++ out.drop j := by unfold sortStep; rw [HG.out, HLOW.out]; rfl
              have HST : Hid (sortStep out t = (out.take j ++ [t]) ++ out.drop j) := hst
              have hsl : ((out.take j ++ [t]) ++ out.drop j).length = out.length + 1 := by simp; omega
              have HSL : Hid (((out.take j ++ [t]) ++ out.drop j).length = out.length + 1) := hsl
              clear hb4 hB4' ht4 hn4 hg4ne hown4 hB4 hgr4 hnil4 hst hsl hbz f1 ch hb HBQ HBQ2 hcp
              go_region_law (first
                | (refine step_appendSm rfl (.tmp 44) (.tmp 49) rfl w.heap.size (.slice (some ⟨g, 0, none⟩) j cp) (out.take j) (by simp [Act.eval]) (HT4.out.below (((Below.refl _ w4).alloc (Nat.le_refl _) _).drew)) ⟨w4.heap.size, 0, none⟩ 1 [t] 1 rfl (by simp [Act.eval]) (fun i hi => by have : i = 0 := (by simpa using hi); subst this; exact new_cell w4 t) (by simp; omega) (by simp; omega) ?_; intro v5 w5 hown5 hB5 hgr5 hnil5; have hn5 := (HN4.out.below (((Below.refl _ w4).alloc (Nat.le_refl _) (.cells #[.string t] 9)).drew)).kept hgr5 HG4.out; obtain ⟨g5, c5, rfl, hg5⟩ := hown5.shaped (n := j + 1) (by simp; omega) (fun e => by have := hnil5.1 e; simp at this); have hB5' := ((HB4.out.alloc hws (.cells #[.string t] 9)).drew).trans hB5)
                | (refine step_appendSm rfl (.tmp 50) (.tmp 51) rfl w.heap.size (.slice (some ⟨g5, 0, none⟩) (j + 1) c5) (out.take j ++ [t]) (by simp [Act.eval]) hown5 ⟨g4, 0, none⟩ c4 (out.drop j) (out.length - j) (by simp) (by simp [Act.eval]) (fun i hi => by rw [add_at, Nat.zero_add]; exact hn5.cells i hi) (by simp; omega) hB5'.size ?_; intro v6 w6 hown6 hB6 hgr6 hnil6; obtain ⟨g6, c6, rfl, hg6⟩ := hown6.shaped (n := out.length + 1) HSL.out (fun e => by have := hnil6.1 e; simp at this); have hB6' := hB5'.trans hB6))
              all_goals
                go_wp2_with fail
                exact ⟨⟨k + 1, g6, c6, (out.take j ++ [t]) ++ out.drop j, rfl, by rw [HSL.out], by omega, by rw [HSL.out]; omega, by rw [HSL.out]; exact hown6, by rw [← HST.out]; exact HNX.out, hB6'⟩, by simp [intOf]; omega⟩
      · go_wp2_with (go_at_call 17; go_must (refine ch.mono ?_; rintro e w2 ⟨rfl, rfl⟩))
        exact ⟨⟨k + 1, g, cp, out, rfl, rfl, by omega, by omega, HOW.out, by have := HNX.out; unfold sortStep at this; rwa [HG.out] at this, hb⟩, by simp [intOf]; omega⟩
    · have hkn' : ¬ ((k : Int) < (l.length : Int)) := by omega
      go_wp2_with fail
      go_ret
      have := HFO.out
      rw [List.drop_eq_nil_of_le (by omega)] at this
      simp at this
      subst this
      exact ⟨⟨_, rfl, HOW.out⟩, hb⟩
end Go.Proofs.YtdlopjimheaekaaGreatDoor

namespace Go.Proofs.YtdlopjimheaekaaGreatDoor
open Go.ChangeShapes Go.WideShapes Go.ChangeAt Go.RowKit
set_option linter.unusedVariables false
set_option linter.unusedSimpArgs false

structure Stage where
  percent : Int
  code : Int
  nodes : List ByteArray
/-- The slice v reads in w, out of blocks of S, as these. -/
def StagesAt (S : Nat → Prop) (w : World) (v : Value) (l : List Stage) : Prop := l.length ≤ maxLen ∧ ∃ a cap, v = .slice a l.length cap ∧ (0 < l.length → ∃ b off, a = some ⟨b, off, none⟩ ∧ S b ∧
  ∀ i (h : i < l.length), w.cell? ⟨b, off + i * 3, none⟩ = some (.int .i64 l[i].percent) ∧ w.cell? ⟨b, off + i * 3 + 1, none⟩ = some (.int .i64 l[i].code) ∧ ∃ nv, w.cell? ⟨b, off + i * 3 + 2, none⟩ = some nv ∧ TxtsAt S w nv l[i].nodes)
theorem StagesAt.keep {S : Nat → Prop} {w w' : World} {v : Value} {l : List Stage} (h : StagesAt S w v l) (hk : ∀ b i, S b → w'.cell? ⟨b, i, none⟩ = w.cell? ⟨b, i, none⟩) : StagesAt S w' v l := by
  obtain ⟨hl, a, cap, hv, h⟩ := h
  refine ⟨hl, a, cap, hv, fun h0 => ?_⟩
  obtain ⟨b, off, ha, hbB, hc⟩ := h h0
  refine ⟨b, off, ha, hbB, fun i hi => ?_⟩
  obtain ⟨c0, c1, nv, d1, d2⟩ := hc i hi
  exact ⟨(hk _ _ hbB).trans c0, (hk _ _ hbB).trans c1, nv, (hk _ _ hbB).trans d1, d2.keep hk⟩
theorem StagesAt.mono {S S' : Nat → Prop} {w : World} {v : Value} {l : List Stage} (h : StagesAt S w v l) (hS : ∀ b, S b → S' b) : StagesAt S' w v l := by
  obtain ⟨hl, a, cap, hv, h⟩ := h
  refine ⟨hl, a, cap, hv, fun h0 => ?_⟩
  obtain ⟨b, off, ha, hbB, hc⟩ := h h0
  refine ⟨b, off, ha, hS b hbB, fun i hi => ?_⟩
  obtain ⟨c0, c1, nv, d1, d2⟩ := hc i hi
  exact ⟨c0, c1, nv, d1, d2.mono hS⟩
theorem StagesAt.shape {S : Nat → Prop} {w : World} {v : Value} {l : List Stage} (h : StagesAt S w v l) : ∃ a c, v = .slice a l.length c := by
  obtain ⟨_, a, c, hv, _⟩ := h
  exact ⟨a, c, hv⟩
/-- A stage, and the slice that holds its nodes. -/
structure StV where
  x : Stage
  nv : Value
/-- The slice v reads in w, out of blocks of S, as these. -/
def StVsAt (S : Nat → Prop) (w : World) (v : Value) (l : List StV) : Prop := l.length ≤ maxLen ∧ ∃ a cap, v = .slice a l.length cap ∧ (0 < l.length → ∃ b off, a = some ⟨b, off, none⟩ ∧ S b ∧
  ∀ i (h : i < l.length), w.cell? ⟨b, off + i * 3, none⟩ = some (.int .i64 l[i].x.percent) ∧ w.cell? ⟨b, off + i * 3 + 1, none⟩ = some (.int .i64 l[i].x.code) ∧ w.cell? ⟨b, off + i * 3 + 2, none⟩ = some (l[i].nv))
theorem StVsAt.keep {S : Nat → Prop} {w w' : World} {v : Value} {l : List StV} (h : StVsAt S w v l) (hk : ∀ b i, S b → w'.cell? ⟨b, i, none⟩ = w.cell? ⟨b, i, none⟩) : StVsAt S w' v l := by
  obtain ⟨hl, a, cap, hv, h⟩ := h
  refine ⟨hl, a, cap, hv, fun h0 => ?_⟩
  obtain ⟨b, off, ha, hbB, hc⟩ := h h0
  refine ⟨b, off, ha, hbB, fun i hi => ?_⟩
  obtain ⟨c0, c1, c2⟩ := hc i hi
  exact ⟨(hk _ _ hbB).trans c0, (hk _ _ hbB).trans c1, (hk _ _ hbB).trans c2⟩
theorem StVsAt.mono {S S' : Nat → Prop} {w : World} {v : Value} {l : List StV} (h : StVsAt S w v l) (hS : ∀ b, S b → S' b) : StVsAt S' w v l := by
  obtain ⟨hl, a, cap, hv, h⟩ := h
  refine ⟨hl, a, cap, hv, fun h0 => ?_⟩
  obtain ⟨b, off, ha, hbB, hc⟩ := h h0
  refine ⟨b, off, ha, hS b hbB, fun i hi => ?_⟩
  obtain ⟨c0, c1, c2⟩ := hc i hi
  exact ⟨c0, c1, c2⟩
theorem StVsAt.shape {S : Nat → Prop} {w : World} {v : Value} {l : List StV} (h : StVsAt S w v l) : ∃ a c, v = .slice a l.length c := by
  obtain ⟨_, a, c, hv, _⟩ := h
  exact ⟨a, c, hv⟩
def StVsCells (x : StV) : List Value := [.int .i64 x.x.percent, .int .i64 x.x.code, x.nv]
def StVsRow (l : List StV) : List Value := l.flatMap StVsCells
theorem StVsRow_length (l : List StV) : (StVsRow l).length = l.length * 3 := by
  induction l with
  | nil => rfl
  | cons a t ih => simp only [StVsRow, List.flatMap_cons, List.length_append, List.length_cons] at ih ⊢; rw [ih]; simp [StVsCells] <;> omega
theorem StVsRow_append (l k : List StV) : StVsRow (l ++ k) = StVsRow l ++ StVsRow k := by simp [StVsRow]
def StVsOne (l : List StV) : Prop := ∀ x ∈ l, (x.nv).oneCell' = true
theorem StVsRow_one {l : List StV} (h1 : StVsOne l) {u : Value} (hu : u ∈ StVsRow l) : u.oneCell' = true := by
  obtain ⟨x, hxl, hx⟩ := List.mem_flatMap.1 hu
  simp only [StVsCells, List.mem_cons, List.mem_nil_iff, or_false] at hx
  rcases hx with rfl | rfl | rfl
  · rfl
  · rfl
  · exact h1 x hxl
theorem StVsRow_at (l : List StV) (k : Nat) (hk : k < l.length) : (StVsRow l)[k * 3]? = some (.int .i64 l[k].x.percent) ∧ (StVsRow l)[k * 3 + 1]? = some (.int .i64 l[k].x.code) ∧ (StVsRow l)[k * 3 + 2]? = some (l[k].nv) := by
  induction l generalizing k with
  | nil => simp at hk
  | cons a t ih =>
    have hc : StVsRow (a :: t) = StVsCells a ++ StVsRow t := by simp [StVsRow]
    rw [hc]
    cases k with
    | zero => simp [StVsCells]
    | succ k =>
      rw [List.getElem?_append_right (by simp [StVsCells] <;> omega), List.getElem?_append_right (by simp [StVsCells] <;> omega), List.getElem?_append_right (by simp [StVsCells] <;> omega)]
      have e0 : (k + 1) * 3 - (StVsCells a).length = k * 3 := by simp [StVsCells] <;> omega
      have e1 : (k + 1) * 3 + 1 - (StVsCells a).length = k * 3 + 1 := by simp [StVsCells] <;> omega
      have e2 : (k + 1) * 3 + 2 - (StVsCells a).length = k * 3 + 2 := by simp [StVsCells] <;> omega
      rw [e0, e1, e2]
      simpa using ih k (by simpa using hk)
/-- A row of one's own. -/
def OwnStVs (B : Nat) (w : World) (v : Value) (l : List StV) : Prop := w.ownsRow B 36 3 v l.length (StVsRow l)
theorem OwnStVs.below {B : Nat} {w w' : World} {v : Value} {l : List StV} (h : OwnStVs B w v l) (hb : Below w.heap.size w w') : OwnStVs B w' v l := by
  obtain ⟨hl, h⟩ := h
  refine ⟨hl, ?_⟩
  rcases h with h | ⟨g, cap, cur, hv, hB, hg, h1, h2, h3, h4⟩
  · exact .inl h
  · refine .inr ⟨g, cap, cur, hv, hB, ?_, h1, h2, h3, h4⟩
    rw [hb.block g (Array.getElem?_eq_some_iff.1 hg).1]; exact hg
theorem OwnStVs.mono {B B' : Nat} {w : World} {v : Value} {l : List StV} (h : OwnStVs B w v l) (hB : B' ≤ B) : OwnStVs B' w v l := by
  obtain ⟨hl, h⟩ := h
  refine ⟨hl, ?_⟩
  rcases h with h | ⟨g, cap, cur, hv, hg, h1⟩
  · exact .inl h
  · exact .inr ⟨g, cap, cur, hv, Nat.le_trans hB hg, h1⟩
theorem OwnStVs.value {B : Nat} {w : World} {v : Value} {l : List StV} (h : OwnStVs B w v l) :
    ∃ a cap, v = .slice a l.length cap ∧ l.length ≤ maxLen ∧ (0 < l.length → ∃ g, a = some ⟨g, 0, none⟩ ∧ B ≤ g ∧ g < w.heap.size ∧ ∀ j (hj : j < l.length), w.cell? ⟨g, j * 3, none⟩ = some (.int .i64 l[j].x.percent) ∧ w.cell? ⟨g, j * 3 + 1, none⟩ = some (.int .i64 l[j].x.code) ∧ w.cell? ⟨g, j * 3 + 2, none⟩ = some (l[j].nv)) := by
  rcases h.2 with ⟨rfl, h0⟩ | ⟨g, cap, cur, rfl, hB, hg, h1, h2, h3, h4⟩
  · exact ⟨none, 0, by rw [h0], by omega, fun h => by omega⟩
  · refine ⟨_, cap, rfl, by omega, fun _ => ⟨g, rfl, hB, (Array.getElem?_eq_some_iff.1 hg).1, fun j hj => ?_⟩⟩
    simp only [World.cell?, hg]
    have h5 := StVsRow_at l j hj
    rw [← h4, List.getElem?_take, List.getElem?_take, List.getElem?_take, if_pos (by omega), if_pos (by omega), if_pos (by omega)] at h5
    simpa using h5
theorem OwnStVs.at {B : Nat} {w : World} {v : Value} {l : List StV} (h : OwnStVs B w v l) : StVsAt (fun b => B ≤ b ∧ b < w.heap.size) w v l := by
  obtain ⟨a, cap, hv, hl, hc⟩ := h.value
  refine ⟨hl, a, cap, hv, fun h0 => ?_⟩
  obtain ⟨g, rfl, hB, hg, hcell⟩ := hc h0
  refine ⟨g, 0, rfl, ⟨hB, hg⟩, fun i hi => ?_⟩
  simpa using hcell i hi
theorem OwnStVs.out {B : Nat} {S : Nat → Prop} {w w' : World} {v : Value} {l : List StV} (h : OwnStVs B w v l) (ho : OutS S w w') (hS : ∀ b, S b → b < B) : OwnStVs B w' v l := by
  obtain ⟨hl, h⟩ := h
  refine ⟨hl, ?_⟩
  rcases h with h | ⟨g, cap, cur, hv, hB, hg, h1⟩
  · exact .inl h
  · refine .inr ⟨g, cap, cur, hv, hB, ?_, h1⟩
    rw [ho.block g (Array.getElem?_eq_some_iff.1 hg).1 (fun hs => by have := hS g hs; omega)]; exact hg
theorem OwnStVs.blk {B b : Nat} {w : World} {v : Value} {l : List StV} (h : OwnStVs B w v l) (hb : BlkOf v b) : B ≤ b := by
  rcases h.2 with ⟨rfl, _⟩ | ⟨g, cap, cur, rfl, hB, _⟩
  · obtain ⟨_, _, h⟩ := hb; simp at h
  · rw [hb.eq]; exact hB
theorem OwnStVs.block {B : Nat} {w : World} {v : Value} {l : List StV} (h : OwnStVs B w v l) : ∀ k, v.ownBlock = some k → B ≤ k := by
  intro k hk
  rcases h.2 with ⟨rfl, _⟩ | ⟨g, cap, cur, rfl, hB, _⟩
  · simp [Value.ownBlock] at hk
  · simp [Value.ownBlock] at hk; omega
theorem OwnStVs.kept {B : Nat} {w w' : World} {v : Value} {l : List StV} {row : Option Nat} (h : OwnStVs B w v l) (hg : w.grownBy w' row) (hne : v.ownBlock = none ∨ v.ownBlock ≠ row) : OwnStVs B w' v l :=
  World.ownsRow.kept h hg hne
theorem OwnStVs.empty (B : Nat) (w : World) (hB : B ≤ w.heap.size) : OwnStVs B (w.alloc (.cells #[] 36)) (.slice (some ⟨w.heap.size, 0, none⟩) 0 0) [] :=
  ⟨rfl, .inr ⟨w.heap.size, 0, #[], rfl, hB, heap_alloc_last w _, Nat.le_refl _, Nat.zero_le _, rfl, rfl⟩⟩
theorem OwnStVs.nil (B : Nat) (w : World) : OwnStVs B w (.slice none 0 0) [] := ⟨rfl, .inl ⟨rfl, rfl⟩⟩
theorem StVsAt.news {S : Nat → Prop} {w : World} {b off len cap : Nat} {ys : List StV} (h : StVsAt S w (.slice (some ⟨b, off, none⟩) len cap) ys) : ∀ j u, (StVsRow ys)[j]? = some u → w.cell? ((⟨b, off, none⟩ : Addr).add j) = some u := by
  intro j u hj
  have hlt : j < ys.length * 3 := by
    have := (List.getElem?_eq_some_iff.1 hj).1
    rwa [StVsRow_length] at this
  obtain ⟨_, a, c, hv, hc⟩ := h
  obtain ⟨b', off', ha, _, hcell⟩ := hc (by omega)
  simp only [Value.slice.injEq] at hv
  obtain ⟨rfl, _, _⟩ := hv
  simp only [Option.some.injEq, Addr.mk.injEq] at ha
  obtain ⟨rfl, rfl, _⟩ := ha
  have hk : j / 3 < ys.length := by omega
  have hcc := hcell (j / 3) hk
  have hrr := StVsRow_at ys (j / 3) hk
  rw [addr_at]
  obtain ⟨c0, c1, c2⟩ := hcc
  obtain ⟨r0, r1, r2⟩ := hrr
  have h3 : j % 3 = 0 ∨ j % 3 = 1 ∨ j % 3 = 2 := by omega
  rcases h3 with h3 | h3 | h3
  · have e : j = j / 3 * 3 := by omega
    rw [e] at hj
    rw [r0] at hj
    rw [show off + j = off + j / 3 * 3 by omega, c0, ← hj]
  · have e : j = j / 3 * 3 + 1 := by omega
    rw [e] at hj
    rw [r1] at hj
    rw [show off + j = off + j / 3 * 3 + 1 by omega, c1, ← hj]
  · have e : j = j / 3 * 3 + 2 := by omega
    rw [e] at hj
    rw [r2] at hj
    rw [show off + j = off + j / 3 * 3 + 2 by omega, c2, ← hj]
theorem wpList_appendStVs {ops : Array Oper} {rest : List Oper} {o : Oper} {a : Act} {w : World} {Q : Exit → Act → World → Prop} (hgd : o.guard = none) (s x : Operand)
    (ho : o.op = .call { callee := .builtin .append, args := #[s, x], argTypes := #[32, 32] })
    (B : Nat) (v : Value) (l : List StV) (hs : a.eval s = v) (hown : OwnStVs B w v l) {S : Nat → Prop} (u : Value) (ys : List StV) (hx : a.eval x = u) (hsrc : StVsAt S w u ys)
    (hsz : l.length + ys.length ≤ 1000000) (hB : B ≤ w.heap.size) (hone : StVsOne ys)
    (h : ∀ v' w', OwnStVs B w' v' (l ++ ys) → Below B w w' → w.grownBy w' v.ownBlock → (v' = .slice none 0 0 → v = .slice none 0 0) → wpList Tryz.prog ops Q rest (a.put o.dst v') w') : wpList Tryz.prog ops Q (o :: rest) a w := by
  obtain ⟨i, hii, hz0, hz1, hz2⟩ := info_of (t := 36) (z := .agg #[.int .i64 0, .int .i64 0, .slice none 0 0]) (n := 3) (b := 40) (by kernel_rfl)
  obtain ⟨_, ao, c, hv, hc⟩ := id hsrc
  by_cases h0 : 0 < ys.length
  · obtain ⟨b, off, rfl, _, _⟩ := hc h0
    subst hv
    refine wpList_append_own w hgd s x 32 ho B 36 i (.agg #[.int .i64 0, .int .i64 0, .slice none 0 0]) 3 40 Tryz.underlying32 hii hz0 hz1 hz2 rfl (by decide) v l.length (StVsRow l) hs hown ⟨b, off, none⟩ ys.length c (StVsRow ys) hx (StVsRow_length ys) hsrc.news (fun u hu => StVsRow_one hone hu) ?_ ?_ hB ?_
    · unfold maxLen; omega
    · omega
    · intro v' w' h1 h2 h3
      have h4 : OwnStVs B w' v' (l ++ ys) := by
        unfold OwnStVs
        rw [StVsRow_append, List.length_append]
        exact h1
      have h5 := (Below.refl _ w).grown h2 hB (OwnStVs.block hown)
      exact h v' w' h4 h5 h2 (fun e => (h3.1 e).1)
  · have hy : ys = [] := List.length_eq_zero_iff.1 (by omega)
    subst hy
    subst hv
    have hrun : (Builtin.append_ #[32, 32] o.type #[v, .slice ao 0 c]).run Tryz.prog w = .ok v w := run_append_zero Tryz.underlying32 hii v _ _ hown ao c
    refine wpList_plain hgd fun K hK => ?_
    unfold Oper.wp
    simp only [List.length_nil] at hx
    simp [execOp, ho, resolve, invoke, builtin, hs, hx, hrun, Result.andThen]
    exact hK _ _ (h v w (by simpa using hown) (Below.refl _ _) (grown_refl _ _) id)
theorem step_appendStVs {ops : Array Oper} {o : Oper} {a : Act} {w : World} {K : Act → World → Prop} {Q : Exit → Act → World → Prop} {E : Prop}
    (hg : o.guard = none) (s x : Operand) (ho : o.op = Op.call { callee := Callee.builtin Builtin.append, args := #[s, x], argTypes := #[32, 32] })
    (B : Nat) (v : Value) (l : List StV) (hs : a.eval s = v) (hown : OwnStVs B w v l) {S : Nat → Prop} (u : Value) (ys : List StV) (hx : a.eval x = u) (hsrc : StVsAt S w u ys)
    (hsz : l.length + ys.length ≤ 1000000) (hB : B ≤ w.heap.size) (hone : StVsOne ys)
    (hK : ∀ va vn vc w', OwnStVs B w' (.slice va vn vc) (l ++ ys) → Below B w w' → w.grownBy w' v.ownBlock → (Value.slice va vn vc = .slice none 0 0 → v = .slice none 0 0) → K (a.put o.dst (.slice va vn vc)) w') :
    if Region.wanted o (yielded ops a.tmps) = true then Oper.wp Tryz.prog o a w K Q else E := by
  have hw : Region.wanted o (yielded ops a.tmps) = true := by simp [Region.wanted, hg]
  rw [if_pos hw]
  obtain ⟨i, hii, hz0, hz1, hz2⟩ := info_of (t := 36) (z := .agg #[.int .i64 0, .int .i64 0, .slice none 0 0]) (n := 3) (b := 40) (by kernel_rfl)
  obtain ⟨_, ao, c, hv, hc⟩ := id hsrc
  by_cases h0 : 0 < ys.length
  · obtain ⟨b, off, rfl, _, _⟩ := hc h0
    subst hv
    refine wp_append_own w  s x 32 ho B 36 i (.agg #[.int .i64 0, .int .i64 0, .slice none 0 0]) 3 40 Tryz.underlying32 hii hz0 hz1 hz2 rfl (by decide) v l.length (StVsRow l) hs hown ⟨b, off, none⟩ ys.length c (StVsRow ys) hx (StVsRow_length ys) hsrc.news (fun u hu => StVsRow_one hone hu) ?_ ?_ hB ?_
    · unfold maxLen; omega
    · omega
    · intro v' w' h1 h2 h3
      have h4 : OwnStVs B w' v' (l ++ ys) := by
        unfold OwnStVs
        rw [StVsRow_append, List.length_append]
        exact h1
      have h5 := (Below.refl _ w).grown h2 hB (OwnStVs.block hown)
      rcases h4.2 with ⟨rfl, _⟩ | ⟨g, cap, cur, rfl, _⟩
      · exact hK _ _ _ w' h4 h5 h2 (fun e => (h3.1 e).1)
      · exact hK _ _ _ w' h4 h5 h2 (fun e => (h3.1 e).1)
  · have hy : ys = [] := List.length_eq_zero_iff.1 (by omega)
    subst hy
    subst hv
    have hrun : (Builtin.append_ #[32, 32] o.type #[v, .slice ao 0 c]).run Tryz.prog w = .ok v w := run_append_zero Tryz.underlying32 hii v _ _ hown ao c
    unfold Oper.wp
    simp only [List.length_nil] at hx
    simp [execOp, ho, resolve, invoke, builtin, hs, hx, hrun, Result.andThen]
    obtain ⟨va, vc, hvv, _⟩ := hown.value
    subst hvv
    exact hK _ _ _ w (by simpa using hown) (Below.refl _ _) (grown_refl _ _) id
theorem StVsAt.newAt (w : World) (y : StV) (g : Nat) (hg : w.heap.size = g) : StVsAt (fun b => b = g) (w.alloc (.cells #[.int .i64 y.x.percent, .int .i64 y.x.code, y.nv] 36)) (.slice (some ⟨g, 0, none⟩) 1 1) [y] := by
  subst hg
  refine ⟨by simp [maxLen], _, 1, rfl, fun _ => ⟨w.heap.size, 0, rfl, rfl, fun i hi => ?_⟩⟩
  have hi0 : i = 0 := by simpa using hi
  subst hi0
  have hb : Blk (w.alloc (.cells #[.int .i64 y.x.percent, .int .i64 y.x.code, y.nv] 36)) w.heap.size 36 #[.int .i64 y.x.percent, .int .i64 y.x.code, y.nv] := heap_alloc_last w _
  exact ⟨hb.cell 0, hb.cell 1, hb.cell 2⟩
theorem StVsRow_take (l : List StV) (k : Nat) : StVsRow (l.take k) = (StVsRow l).take (k * 3) := by
  induction l generalizing k with
  | nil => simp [StVsRow]
  | cons a t ih =>
    cases k with
    | zero => simp [StVsRow]
    | succ k =>
      have hc : StVsRow (a :: t) = StVsCells a ++ StVsRow t := by simp [StVsRow]
      have hc2 : StVsRow (a :: t.take k) = StVsCells a ++ StVsRow (t.take k) := by simp [StVsRow]
      rw [List.take_succ_cons, hc, hc2, ih, List.take_append]
      have hl : (StVsCells a).length = 3 := rfl
      rw [List.take_of_length_le (l := StVsCells a) (by rw [hl]; omega), hl, show (k + 1) * 3 - 3 = k * 3 by omega]
theorem OwnStVs.take {B g m cap : Nat} {w : World} {l : List StV} (h : OwnStVs B w (.slice (some ⟨g, 0, none⟩) m cap) l) (k : Nat) (hk : k ≤ l.length) : OwnStVs B w (.slice (some ⟨g, 0, none⟩) k cap) (l.take k) := by
  rcases h.2 with ⟨hv, h0⟩ | ⟨g', cap', cur, hv, hB, hg, h1, h2, h3, h4⟩
  · simp at hv
  · simp at hv
    obtain ⟨rfl, rfl, rfl⟩ := hv
    have hkl : (l.take k).length = k := by rw [List.length_take]; omega
    unfold OwnStVs
    rw [hkl]
    refine ⟨by rw [StVsRow_length, hkl], .inr ⟨g, cap, cur, rfl, hB, hg, by omega, h2, h3, ?_⟩⟩
    rw [StVsRow_take, ← h4, List.take_take]
    congr 1
    omega
theorem OwnStVs.lt {B g m cap : Nat} {w : World} {l : List StV} (h : OwnStVs B w (.slice (some ⟨g, 0, none⟩) m cap) l) : g < w.heap.size ∧ B ≤ g ∧ m ≤ cap ∧ cap ≤ maxLen ∧ m = l.length := by
  rcases h.2 with ⟨hv, h0⟩ | ⟨g', cap', cur, hv, hB, hg, h1, h2, h3, h4⟩
  · simp at hv
  · simp at hv
    obtain ⟨rfl, rfl, rfl⟩ := hv
    exact ⟨(Array.getElem?_eq_some_iff.1 hg).1, hB, h1, h2, rfl⟩
theorem OwnStVs.cells {B g m c : Nat} {w : World} {l : List StV} (h : OwnStVs B w (.slice (some ⟨g, 0, none⟩) m c) l) : ∀ j (hj : j < l.length), w.cell? ⟨g, j * 3, none⟩ = some (.int .i64 l[j].x.percent) ∧ w.cell? ⟨g, j * 3 + 1, none⟩ = some (.int .i64 l[j].x.code) ∧ w.cell? ⟨g, j * 3 + 2, none⟩ = some (l[j].nv) := by
  intro j hj
  obtain ⟨a3, c3, hv, _, hc⟩ := h.value
  obtain ⟨g', hg', _, _, hcc⟩ := hc (by omega)
  subst hg'
  simp only [Value.slice.injEq, Option.some.injEq, Addr.mk.injEq, and_true] at hv
  obtain ⟨rfl, _, _⟩ := hv
  exact hcc j hj
theorem OwnStVs.dropAt {B g m cap : Nat} {w : World} {l : List StV} (h : OwnStVs B w (.slice (some ⟨g, 0, none⟩) m cap) l) (k : Nat) (hk : k ≤ l.length) (c : Nat) : StVsAt (fun b => b = g) w (.slice (some ⟨g, k * 3, none⟩) (l.length - k) c) (l.drop k) := by
  obtain ⟨_, _, h3, h4, h5⟩ := h.lt
  refine ⟨by rw [List.length_drop]; omega, _, c, by rw [List.length_drop], fun _ => ⟨g, k * 3, rfl, rfl, fun i hi => ?_⟩⟩
  have hc := h.cells (k + i) (by simp at hi; omega)
  simp only [List.getElem_drop]
  have e0 : k * 3 + i * 3 = (k + i) * 3 := by omega
  have e1 : k * 3 + i * 3 + 1 = (k + i) * 3 + 1 := by omega
  have e2 : k * 3 + i * 3 + 2 = (k + i) * 3 + 2 := by omega
  rw [e0]
  exact hc
theorem OwnStVs.solid {B : Nat} {w : World} {v : Value} {l : List StV} (h : OwnStVs B w v l) (hne : v ≠ .slice none 0 0) : ∃ g c, v = .slice (some ⟨g, 0, none⟩) l.length c ∧ B ≤ g := by
  rcases h.2 with ⟨hv, h0⟩ | ⟨g', cap', cur, hv, hB, hg, h1, h2, h3, h4⟩
  · exact absurd hv hne
  · exact ⟨g', cap', hv, hB⟩
theorem OwnStVs.shaped {B m : Nat} {w : World} {v : Value} {l : List StV} (h : OwnStVs B w v l) (hm : l.length = m) (hp : 0 < m) : ∃ g c, v = .slice (some ⟨g, 0, none⟩) m c ∧ B ≤ g := by
  rcases h.2 with ⟨hv, h0⟩ | ⟨g', cap', cur, hv, hB, hg, h1, h2, h3, h4⟩
  · omega
  · exact ⟨g', cap', by rw [hv, hm], hB⟩
end Go.Proofs.YtdlopjimheaekaaGreatDoor
