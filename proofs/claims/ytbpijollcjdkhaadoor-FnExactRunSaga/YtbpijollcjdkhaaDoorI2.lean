/-
  What impl.SagaOK answers. No statement of the seat is proved here.
-/
import Derived.Test.YtbpijollcjdkhaaDoorS2
import Derived.Test.YtbpijollcjdkhaaDoorJ0
namespace Go.Proofs.YtbpijollcjdkhaaDoor
open Go.ChangeShapes Go.WideShapes Go.ChangeAt Go.RowKit Go.Maps
set_option linter.unusedVariables false
set_option linter.unusedSimpArgs false

theorem beq_turn (a b : ByteArray) : (a.toList == b.toList) = (b.toList == a.toList) := by
  rw [beq_bytes, beq_bytes]
  by_cases h : a = b
  · subst h; rfl
  · rw [decide_eq_false h, decide_eq_false (fun e => h e.symm)]
theorem hasB_mem {ss : List ByteArray} {t : ByteArray} : hasB ss t = true ↔ t ∈ ss := by
  unfold hasB
  rw [List.any_eq_true]
  constructor
  · rintro ⟨x, hx, h⟩
    rw [beq_bytes] at h
    have := of_decide_eq_true h
    subst this; exact hx
  · intro h
    exact ⟨t, h, by simp⟩
theorem hasB_not {ss : List ByteArray} {t : ByteArray} : hasB ss t = false ↔ t ∉ ss := by
  rw [← hasB_mem]; cases hasB ss t <;> simp
/-- A slice that reads as these texts, out of blocks that are there. -/
def TxtsIn (w : World) (a : Option Addr) (ss : List ByteArray) : Prop := 0 < ss.length → ∃ b off, a = some ⟨b, off, none⟩ ∧ b < w.heap.size ∧ ∀ i (hi : i < ss.length), w.cell? ⟨b, off + i, none⟩ = some (.string ss[i])
theorem TxtsIn.below {w w' : World} {a : Option Addr} {ss : List ByteArray} (h : TxtsIn w a ss) (hb : Below w.heap.size w w') : TxtsIn w' a ss := fun h0 => by
  obtain ⟨b, off, h1, h2, h3⟩ := h h0
  exact ⟨b, off, h1, Nat.lt_of_lt_of_le h2 hb.size, fun i hi => (hb.cell (p := ⟨b, off + i, none⟩) h2).trans (h3 i hi)⟩

set_option maxRecDepth 100000 in
set_option maxHeartbeats 1000000 in
theorem implIndexS (ss : List ByteArray) (t : ByteArray) (a : Option Addr) (cap : Nat) (w : World) (hlen : ss.length ≤ 2000000) (hc : TxtsIn w a ss) :
    Calls Tryd.prog 82 #[.slice a ss.length cap, .string t] w fun e w' => (∃ r : Int, e = .returned (.int .i64 r) ∧ decide (0 ≤ r) = hasB ss t) ∧ w' = w := by
  have HC : Hid (TxtsIn w a ss) := hc
  have hlen' : (ss.length : Int) ≤ 2000000 := by omega
  clear hc
  go_enter Tryd.func82, Tryd.ntmps82
  go_wp2_with fail
  go_loopw [8] (fun i8 wr => ∃ (k : Nat), i8 = .int .i64 (k : Int) ∧ k ≤ ss.length ∧ hasB (ss.take k) t = false ∧ wr = w) (fun i8 _ => ss.length - (intOf i8).toNat)
  case atStart => exact ⟨0, rfl, by omega, by simp [hasB], rfl⟩
  case round =>
    obtain ⟨k, rfl, hk, hany, rfl⟩ := hrel
    have HA : Hid (hasB (ss.take k) t = false) := hany
    clear hany
    by_cases hkn : k < ss.length
    · have hkn' : (k : Int) < (ss.length : Int) := by omega
      obtain ⟨b, off, rfl, hg, hcell⟩ := HC.out (by omega)
      have x1 := hcell k hkn
      obtain ⟨x, hx⟩ : ∃ x, ss[k] = x := ⟨_, rfl⟩
      have HX : Hid (ss[k] = x) := hx
      rw [hx] at x1
      clear hx hcell
      by_cases he : (t.toList == x.toList) = true
      · go_wp2_with fail
        go_ret
        refine ⟨⟨_, rfl, ?_⟩, rfl⟩
        rw [show hasB ss t = true from List.any_eq_true.2 ⟨ss[k], List.getElem_mem hkn, by rw [HX.out, beq_turn]; exact he⟩]
        simp
      · have he' : (t.toList == x.toList) = false := by simpa using he
        clear he
        go_wp2_with fail
        refine ⟨⟨k + 1, rfl, by omega, ?_, by first | rfl | trivial⟩, by simp [intOf]; omega⟩
        have h0 := HA.out
        unfold hasB at h0 ⊢
        rw [List.take_succ_eq_append_getElem hkn, List.any_append, h0, HX.out]
        simp only [List.any_cons, List.any_nil, Bool.or_false, Bool.false_or]
        rw [beq_turn]; exact he'
    · have hkn' : ¬ ((k : Int) < (ss.length : Int)) := by omega
      have hA := HA.out
      rw [List.take_of_length_le (by omega)] at hA
      go_wp2_with fail
      go_ret
      refine ⟨⟨_, rfl, ?_⟩, rfl⟩
      first
        | (rw [hA]; rfl)
        | omega
set_option maxRecDepth 100000 in
theorem implHasS (ss : List ByteArray) (t : ByteArray) (a : Option Addr) (cap : Nat) (w : World) (hlen : ss.length ≤ 2000000) (hc : TxtsIn w a ss) :
    Calls Tryd.prog 63 #[.slice a ss.length cap, .string t] w fun e w' => e = .returned (.bool (hasB ss t)) ∧ w' = w := by
  have c := implIndexS ss t a cap w hlen hc
  clear hc
  go_enter Tryd.func63, Tryd.ntmps63
  go_wp2_with (go_at_call 82; go_must (refine c.mono ?_; rintro e w1 ⟨⟨r, rfl, hr⟩, rfl⟩))
  go_ret
  refine ⟨congrArg (fun b => Ending.returned (Value.bool b)) ?_, rfl⟩
  rw [← hr]
/-- A text that is none of these. -/
def noneB (pre : List ByteArray) (s : ByteArray) : Bool := !hasB pre s
set_option maxRecDepth 100000 in
theorem implNoneA (pre : List ByteArray) (s : ByteArray) (g : Nat) (a : Option Addr) (cap : Nat) (w : World) (hlen : pre.length ≤ 2000000) (hc : TxtsIn w a pre) (hg : w.cell? ⟨g, 0, none⟩ = some (.slice a pre.length cap)) :
    Calls Tryd.prog 83 #[.string s, .pointer (some ⟨g, 0, none⟩)] w fun e w' => e = .returned (.bool (noneB pre s)) ∧ w' = w := by
  have c := implHasS pre s a cap w hlen hc
  clear hc
  unfold noneB
  obtain ⟨b, hb⟩ : ∃ b, hasB pre s = b := ⟨_, rfl⟩
  rw [hb] at c ⊢
  clear hb
  go_enter Tryd.func83, Tryd.ntmps83
  go_wp2_with (go_at_call 63; go_must (refine c.mono ?_; rintro e w1 ⟨rfl, rfl⟩))
  go_ret
  exact ⟨by simp, rfl⟩
theorem any_takeA {α : Type} (l : List α) (f : α → Bool) (k : Nat) (h : k < l.length) (h0 : (l.take k).any f = false) (h1 : f l[k] = false) : (l.take (k + 1)).any f = false := by
  rw [List.take_succ_eq_append_getElem h, List.any_append, h0]
  simp [h1]
set_option maxRecDepth 100000 in
set_option maxHeartbeats 1000000 in
theorem implIndexA (pre ss : List ByteArray) (g : Nat) (a a2 : Option Addr) (cap cap2 : Nat) (w : World) (hlen : pre.length ≤ 2000000) (hlen2 : ss.length ≤ 2000000) (hc : TxtsIn w a pre) (hc2 : TxtsIn w a2 ss) (hg : w.cell? ⟨g, 0, none⟩ = some (.slice a pre.length cap)) :
    Calls Tryd.prog 95 #[.slice a2 ss.length cap2, .func (.func 83) #[] #[.pointer (some ⟨g, 0, none⟩)]] w fun e w' => (∃ r : Int, e = .returned (.int .i64 r) ∧ decide (0 ≤ r) = ss.any (noneB pre)) ∧ w' = w := by
  have HC : Hid (TxtsIn w a2 ss) := hc2
  have cn := fun s => implNoneA pre s g a cap w hlen hc hg
  have hlen' : (ss.length : Int) ≤ 2000000 := by omega
  clear hc hc2
  go_enter Tryd.func95, Tryd.ntmps95
  go_wp2_with fail
  go_loopw [8] (fun i8 wr => ∃ (k : Nat), i8 = .int .i64 (k : Int) ∧ k ≤ ss.length ∧ (ss.take k).any (noneB pre) = false ∧ wr = w) (fun i8 _ => ss.length - (intOf i8).toNat)
  case atStart => exact ⟨0, rfl, by omega, by simp, rfl⟩
  case round =>
    obtain ⟨k, rfl, hk, hany, rfl⟩ := hrel
    have HA : Hid ((ss.take k).any (noneB pre) = false) := hany
    clear hany
    by_cases hkn : k < ss.length
    · have hkn' : (k : Int) < (ss.length : Int) := by omega
      obtain ⟨b, off, rfl, hg2, hcell⟩ := HC.out (by omega)
      have x1 := hcell k hkn
      obtain ⟨x, hx⟩ : ∃ x, ss[k] = x := ⟨_, rfl⟩
      have HX : Hid (ss[k] = x) := hx
      rw [hx] at x1
      clear hx hcell
      have cx := cn x
      obtain ⟨B1, hB1⟩ : ∃ B1, noneB pre x = B1 := ⟨_, rfl⟩
      rw [hB1] at cx
      have HB1 : Hid (noneB pre x = B1) := hB1
      clear hB1 cn
      cases B1
      · go_wp2_with (go_at_call 83; go_must (refine cx.mono ?_; rintro e w1 ⟨rfl, rfl⟩))
        exact ⟨⟨k + 1, rfl, by omega, any_takeA ss _ k hkn HA.out (by rw [HX.out]; exact HB1.out), by first | rfl | trivial⟩, by simp [intOf]; omega⟩
      · go_wp2_with (go_at_call 83; go_must (refine cx.mono ?_; rintro e w1 ⟨rfl, rfl⟩))
        go_ret
        refine ⟨⟨_, rfl, ?_⟩, rfl⟩
        rw [List.any_eq_true.2 ⟨ss[k], List.getElem_mem hkn, by rw [HX.out]; exact HB1.out⟩]
        simp
    · have hkn' : ¬ ((k : Int) < (ss.length : Int)) := by omega
      have hA := HA.out
      rw [List.take_of_length_le (by omega)] at hA
      go_wp2_with fail
      go_ret
      refine ⟨⟨_, rfl, ?_⟩, rfl⟩
      first
        | (rw [hA]; rfl)
        | omega
set_option maxRecDepth 100000 in
theorem implContainsA (pre ss : List ByteArray) (g : Nat) (a a2 : Option Addr) (cap cap2 : Nat) (w : World) (hlen : pre.length ≤ 2000000) (hlen2 : ss.length ≤ 2000000) (hc : TxtsIn w a pre) (hc2 : TxtsIn w a2 ss) (hg : w.cell? ⟨g, 0, none⟩ = some (.slice a pre.length cap)) :
    Calls Tryd.prog 84 #[.slice a2 ss.length cap2, .func (.func 83) #[] #[.pointer (some ⟨g, 0, none⟩)]] w fun e w' => e = .returned (.bool (ss.any (noneB pre))) ∧ w' = w := by
  have c := implIndexA pre ss g a a2 cap cap2 w hlen hlen2 hc hc2 hg
  clear hc hc2 hg
  go_enter Tryd.func84, Tryd.ntmps84
  go_wp2_with (go_at_call 95; go_must (refine c.mono ?_; rintro e w1 ⟨⟨r, rfl, hr⟩, rfl⟩))
  go_ret
  refine ⟨congrArg (fun b => Ending.returned (Value.bool b)) ?_, rfl⟩
  rw [← hr]

set_option maxRecDepth 100000 in
set_option maxHeartbeats 1000000 in
theorem implTwiceO (ss : List ByteArray) (a : Option Addr) (cap : Nat) (w : World) (hlen : ss.length ≤ 1000000) (hsz : ∀ s ∈ ss, s.size ≤ 1048576) (hc : TxtsIn w a ss) :
    Calls Tryd.prog 96 #[.slice a ss.length cap] w fun e w' => (∃ t, e = .returned (.tuple #[.string t, .bool (dupFrom ss [])])) ∧ Below w.heap.size w w' := by
  have hmm := @run_makeMap Tryd.prog
  have HC : Hid (TxtsIn w a ss) := hc
  have hlen' : (ss.length : Int) ≤ 1000000 := by omega
  have HZ : Hid (∀ s ∈ ss, s.size ≤ 1048576) := hsz
  clear hc hsz
  obtain ⟨F, hF⟩ : ∃ F, dupFrom ss [] = F := ⟨_, rfl⟩
  rw [hF]
  have HF : Hid (dupFrom ss [] = F) := hF
  clear hF
  go_enter Tryd.func96, Tryd.ntmps96
  go_wp2_with fail
  go_loopw [11] (fun i11 wr => ∃ (k : Nat) (f : Lit → Int), i11 = .int .i64 (k : Int) ∧ k ≤ ss.length ∧ Counts wr 9 w.heap.size k f ∧ Seen f (ss.take k) ∧ dupFrom (ss.drop k) (ss.take k) = F ∧ Below w.heap.size w wr) (fun i11 _ => ss.length - (intOf i11).toNat)
  case atStart => exact ⟨0, _, rfl, by omega, Counts.made _ _, by simpa using Seen.nil, by simpa using HF.out, (Below.refl _ w).alloc (Nat.le_refl _) _⟩
  case round =>
    obtain ⟨k, f, rfl, hk, hcn, hse, hfr, hb⟩ := hrel
    by_cases hkn : k < ss.length
    · have hkn' : (k : Int) < (ss.length : Int) := by omega
      obtain ⟨g, off, rfl, hgw, hcell⟩ := HC.out (by omega)
      have x1 := hcell k hkn
      rw [List.drop_eq_getElem_cons hkn] at hfr
      have hz := HZ.out ss[k] (List.getElem_mem hkn)
      have htk : ss.take (k + 1) = ss.take k ++ [ss[k]] := List.take_succ_eq_append_getElem hkn
      obtain ⟨s, hs⟩ : ∃ s, ss[k] = s := ⟨_, rfl⟩
      rw [hs] at x1 hfr hz htk
      clear hs hcell
      have d1 := (hb.cell (p := ⟨g, off + k, none⟩) hgw).trans x1
      have hkey : keyOf Tryd.prog 9 (.string s) = some (textKey s) := key9 (by simp [maxLen]; omega)
      have hfs := hse s
      simp only [dupFrom] at hfr
      obtain ⟨B1, hB1⟩ : ∃ B1, hasB (ss.take k) s = B1 := ⟨_, rfl⟩
      rw [hB1] at hfr hfs
      have hlk := (hcn.look law9 Tryd.underlying119 hkey).1
      clear x1 hB1
      have HCN : Hid _ := hcn
      have HSE : Hid _ := hse
      have HFR : Hid _ := hfr
      have HTK : Hid _ := htk
      have HKY : Hid _ := hkey
      clear hcn hse hfr htk hkey
      cases B1
      · rw [if_neg (by simp)] at hfs
        rw [hfs] at hlk
        clear hfs
        go_wp2_with (first
          | (at_mapUpdate; go_must (refine wpList_storeC _ rfl _ _ _ 119 rfl 9 law9 Tryd.underlying119 w.heap.size k f rfl HCN.out (by simp [maxLen]; omega) _ 1 _ rfl rfl HKY.out (by decide) ?_; intro w1 hc1 hg1; have HC1 : Hid _ := hc1; clear hc1))
          | (at_lookup; have hchk := HC1; refine wpList_lookC _ rfl _ _ 119 rfl 9 law9 Tryd.underlying119 w.heap.size (k + 1) _ rfl HC1.out _ _ rfl HKY.out ?_; rw [upd_same (by exact trivial)]))
        have hbb := hb.grown hg1 hb.size (fun j hj => by cases hj; exact Nat.le_refl _)
        refine ⟨⟨k + 1, _, rfl, by omega, HC1.out, ?_, ?_, hbb⟩, by simp [intOf]; omega⟩
        · rw [HTK.out]; exact Seen.put HSE.out s
        · have := HFR.out
          rw [if_neg (by simp)] at this
          rw [HTK.out]; exact this
      · rw [if_pos rfl] at hfs
        rw [hfs] at hlk
        clear hfs
        have hF := HFR.out
        rw [if_pos rfl] at hF
        subst hF
        go_wp2_with (first
          | (at_mapUpdate; go_must (refine wpList_storeC _ rfl _ _ _ 119 rfl 9 law9 Tryd.underlying119 w.heap.size k f rfl HCN.out (by simp [maxLen]; omega) _ 2 _ rfl rfl HKY.out (by decide) ?_; intro w1 hc1 hg1; have HC1 : Hid _ := hc1; clear hc1))
          | (at_lookup; have hchk := HC1; refine wpList_lookC _ rfl _ _ 119 rfl 9 law9 Tryd.underlying119 w.heap.size (k + 1) _ rfl HC1.out _ _ rfl HKY.out ?_; rw [upd_same (by exact trivial)]))
        have hbb := hb.grown hg1 hb.size (fun j hj => by cases hj; exact Nat.le_refl _)
        go_ret2
        exact ⟨⟨_, rfl⟩, hbb⟩
    · have hkn' : ¬ ((k : Int) < (ss.length : Int)) := by omega
      rw [List.drop_eq_nil_of_le (by omega)] at hfr
      simp only [dupFrom] at hfr
      subst hfr
      go_wp2_with fail
      go_ret2
      exact ⟨⟨_, rfl⟩, hb⟩
set_option maxRecDepth 100000 in
theorem implSingleO (ss : List ByteArray) (a : Option Addr) (cap : Nat) (w : World) (hlen : ss.length ≤ 1000000) (hsz : ∀ s ∈ ss, s.size ≤ 1048576) (hc : TxtsIn w a ss) :
    Calls Tryd.prog 85 #[.slice a ss.length cap] w fun e w' => e = .returned (.bool (!dupFrom ss [])) ∧ Below w.heap.size w w' := by
  have c := implTwiceO ss a cap w hlen hsz hc
  clear hc hsz
  obtain ⟨D, hD⟩ : ∃ D, dupFrom ss [] = D := ⟨_, rfl⟩
  rw [hD] at c ⊢
  clear hD
  go_enter Tryd.func85, Tryd.ntmps85
  go_wp2_with (go_at_call 96; go_must (refine c.mono ?_; rintro e w1 ⟨⟨t, rfl⟩, hb1⟩))
  go_ret
  exact ⟨by simp, hb1⟩
/-- Needs that are names of steps ahead, none twice. -/
def aheadB (pre needs : List ByteArray) : Bool := decide (needs.length ≤ pre.length) && !needs.any (noneB pre) && !dupFrom needs []
set_option maxRecDepth 100000 in
set_option maxHeartbeats 1000000 in
theorem implAhead (pre ss : List ByteArray) (a a2 : Option Addr) (cap cap2 : Nat) (w : World) (hlen : pre.length ≤ 1000000) (hlen2 : ss.length ≤ 1048576) (hsz : ∀ s ∈ ss, s.size ≤ 1048576) (hc : TxtsIn w a pre) (hc2 : TxtsIn w a2 ss) :
    Calls Tryd.prog 64 #[.slice a2 ss.length cap2, .slice a pre.length cap] w fun e w' => e = .returned (.bool (aheadB pre ss)) ∧ Below w.heap.size w w' := by
  have hmf : ∀ (fn : Fn) (first cap : Array Value) (w : World), (Instr.makeFunc fn first cap).run Tryd.prog w = .ok (.func fn first cap) w := fun _ _ _ _ => rfl
  have hbA : Below w.heap.size w (w.alloc (.cells #[.slice a pre.length cap] 28)) := (Below.refl _ w).alloc (Nat.le_refl _) _
  have hbk : Blk (w.alloc (.cells #[.slice a pre.length cap] 28)) w.heap.size 28 #[.slice a pre.length cap] := heap_alloc_last w _
  have hcel := hbk.cell 0
  simp only [List.size_toArray, List.length_cons, List.length_nil, List.getElem_toArray, List.getElem_cons_zero, Nat.zero_add, Nat.lt_add_one, Array.getElem?_eq_getElem] at hcel
  have c1 := implContainsA pre ss w.heap.size a a2 cap cap2 _ (by omega) (by omega) (hc.below hbA) (hc2.below hbA) hcel
  have c2 := fun (h : ss.length ≤ 1000000) => implSingleO ss a2 cap2 _ h hsz (hc2.below hbA)
  have hlen' : (pre.length : Int) ≤ 1000000 := by omega
  have hlen2' : (ss.length : Int) ≤ 1048576 := by omega
  clear hc hc2 hsz hbk
  by_cases hl : ss.length ≤ pre.length
  case neg =>
    have hl' : ¬ ((ss.length : Int) ≤ (pre.length : Int)) := by omega
    have hr : aheadB pre ss = false := by unfold aheadB; rw [decide_eq_false hl]; rfl
    rw [hr]
    clear c1 c2 hr
    go_enter Tryd.func64, Tryd.ntmps64
    go_wp2_with fail
    go_ret
    exact ⟨rfl, hbA⟩
  have hl' : (ss.length : Int) ≤ (pre.length : Int) := by omega
  have c3 := c2 (by omega)
  clear c2
  have hr : aheadB pre ss = (!ss.any (noneB pre) && !dupFrom ss []) := by unfold aheadB; rw [decide_eq_true hl]; rfl
  rw [hr]
  obtain ⟨A, hA⟩ : ∃ A, ss.any (noneB pre) = A := ⟨_, rfl⟩
  obtain ⟨D, hD⟩ : ∃ D, dupFrom ss [] = D := ⟨_, rfl⟩
  rw [hA] at c1
  rw [hD] at c3
  rw [hA, hD]
  clear hA hD hr
  cases A
  · go_enter Tryd.func64, Tryd.ntmps64
    go_wp2_with (first
      | (go_at_call 84; go_must (refine c1.mono ?_; rintro e w1 ⟨rfl, rfl⟩))
      | (go_at_call 85; go_must (refine c3.mono ?_; rintro e w2 ⟨rfl, hb2⟩)))
    go_ret
    exact ⟨by simp, good_below hbA hb2⟩
  · go_enter Tryd.func64, Tryd.ntmps64
    go_wp2_with (go_at_call 84; go_must (refine c1.mono ?_; rintro e w1 ⟨rfl, rfl⟩))
    go_ret
    exact ⟨by simp, hbA⟩
set_option maxRecDepth 100000 in
theorem implBetween (r lo hi : Int) (w : World) : Calls Tryd.prog 49 #[.int .i64 r, .int .i64 lo, .int .i64 hi] w fun e w' => e = .returned (.bool (decide (lo ≤ r) && decide (r ≤ hi))) ∧ w' = w := by
  go_enter Tryd.func49, Tryd.ntmps49
  go_wp2_with fail
  all_goals
    go_ret
    refine ⟨congrArg (fun b => Ending.returned (Value.bool b)) ?_, rfl⟩
    simp
    try omega
/-- A step, as the program asks. -/
def stepI (pre : List ByteArray) (x : Step) : Bool := nameOK x.name && !hasB pre x.name && aheadB pre x.needs && (decide (1 ≤ x.tries) && decide (x.tries ≤ 5))
set_option maxRecDepth 100000 in
set_option maxHeartbeats 2000000 in
theorem implStep (pre : List ByteArray) (xn : ByteArray) (xs : List ByteArray) (xu : Bool) (xt : Int) (a a2 : Option Addr) (cap cap2 : Nat) (w : World) (hlen : pre.length ≤ 1000000) (hlen2 : xs.length ≤ 1048576) (hsz : ∀ s ∈ xs, s.size ≤ 1048576) (hc : TxtsIn w a pre) (hc2 : TxtsIn w a2 xs) (hT : Lib.Utf8Tabs 0 1 w) :
    Calls Tryd.prog 50 #[.agg #[.string xn, .slice a2 xs.length cap2, .bool xu, .int .i64 xt], .slice a pre.length cap] w fun e w' => e = .returned (.bool (stepI pre ⟨xn, xs, xu, xt⟩)) ∧ Below w.heap.size w w' := by
  have hbA : Below w.heap.size w (w.alloc (.cells #[.string xn, .slice a2 xs.length cap2, .bool xu, .int .i64 xt] 56)) := (Below.refl _ w).alloc (Nat.le_refl _) _
  have hbk : Blk (w.alloc (.cells #[.string xn, .slice a2 xs.length cap2, .bool xu, .int .i64 xt] 56)) w.heap.size 56 #[.string xn, .slice a2 xs.length cap2, .bool xu, .int .i64 xt] := heap_alloc_last w _
  obtain ⟨wA, hwA⟩ : ∃ wA, w.alloc (.cells #[.string xn, .slice a2 xs.length cap2, .bool xu, .int .i64 xt] 56) = wA := ⟨_, rfl⟩
  have c1 := fun W (hW : Below w.heap.size w W) => implNameOK xn W (Utf8Tabs_below hT hW)
  have c2 := fun W (hW : Below w.heap.size w W) => implHasS pre xn a cap W (by omega) (hc.below hW)
  have c3 := fun W (hW : Below w.heap.size w W) => implAhead pre xs a a2 cap cap2 W hlen hlen2 hsz (hc.below hW) (hc2.below hW)
  have c4 := fun W => implBetween xt 1 5 W
  have HBK : Hid (∀ W, Below wA.heap.size wA W → Blk W w.heap.size 56 #[.string xn, .slice a2 xs.length cap2, .bool xu, .int .i64 xt]) := fun W hW => Blk.below (by rw [← hwA]; exact hbk) hW
  have HBA : Hid (Below w.heap.size w wA) := by rw [← hwA]; exact hbA
  unfold stepI
  dsimp only
  obtain ⟨F1, hF1⟩ : ∃ F, nameOK xn = F := ⟨_, rfl⟩
  obtain ⟨F2, hF2⟩ : ∃ F, hasB pre xn = F := ⟨_, rfl⟩
  obtain ⟨F3, hF3⟩ : ∃ F, aheadB pre xs = F := ⟨_, rfl⟩
  obtain ⟨F4, hF4⟩ : ∃ F, (decide (1 ≤ xt) && decide (xt ≤ 5)) = F := ⟨_, rfl⟩
  simp only [hF1] at c1
  simp only [hF2] at c2
  simp only [hF3] at c3
  simp only [hF4] at c4
  rw [hF1, hF2, hF3, hF4]
  have e1 := fun W (hW : Below wA.heap.size wA W) => (HBK.out W hW).cell 0
  have e2 := fun W (hW : Below wA.heap.size wA W) => (HBK.out W hW).cell 1
  have e3 := fun W (hW : Below wA.heap.size wA W) => (HBK.out W hW).cell 3
  simp at e1 e2 e3
  have q1 := e1 _ (Below.refl _ _)
  clear hF1 hF2 hF3 hF4 hc hc2 hT hsz hbk hbA
  cases F1
  · go_enter Tryd.func50, Tryd.ntmps50
    go_wp2_with (go_at_call 62; go_must (refine (c1 _ HBA.out).mono ?_; rintro e w1 ⟨rfl, hb1⟩))
    go_ret
    exact ⟨by simp, good_below HBA.out hb1⟩
  cases F2
  case true =>
    go_enter Tryd.func50, Tryd.ntmps50
    go_wp2_with (first
      | (go_at_call 62; go_must (refine (c1 _ HBA.out).mono ?_; rintro e w1 ⟨rfl, hb1⟩; have q2 := e1 _ hb1))
      | (go_at_call 63; go_must (refine (c2 _ (good_below HBA.out hb1)).mono ?_; rintro e w2 ⟨rfl, rfl⟩)))
    go_ret
    exact ⟨by simp, good_below HBA.out hb1⟩
  cases F3
  case false =>
    go_enter Tryd.func50, Tryd.ntmps50
    go_wp2_with (first
      | (go_at_call 62; go_must (refine (c1 _ HBA.out).mono ?_; rintro e w1 ⟨rfl, hb1⟩; have q2 := e1 _ hb1; have q3 := e2 _ hb1))
      | (go_at_call 63; go_must (refine (c2 _ (good_below HBA.out hb1)).mono ?_; rintro e w2 ⟨rfl, rfl⟩))
      | (go_at_call 64; go_must (refine (c3 _ (good_below HBA.out hb1)).mono ?_; rintro e w3 ⟨rfl, hb3⟩)))
    go_ret
    exact ⟨by simp, good_below HBA.out (good_below hb1 hb3)⟩
  · go_enter Tryd.func50, Tryd.ntmps50
    go_wp2_with (first
      | (go_at_call 62; go_must (refine (c1 _ HBA.out).mono ?_; rintro e w1 ⟨rfl, hb1⟩; have q2 := e1 _ hb1; have q3 := e2 _ hb1))
      | (go_at_call 63; go_must (refine (c2 _ (good_below HBA.out hb1)).mono ?_; rintro e w2 ⟨rfl, rfl⟩))
      | (go_at_call 64; go_must (refine (c3 _ (good_below HBA.out hb1)).mono ?_; rintro e w3 ⟨rfl, hb3⟩; have q4 := e3 _ (good_below hb1 hb3)))
      | (go_at_call 49; go_must (refine (c4 _).mono ?_; rintro e w4 ⟨rfl, rfl⟩)))
    go_ret
    exact ⟨by simp, good_below HBA.out (good_below hb1 hb3)⟩
end Go.Proofs.YtbpijollcjdkhaaDoor
