/-
  What impl.SagaOK answers. What impl.SagaOK answers: its walk. The program's run of a saga as it lies in memory; what its find answers. A statement that leaves its order open and whose last operation waits for all the others: the others in any order, then that one. What the program's order, begin and takeBack do. What the program's begin, takeBack and isReady do. No statement of the seat is proved here.
-/
import Derived.Test.YtdheogonghcokaaGreatDoorZj3
import Derived.OrdersHeld
import Derived.StillTail
import Derived.Deep.RegionHeld3
namespace Go.Proofs.YtdheogonghcokaaGreatDoor
open Go.ChangeShapes Go.WideShapes Go.ChangeAt Go.RowKit Go.Maps
set_option linter.unusedVariables false
set_option linter.unusedSimpArgs false

theorem beq_turn (a b : ByteArray) : (a.toList == b.toList) = (b.toList == a.toList) := by
  rw [beq_bytes, beq_bytes]
  by_cases h : a = b
  · subst h; rfl
  · rw [decide_eq_false h, decide_eq_false (fun e => h e.symm)]
theorem hasB_mem {ss : List ByteArray} {t : ByteArray} : hasB ss t = true ↔ t ∈ ss := by
  unfold hasB
  rw [List.any_eq_true]
  constructor
  · rintro ⟨x, hx, h⟩
    rw [beq_bytes] at h
    have := of_decide_eq_true h
    subst this; exact hx
  · intro h
    exact ⟨t, h, by simp⟩
theorem hasB_not {ss : List ByteArray} {t : ByteArray} : hasB ss t = false ↔ t ∉ ss := by
  rw [← hasB_mem]; cases hasB ss t <;> simp
/-- A slice that reads as these texts, out of blocks that are there. -/
def TxtsIn (w : World) (a : Option Addr) (ss : List ByteArray) : Prop := 0 < ss.length → ∃ b off, a = some ⟨b, off, none⟩ ∧ b < w.heap.size ∧ ∀ i (hi : i < ss.length), w.cell? ⟨b, off + i, none⟩ = some (.string ss[i])
theorem TxtsIn.below {w w' : World} {a : Option Addr} {ss : List ByteArray} (h : TxtsIn w a ss) (hb : Below w.heap.size w w') : TxtsIn w' a ss := fun h0 => by
  obtain ⟨b, off, h1, h2, h3⟩ := h h0
  exact ⟨b, off, h1, Nat.lt_of_lt_of_le h2 hb.size, fun i hi => (hb.cell (p := ⟨b, off + i, none⟩) h2).trans (h3 i hi)⟩

set_option maxRecDepth 100000 in
set_option maxHeartbeats 1000000 in
theorem implIndexS (ss : List ByteArray) (t : ByteArray) (a : Option Addr) (cap : Nat) (w : World) (hlen : ss.length ≤ 2000000) (hc : TxtsIn w a ss) :
    Calls Tryz.prog 68 #[.slice a ss.length cap, .string t] w fun e w' => (∃ r : Int, e = .returned (.int .i64 r) ∧ decide (0 ≤ r) = hasB ss t) ∧ w' = w := by
  have HC : Hid (TxtsIn w a ss) := hc
  have hlen' : (ss.length : Int) ≤ 2000000 := by omega
  clear hc
  go_enter Tryz.func68, Tryz.ntmps68
  go_wp2_with fail
  go_loopw [8] (fun i8 wr => ∃ (k : Nat), i8 = .int .i64 (k : Int) ∧ k ≤ ss.length ∧ hasB (ss.take k) t = false ∧ wr = w) (fun i8 _ => ss.length - (intOf i8).toNat)
  case atStart => exact ⟨0, rfl, by omega, by simp [hasB], rfl⟩
  case round =>
    obtain ⟨k, rfl, hk, hany, rfl⟩ := hrel
    have HA : Hid (hasB (ss.take k) t = false) := hany
    clear hany
    by_cases hkn : k < ss.length
    · have hkn' : (k : Int) < (ss.length : Int) := by omega
      obtain ⟨b, off, rfl, hg, hcell⟩ := HC.out (by omega)
      have x1 := hcell k hkn
      obtain ⟨x, hx⟩ : ∃ x, ss[k] = x := ⟨_, rfl⟩
      have HX : Hid (ss[k] = x) := hx
      rw [hx] at x1
      clear hx hcell
      by_cases he : (t.toList == x.toList) = true
      · go_wp2_with fail
        go_ret
        refine ⟨⟨_, rfl, ?_⟩, rfl⟩
        rw [show hasB ss t = true from List.any_eq_true.2 ⟨ss[k], List.getElem_mem hkn, by rw [HX.out, beq_turn]; exact he⟩]
        simp
      · have he' : (t.toList == x.toList) = false := by simpa using he
        clear he
        go_wp2_with fail
        refine ⟨⟨k + 1, rfl, by omega, ?_, by first | rfl | trivial⟩, by simp [intOf]; omega⟩
        have h0 := HA.out
        unfold hasB at h0 ⊢
        rw [List.take_succ_eq_append_getElem hkn, List.any_append, h0, HX.out]
        simp only [List.any_cons, List.any_nil, Bool.or_false, Bool.false_or]
        rw [beq_turn]; exact he'
    · have hkn' : ¬ ((k : Int) < (ss.length : Int)) := by omega
      have hA := HA.out
      rw [List.take_of_length_le (by omega)] at hA
      go_wp2_with fail
      go_ret
      refine ⟨⟨_, rfl, ?_⟩, rfl⟩
      first
        | (rw [hA]; rfl)
        | omega
set_option maxRecDepth 100000 in
theorem implHasS (ss : List ByteArray) (t : ByteArray) (a : Option Addr) (cap : Nat) (w : World) (hlen : ss.length ≤ 2000000) (hc : TxtsIn w a ss) :
    Calls Tryz.prog 46 #[.slice a ss.length cap, .string t] w fun e w' => e = .returned (.bool (hasB ss t)) ∧ w' = w := by
  have c := implIndexS ss t a cap w hlen hc
  clear hc
  go_enter Tryz.func46, Tryz.ntmps46
  go_wp2_with (go_at_call 68; go_must (refine c.mono ?_; rintro e w1 ⟨⟨r, rfl, hr⟩, rfl⟩))
  go_ret
  refine ⟨congrArg (fun b => Ending.returned (Value.bool b)) ?_, rfl⟩
  rw [← hr]
/-- A text that is none of these. -/
def noneB (pre : List ByteArray) (s : ByteArray) : Bool := !hasB pre s
set_option maxRecDepth 100000 in
theorem implNoneA (pre : List ByteArray) (s : ByteArray) (g : Nat) (a : Option Addr) (cap : Nat) (w : World) (hlen : pre.length ≤ 2000000) (hc : TxtsIn w a pre) (hg : w.cell? ⟨g, 0, none⟩ = some (.slice a pre.length cap)) :
    Calls Tryz.prog 89 #[.string s, .pointer (some ⟨g, 0, none⟩)] w fun e w' => e = .returned (.bool (noneB pre s)) ∧ w' = w := by
  have c := implHasS pre s a cap w hlen hc
  clear hc
  unfold noneB
  obtain ⟨b, hb⟩ : ∃ b, hasB pre s = b := ⟨_, rfl⟩
  rw [hb] at c ⊢
  clear hb
  go_enter Tryz.func89, Tryz.ntmps89
  go_wp2_with (go_at_call 46; go_must (refine c.mono ?_; rintro e w1 ⟨rfl, rfl⟩))
  go_ret
  exact ⟨by simp, rfl⟩
theorem any_takeA {α : Type} (l : List α) (f : α → Bool) (k : Nat) (h : k < l.length) (h0 : (l.take k).any f = false) (h1 : f l[k] = false) : (l.take (k + 1)).any f = false := by
  rw [List.take_succ_eq_append_getElem h, List.any_append, h0]
  simp [h1]
set_option maxRecDepth 100000 in
set_option maxHeartbeats 1000000 in
theorem implIndexA (pre ss : List ByteArray) (g : Nat) (a a2 : Option Addr) (cap cap2 : Nat) (w : World) (hlen : pre.length ≤ 2000000) (hlen2 : ss.length ≤ 2000000) (hc : TxtsIn w a pre) (hc2 : TxtsIn w a2 ss) (hg : w.cell? ⟨g, 0, none⟩ = some (.slice a pre.length cap)) :
    Calls Tryz.prog 61 #[.slice a2 ss.length cap2, .func (.func 89) #[] #[.pointer (some ⟨g, 0, none⟩)]] w fun e w' => (∃ r : Int, e = .returned (.int .i64 r) ∧ decide (0 ≤ r) = ss.any (noneB pre)) ∧ w' = w := by
  have HC : Hid (TxtsIn w a2 ss) := hc2
  have cn := fun s => implNoneA pre s g a cap w hlen hc hg
  have hlen' : (ss.length : Int) ≤ 2000000 := by omega
  clear hc hc2
  go_enter Tryz.func61, Tryz.ntmps61
  go_wp2_with fail
  go_loopw [8] (fun i8 wr => ∃ (k : Nat), i8 = .int .i64 (k : Int) ∧ k ≤ ss.length ∧ (ss.take k).any (noneB pre) = false ∧ wr = w) (fun i8 _ => ss.length - (intOf i8).toNat)
  case atStart => exact ⟨0, rfl, by omega, by simp, rfl⟩
  case round =>
    obtain ⟨k, rfl, hk, hany, rfl⟩ := hrel
    have HA : Hid ((ss.take k).any (noneB pre) = false) := hany
    clear hany
    by_cases hkn : k < ss.length
    · have hkn' : (k : Int) < (ss.length : Int) := by omega
      obtain ⟨b, off, rfl, hg2, hcell⟩ := HC.out (by omega)
      have x1 := hcell k hkn
      obtain ⟨x, hx⟩ : ∃ x, ss[k] = x := ⟨_, rfl⟩
      have HX : Hid (ss[k] = x) := hx
      rw [hx] at x1
      clear hx hcell
      have cx := cn x
      obtain ⟨B1, hB1⟩ : ∃ B1, noneB pre x = B1 := ⟨_, rfl⟩
      rw [hB1] at cx
      have HB1 : Hid (noneB pre x = B1) := hB1
      clear hB1 cn
      cases B1
      · go_wp2_with (go_at_call 89; go_must (refine cx.mono ?_; rintro e w1 ⟨rfl, rfl⟩))
        exact ⟨⟨k + 1, rfl, by omega, any_takeA ss _ k hkn HA.out (by rw [HX.out]; exact HB1.out), by first | rfl | trivial⟩, by simp [intOf]; omega⟩
      · go_wp2_with (go_at_call 89; go_must (refine cx.mono ?_; rintro e w1 ⟨rfl, rfl⟩))
        go_ret
        refine ⟨⟨_, rfl, ?_⟩, rfl⟩
        rw [List.any_eq_true.2 ⟨ss[k], List.getElem_mem hkn, by rw [HX.out]; exact HB1.out⟩]
        simp
    · have hkn' : ¬ ((k : Int) < (ss.length : Int)) := by omega
      have hA := HA.out
      rw [List.take_of_length_le (by omega)] at hA
      go_wp2_with fail
      go_ret
      refine ⟨⟨_, rfl, ?_⟩, rfl⟩
      first
        | (rw [hA]; rfl)
        | omega
set_option maxRecDepth 100000 in
theorem implContainsA (pre ss : List ByteArray) (g : Nat) (a a2 : Option Addr) (cap cap2 : Nat) (w : World) (hlen : pre.length ≤ 2000000) (hlen2 : ss.length ≤ 2000000) (hc : TxtsIn w a pre) (hc2 : TxtsIn w a2 ss) (hg : w.cell? ⟨g, 0, none⟩ = some (.slice a pre.length cap)) :
    Calls Tryz.prog 43 #[.slice a2 ss.length cap2, .func (.func 89) #[] #[.pointer (some ⟨g, 0, none⟩)]] w fun e w' => e = .returned (.bool (ss.any (noneB pre))) ∧ w' = w := by
  have c := implIndexA pre ss g a a2 cap cap2 w hlen hlen2 hc hc2 hg
  clear hc hc2 hg
  go_enter Tryz.func43, Tryz.ntmps43
  go_wp2_with (go_at_call 61; go_must (refine c.mono ?_; rintro e w1 ⟨⟨r, rfl, hr⟩, rfl⟩))
  go_ret
  refine ⟨congrArg (fun b => Ending.returned (Value.bool b)) ?_, rfl⟩
  rw [← hr]

set_option maxRecDepth 100000 in
set_option maxHeartbeats 1000000 in
theorem implTwiceO (ss : List ByteArray) (a : Option Addr) (cap : Nat) (w : World) (hlen : ss.length ≤ 1000000) (hsz : ∀ s ∈ ss, s.size ≤ 1048576) (hc : TxtsIn w a ss) :
    Calls Tryz.prog 105 #[.slice a ss.length cap] w fun e w' => (∃ t, e = .returned (.tuple #[.string t, .bool (dupFrom ss [])])) ∧ Below w.heap.size w w' := by
  have hmm := @run_makeMap Tryz.prog
  have HC : Hid (TxtsIn w a ss) := hc
  have hlen' : (ss.length : Int) ≤ 1000000 := by omega
  have HZ : Hid (∀ s ∈ ss, s.size ≤ 1048576) := hsz
  clear hc hsz
  obtain ⟨F, hF⟩ : ∃ F, dupFrom ss [] = F := ⟨_, rfl⟩
  rw [hF]
  have HF : Hid (dupFrom ss [] = F) := hF
  clear hF
  go_enter Tryz.func105, Tryz.ntmps105
  go_wp2_with fail
  go_loopw [11] (fun i11 wr => ∃ (k : Nat) (f : Lit → Int), i11 = .int .i64 (k : Int) ∧ k ≤ ss.length ∧ Counts wr 9 w.heap.size k f ∧ Seen f (ss.take k) ∧ dupFrom (ss.drop k) (ss.take k) = F ∧ Below w.heap.size w wr) (fun i11 _ => ss.length - (intOf i11).toNat)
  case atStart => exact ⟨0, _, rfl, by omega, Counts.made _ _, by simpa using Seen.nil, by simpa using HF.out, (Below.refl _ w).alloc (Nat.le_refl _) _⟩
  case round =>
    obtain ⟨k, f, rfl, hk, hcn, hse, hfr, hb⟩ := hrel
    by_cases hkn : k < ss.length
    · have hkn' : (k : Int) < (ss.length : Int) := by omega
      obtain ⟨g, off, rfl, hgw, hcell⟩ := HC.out (by omega)
      have x1 := hcell k hkn
      rw [List.drop_eq_getElem_cons hkn] at hfr
      have hz := HZ.out ss[k] (List.getElem_mem hkn)
      have htk : ss.take (k + 1) = ss.take k ++ [ss[k]] := List.take_succ_eq_append_getElem hkn
      obtain ⟨s, hs⟩ : ∃ s, ss[k] = s := ⟨_, rfl⟩
      rw [hs] at x1 hfr hz htk
      clear hs hcell
      have d1 := (hb.cell (p := ⟨g, off + k, none⟩) hgw).trans x1
      have hkey : keyOf Tryz.prog 9 (.string s) = some (textKey s) := key9 (by simp [maxLen]; omega)
      have hfs := hse s
      simp only [dupFrom] at hfr
      obtain ⟨B1, hB1⟩ : ∃ B1, hasB (ss.take k) s = B1 := ⟨_, rfl⟩
      rw [hB1] at hfr hfs
      have hlk := (hcn.look law9 Tryz.underlying130 hkey).1
      clear x1 hB1
      have HCN : Hid _ := hcn
      have HSE : Hid _ := hse
      have HFR : Hid _ := hfr
      have HTK : Hid _ := htk
      have HKY : Hid _ := hkey
      clear hcn hse hfr htk hkey
      cases B1
      · rw [if_neg (by simp)] at hfs
        rw [hfs] at hlk
        clear hfs
        go_wp2_with (first
          | (at_mapUpdate; go_must (refine wpList_storeC _ rfl _ _ _ 130 rfl 9 law9 Tryz.underlying130 w.heap.size k f rfl HCN.out (by simp [maxLen]; omega) _ 1 _ rfl rfl HKY.out (by decide) ?_; intro w1 hc1 hg1; have HC1 : Hid _ := hc1; clear hc1))
          | (at_lookup; have hchk := HC1; refine wpList_lookC _ rfl _ _ 130 rfl 9 law9 Tryz.underlying130 w.heap.size (k + 1) _ rfl HC1.out _ _ rfl HKY.out ?_; rw [upd_same (by exact trivial)]))
        have hbb := hb.grown hg1 hb.size (fun j hj => by cases hj; exact Nat.le_refl _)
        refine ⟨⟨k + 1, _, rfl, by omega, HC1.out, ?_, ?_, hbb⟩, by simp [intOf]; omega⟩
        · rw [HTK.out]; exact Seen.put HSE.out s
        · have := HFR.out
          rw [if_neg (by simp)] at this
          rw [HTK.out]; exact this
      · rw [if_pos rfl] at hfs
        rw [hfs] at hlk
        clear hfs
        have hF := HFR.out
        rw [if_pos rfl] at hF
        subst hF
        go_wp2_with (first
          | (at_mapUpdate; go_must (refine wpList_storeC _ rfl _ _ _ 130 rfl 9 law9 Tryz.underlying130 w.heap.size k f rfl HCN.out (by simp [maxLen]; omega) _ 2 _ rfl rfl HKY.out (by decide) ?_; intro w1 hc1 hg1; have HC1 : Hid _ := hc1; clear hc1))
          | (at_lookup; have hchk := HC1; refine wpList_lookC _ rfl _ _ 130 rfl 9 law9 Tryz.underlying130 w.heap.size (k + 1) _ rfl HC1.out _ _ rfl HKY.out ?_; rw [upd_same (by exact trivial)]))
        have hbb := hb.grown hg1 hb.size (fun j hj => by cases hj; exact Nat.le_refl _)
        go_ret2
        exact ⟨⟨_, rfl⟩, hbb⟩
    · have hkn' : ¬ ((k : Int) < (ss.length : Int)) := by omega
      rw [List.drop_eq_nil_of_le (by omega)] at hfr
      simp only [dupFrom] at hfr
      subst hfr
      go_wp2_with fail
      go_ret2
      exact ⟨⟨_, rfl⟩, hb⟩
set_option maxRecDepth 100000 in
theorem implSingleO (ss : List ByteArray) (a : Option Addr) (cap : Nat) (w : World) (hlen : ss.length ≤ 1000000) (hsz : ∀ s ∈ ss, s.size ≤ 1048576) (hc : TxtsIn w a ss) :
    Calls Tryz.prog 90 #[.slice a ss.length cap] w fun e w' => e = .returned (.bool (!dupFrom ss [])) ∧ Below w.heap.size w w' := by
  have c := implTwiceO ss a cap w hlen hsz hc
  clear hc hsz
  obtain ⟨D, hD⟩ : ∃ D, dupFrom ss [] = D := ⟨_, rfl⟩
  rw [hD] at c ⊢
  clear hD
  go_enter Tryz.func90, Tryz.ntmps90
  go_wp2_with (go_at_call 105; go_must (refine c.mono ?_; rintro e w1 ⟨⟨t, rfl⟩, hb1⟩))
  go_ret
  exact ⟨by simp, hb1⟩
/-- Needs that are names of steps ahead, none twice. -/
def aheadB (pre needs : List ByteArray) : Bool := decide (needs.length ≤ pre.length) && !needs.any (noneB pre) && !dupFrom needs []
set_option maxRecDepth 100000 in
set_option maxHeartbeats 1000000 in
theorem implAhead (pre ss : List ByteArray) (a a2 : Option Addr) (cap cap2 : Nat) (w : World) (hlen : pre.length ≤ 1000000) (hlen2 : ss.length ≤ 1048576) (hsz : ∀ s ∈ ss, s.size ≤ 1048576) (hc : TxtsIn w a pre) (hc2 : TxtsIn w a2 ss) :
    Calls Tryz.prog 56 #[.slice a2 ss.length cap2, .slice a pre.length cap] w fun e w' => e = .returned (.bool (aheadB pre ss)) ∧ Below w.heap.size w w' := by
  have hmf : ∀ (fn : Fn) (first cap : Array Value) (w : World), (Instr.makeFunc fn first cap).run Tryz.prog w = .ok (.func fn first cap) w := fun _ _ _ _ => rfl
  have hbA : Below w.heap.size w (w.alloc (.cells #[.slice a pre.length cap] 23)) := (Below.refl _ w).alloc (Nat.le_refl _) _
  have hbk : Blk (w.alloc (.cells #[.slice a pre.length cap] 23)) w.heap.size 23 #[.slice a pre.length cap] := heap_alloc_last w _
  have hcel := hbk.cell 0
  simp only [List.size_toArray, List.length_cons, List.length_nil, List.getElem_toArray, List.getElem_cons_zero, Nat.zero_add, Nat.lt_add_one, Array.getElem?_eq_getElem] at hcel
  have c1 := implContainsA pre ss w.heap.size a a2 cap cap2 _ (by omega) (by omega) (hc.below hbA) (hc2.below hbA) hcel
  have c2 := fun (h : ss.length ≤ 1000000) => implSingleO ss a2 cap2 _ h hsz (hc2.below hbA)
  have hlen' : (pre.length : Int) ≤ 1000000 := by omega
  have hlen2' : (ss.length : Int) ≤ 1048576 := by omega
  clear hc hc2 hsz hbk
  by_cases hl : ss.length ≤ pre.length
  case neg =>
    have hl' : ¬ ((ss.length : Int) ≤ (pre.length : Int)) := by omega
    have hr : aheadB pre ss = false := by unfold aheadB; rw [decide_eq_false hl]; rfl
    rw [hr]
    clear c1 c2 hr
    go_enter Tryz.func56, Tryz.ntmps56
    go_wp2_with fail
    go_ret
    exact ⟨rfl, hbA⟩
  have hl' : (ss.length : Int) ≤ (pre.length : Int) := by omega
  have c3 := c2 (by omega)
  clear c2
  have hr : aheadB pre ss = (!ss.any (noneB pre) && !dupFrom ss []) := by unfold aheadB; rw [decide_eq_true hl]; rfl
  rw [hr]
  obtain ⟨A, hA⟩ : ∃ A, ss.any (noneB pre) = A := ⟨_, rfl⟩
  obtain ⟨D, hD⟩ : ∃ D, dupFrom ss [] = D := ⟨_, rfl⟩
  rw [hA] at c1
  rw [hD] at c3
  rw [hA, hD]
  clear hA hD hr
  cases A
  · go_enter Tryz.func56, Tryz.ntmps56
    go_wp2_with (first
      | (go_at_call 43; go_must (refine c1.mono ?_; rintro e w1 ⟨rfl, rfl⟩))
      | (go_at_call 90; go_must (refine c3.mono ?_; rintro e w2 ⟨rfl, hb2⟩)))
    go_ret
    exact ⟨by simp, good_below hbA hb2⟩
  · go_enter Tryz.func56, Tryz.ntmps56
    go_wp2_with (go_at_call 43; go_must (refine c1.mono ?_; rintro e w1 ⟨rfl, rfl⟩))
    go_ret
    exact ⟨by simp, hbA⟩
set_option maxRecDepth 100000 in
theorem implBetween (r lo hi : Int) (w : World) : Calls Tryz.prog 38 #[.int .i64 r, .int .i64 lo, .int .i64 hi] w fun e w' => e = .returned (.bool (decide (lo ≤ r) && decide (r ≤ hi))) ∧ w' = w := by
  go_enter Tryz.func38, Tryz.ntmps38
  go_wp2_with fail
  all_goals
    go_ret
    refine ⟨congrArg (fun b => Ending.returned (Value.bool b)) ?_, rfl⟩
    simp
    try omega
/-- A step, as the program asks. -/
def stepI (pre : List ByteArray) (x : Step) : Bool := nameOK x.name && !hasB pre x.name && aheadB pre x.needs && (decide (1 ≤ x.tries) && decide (x.tries ≤ 5))
set_option maxRecDepth 100000 in
set_option maxHeartbeats 2000000 in
theorem implStep (pre : List ByteArray) (xn : ByteArray) (xs : List ByteArray) (xu : Bool) (xt : Int) (a a2 : Option Addr) (cap cap2 : Nat) (w : World) (hlen : pre.length ≤ 1000000) (hlen2 : xs.length ≤ 1048576) (hsz : ∀ s ∈ xs, s.size ≤ 1048576) (hc : TxtsIn w a pre) (hc2 : TxtsIn w a2 xs) (hT : Lib.Utf8Tabs 0 1 w) :
    Calls Tryz.prog 39 #[.agg #[.string xn, .slice a2 xs.length cap2, .bool xu, .int .i64 xt], .slice a pre.length cap] w fun e w' => e = .returned (.bool (stepI pre ⟨xn, xs, xu, xt⟩)) ∧ Below w.heap.size w w' := by
  have hbA : Below w.heap.size w (w.alloc (.cells #[.string xn, .slice a2 xs.length cap2, .bool xu, .int .i64 xt] 52)) := (Below.refl _ w).alloc (Nat.le_refl _) _
  have hbk : Blk (w.alloc (.cells #[.string xn, .slice a2 xs.length cap2, .bool xu, .int .i64 xt] 52)) w.heap.size 52 #[.string xn, .slice a2 xs.length cap2, .bool xu, .int .i64 xt] := heap_alloc_last w _
  obtain ⟨wA, hwA⟩ : ∃ wA, w.alloc (.cells #[.string xn, .slice a2 xs.length cap2, .bool xu, .int .i64 xt] 52) = wA := ⟨_, rfl⟩
  have c1 := fun W (hW : Below w.heap.size w W) => implNameOK xn W (Utf8Tabs_below hT hW)
  have c2 := fun W (hW : Below w.heap.size w W) => implHasS pre xn a cap W (by omega) (hc.below hW)
  have c3 := fun W (hW : Below w.heap.size w W) => implAhead pre xs a a2 cap cap2 W hlen hlen2 hsz (hc.below hW) (hc2.below hW)
  have c4 := fun W => implBetween xt 1 5 W
  have HBK : Hid (∀ W, Below wA.heap.size wA W → Blk W w.heap.size 52 #[.string xn, .slice a2 xs.length cap2, .bool xu, .int .i64 xt]) := fun W hW => Blk.below (by rw [← hwA]; exact hbk) hW
  have HBA : Hid (Below w.heap.size w wA) := by rw [← hwA]; exact hbA
  unfold stepI
  dsimp only
  obtain ⟨F1, hF1⟩ : ∃ F, nameOK xn = F := ⟨_, rfl⟩
  obtain ⟨F2, hF2⟩ : ∃ F, hasB pre xn = F := ⟨_, rfl⟩
  obtain ⟨F3, hF3⟩ : ∃ F, aheadB pre xs = F := ⟨_, rfl⟩
  obtain ⟨F4, hF4⟩ : ∃ F, (decide (1 ≤ xt) && decide (xt ≤ 5)) = F := ⟨_, rfl⟩
  simp only [hF1] at c1
  simp only [hF2] at c2
  simp only [hF3] at c3
  simp only [hF4] at c4
  rw [hF1, hF2, hF3, hF4]
  have e1 := fun W (hW : Below wA.heap.size wA W) => (HBK.out W hW).cell 0
  have e2 := fun W (hW : Below wA.heap.size wA W) => (HBK.out W hW).cell 1
  have e3 := fun W (hW : Below wA.heap.size wA W) => (HBK.out W hW).cell 3
  simp at e1 e2 e3
  have q1 := e1 _ (Below.refl _ _)
  clear hF1 hF2 hF3 hF4 hc hc2 hT hsz hbk hbA
  cases F1
  · go_enter Tryz.func39, Tryz.ntmps39
    go_wp2_with (go_at_call 55; go_must (refine (c1 _ HBA.out).mono ?_; rintro e w1 ⟨rfl, hb1⟩))
    go_ret
    exact ⟨by simp, good_below HBA.out hb1⟩
  cases F2
  case true =>
    go_enter Tryz.func39, Tryz.ntmps39
    go_wp2_with (first
      | (go_at_call 55; go_must (refine (c1 _ HBA.out).mono ?_; rintro e w1 ⟨rfl, hb1⟩; have q2 := e1 _ hb1))
      | (go_at_call 46; go_must (refine (c2 _ (good_below HBA.out hb1)).mono ?_; rintro e w2 ⟨rfl, rfl⟩)))
    go_ret
    exact ⟨by simp, good_below HBA.out hb1⟩
  cases F3
  case false =>
    go_enter Tryz.func39, Tryz.ntmps39
    go_wp2_with (first
      | (go_at_call 55; go_must (refine (c1 _ HBA.out).mono ?_; rintro e w1 ⟨rfl, hb1⟩; have q2 := e1 _ hb1; have q3 := e2 _ hb1))
      | (go_at_call 46; go_must (refine (c2 _ (good_below HBA.out hb1)).mono ?_; rintro e w2 ⟨rfl, rfl⟩))
      | (go_at_call 56; go_must (refine (c3 _ (good_below HBA.out hb1)).mono ?_; rintro e w3 ⟨rfl, hb3⟩)))
    go_ret
    exact ⟨by simp, good_below HBA.out (good_below hb1 hb3)⟩
  · go_enter Tryz.func39, Tryz.ntmps39
    go_wp2_with (first
      | (go_at_call 55; go_must (refine (c1 _ HBA.out).mono ?_; rintro e w1 ⟨rfl, hb1⟩; have q2 := e1 _ hb1; have q3 := e2 _ hb1))
      | (go_at_call 46; go_must (refine (c2 _ (good_below HBA.out hb1)).mono ?_; rintro e w2 ⟨rfl, rfl⟩))
      | (go_at_call 56; go_must (refine (c3 _ (good_below HBA.out hb1)).mono ?_; rintro e w3 ⟨rfl, hb3⟩; have q4 := e3 _ (good_below hb1 hb3)))
      | (go_at_call 38; go_must (refine (c4 _).mono ?_; rintro e w4 ⟨rfl, rfl⟩)))
    go_ret
    exact ⟨by simp, good_below HBA.out (good_below hb1 hb3)⟩
end Go.Proofs.YtdheogonghcokaaGreatDoor

namespace Go.Proofs.YtdheogonghcokaaGreatDoor
open Go.ChangeShapes Go.WideShapes Go.ChangeAt Go.RowKit Go.Maps
set_option linter.unusedVariables false
set_option linter.unusedSimpArgs false

theorem pigeon : ∀ (needs pre : List ByteArray), needs.Nodup → (∀ x ∈ needs, x ∈ pre) → needs.length ≤ pre.length
  | [], _, _, _ => by simp
  | x :: l, pre, hn, hs => by
    rw [List.nodup_cons] at hn
    have hx := hs x (by simp)
    have := pigeon l (pre.filter (fun y => !decide (y = x))) hn.2 (fun y hy => by
      have hne : y ≠ x := fun e => hn.1 (e ▸ hy)
      rw [List.mem_filter]
      exact ⟨hs y (List.mem_cons_of_mem _ hy), by rw [decide_eq_false hne]; rfl⟩)
    have hp : (pre.filter (fun y => !decide (y = x))).length < pre.length := List.length_filter_lt_length_iff_exists.2 ⟨x, hx, by simp⟩
    simp only [List.length_cons]
    omega
theorem ahead_iff (pre needs : List ByteArray) : aheadB pre needs = true ↔ ∀ k (hk : k < needs.length), needAt pre needs k hk := by
  unfold aheadB
  constructor
  · intro h k hk
    rw [Bool.and_eq_true, Bool.and_eq_true] at h
    obtain ⟨⟨_, h1⟩, h2⟩ := h
    have h1' : needs.any (noneB pre) = false := by simpa using h1
    rw [List.any_eq_false] at h1'
    have h3 := h1' needs[k] (List.getElem_mem hk)
    have h2' : dupFrom needs [] = false := by simpa using h2
    refine ⟨by simpa [noneB] using h3, ?_⟩
    cases hh : hasB (needs.take k) needs[k]
    · rfl
    · have := (dup_iff needs []).2 ⟨k, hk, by simpa using hh⟩
      rw [h2'] at this; cases this
  · intro h
    have hall : ∀ x ∈ needs, x ∈ pre := fun x hx => by
      obtain ⟨i, hi, rfl⟩ := List.getElem_of_mem hx
      exact hasB_mem.1 (h i hi).1
    have hnd : needs.Nodup := by
      rw [List.nodup_iff_pairwise_ne, List.pairwise_iff_getElem]
      intro i j hi hj hij e
      have := hasB_not.1 (h j hj).2
      exact this (e ▸ (List.mem_take_iff_getElem.2 ⟨i, by omega, rfl⟩))
    have h0 := pigeon needs pre hnd hall
    have h1 : needs.any (noneB pre) = false := by
      rw [List.any_eq_false]
      intro x hx
      simp [noneB, hasB_mem.2 (hall x hx)]
    have h2 : dupFrom needs [] = false := by
      cases hd : dupFrom needs []
      · rfl
      · obtain ⟨i, hi, hh⟩ := (dup_iff needs []).1 hd
        have := (h i hi).2
        simp only [List.nil_append] at hh
        rw [hh] at this; cases this
    rw [decide_eq_true h0, h1, h2]; rfl
theorem step_same {l : List Step} {k : Nat} (hk : k < l.length) (hl : l.length ≤ 20) : stepI (ahead l k) l[k] = true ↔ StepAt l k hk := by
  unfold StepAt stepI stepB0
  rw [← ahead_iff]
  have hlen : aheadB (ahead l k) l[k].needs = true → l[k].needs.length ≤ 20 := fun h => by
    unfold aheadB at h
    rw [Bool.and_eq_true, Bool.and_eq_true] at h
    have h1 := of_decide_eq_true h.1.1
    rw [ahead_len (by omega)] at h1
    omega
  cases nameOK l[k].name <;> cases hasB (ahead l k) l[k].name <;> simp
  constructor
  · rintro ⟨h1, h2, h3⟩; exact ⟨⟨⟨h2, h3⟩, hlen h1⟩, h1⟩
  · rintro ⟨⟨⟨h2, h3⟩, _⟩, h1⟩; exact ⟨h1, h2, h3⟩
theorem ahead_next {l : List Step} {k : Nat} (hk : k < l.length) : ahead l (k + 1) = ahead l k ++ [l[k].name] := by
  unfold ahead
  rw [List.take_succ_eq_append_getElem hk, List.map_append]; rfl
theorem OwnTxts.rowIn {B : Nat} {w : World} {a : Option Addr} {n cap : Nat} {l : List ByteArray} (h : OwnTxts B w (.slice a n cap) l) : TxtsIn w a l := fun h0 => by
  obtain ⟨a', cap', hv, _, hc⟩ := h.value
  obtain ⟨g, h1, _, h3, h4⟩ := hc h0
  simp only [Value.slice.injEq] at hv
  obtain ⟨rfl, -, -⟩ := hv
  exact ⟨g, 0, h1, h3, fun i hi => by rw [Nat.zero_add]; exact h4 i hi⟩
theorem TxtsAt.newAt (w : World) (x : ByteArray) (g : Nat) (hg : w.heap.size = g) : TxtsAt (fun b => b = g) (w.alloc (.cells #[.string x] 9)) (.slice (some ⟨g, 0, none⟩) 1 1) [x] := by
  subst hg; exact TxtsAt.new w x
set_option maxRecDepth 100000 in
set_option maxHeartbeats 4000000 in
theorem implSaga : SagaOKC 23 (fun w => Lib.Utf8Tabs 0 1 w) sagaB := by
  intro S l v w hS h hl hok hfull hT
  have HT : Hid (∀ W, Below w.heap.size w W → Lib.Utf8Tabs 0 1 W) := hT
  clear hT hfull
  obtain ⟨hlm, a, cap, rfl, hc⟩ := h
  have HS : Hid (∀ b, S b → b < w.heap.size) := hS
  have HOK : Hid (∀ x ∈ l, StepsOK 1048576 x) := hok
  have hl' : (l.length : Int) ≤ 1048576 := by omega
  have cb := fun W => implBetween (l.length : Int) 1 20 W
  clear hS hok hlm
  by_cases l1 : 1 ≤ l.length ∧ l.length ≤ 20
  case neg =>
    have hbt : (decide ((1 : Int) ≤ (l.length : Int)) && decide ((l.length : Int) ≤ 20)) = false := by
      rw [Bool.and_eq_false_iff, decide_eq_false_iff_not, decide_eq_false_iff_not]; omega
    rw [hbt] at cb
    rw [sagaB_len l1]
    clear hc HOK HS HT hbt l1
    go_enter Tryz.func23, Tryz.ntmps23
    go_wp2_with (go_at_call 38; go_must (refine (cb _).mono ?_; rintro e w1 ⟨rfl, rfl⟩))
    go_ret
    exact ⟨rfl, Below.refl _ _⟩
  have hbt : (decide ((1 : Int) ≤ (l.length : Int)) && decide ((l.length : Int) ≤ 20)) = true := by
    rw [Bool.and_eq_true, decide_eq_true_iff, decide_eq_true_iff]; omega
  rw [hbt] at cb
  obtain ⟨l2, l20⟩ := l1
  have hyes : (∀ i (hi : i < l.length), StepAt l i hi) → sagaB l = true := fun h3 => sagaB_true l2 l20 h3
  have hno : ∀ i (hi : i < l.length), ¬ StepAt l i hi → sagaB l = false := fun i hi h0 => sagaB_not i hi h0
  obtain ⟨RB, hRB⟩ : ∃ RB, sagaB l = RB := ⟨_, rfl⟩
  rw [hRB] at hyes hno ⊢
  have HYES : Hid ((∀ i (hi : i < l.length), StepAt l i hi) → RB = true) := hyes
  have HNO : Hid (∀ i (hi : i < l.length), ¬ StepAt l i hi → RB = false) := hno
  obtain ⟨b, off, rfl, hbS, hcell⟩ := hc (by omega)
  have hbw := HS.out b hbS
  have HC : Hid (∀ i (h : i < l.length), w.cell? ⟨b, off + i * 4, none⟩ = some (.string l[i].name) ∧ w.cell? ⟨b, off + i * 4 + 2, none⟩ = some (.bool l[i].undo) ∧ w.cell? ⟨b, off + i * 4 + 3, none⟩ = some (.int .i64 l[i].tries) ∧ ∃ nv, w.cell? ⟨b, off + i * 4 + 1, none⟩ = some nv ∧ TxtsAt S w nv l[i].needs) := hcell
  have HL20 : Hid (l.length ≤ 20) := l20
  clear hyes hno hRB hc hcell hbt l2 l20
  go_enter Tryz.func23, Tryz.ntmps23
  go_wp2_with (go_at_call 38; go_must (refine (cb _).mono ?_; rintro e w1 ⟨rfl, hq⟩; obtain rfl := hq.symm; clear hq))
  go_loopw [3, 12] (fun i3 i12 wr => ∃ (k : Nat) (oa : Option Addr) (oc : Nat), i12 = .int .i64 (k : Int) ∧ i3 = .slice oa k oc ∧ k ≤ l.length ∧ OwnTxts w.heap.size wr (.slice oa k oc) (ahead l k) ∧ (∀ i (hi : i < l.length), i < k → StepAt l i hi) ∧ Below w.heap.size w wr) (fun _ i12 _ => l.length - (intOf i12).toNat)
  case atStart => exact ⟨0, none, 0, rfl, rfl, by omega, by simpa [ahead] using OwnTxts.nil _ _, fun i _ h => by omega, Below.refl _ _⟩
  case round =>
    clear cb
    obtain ⟨k, oa, oc, rfl, rfl, hk, hown, hall, hb⟩ := hrel
    have HALL : Hid (∀ i (hi : i < l.length), i < k → StepAt l i hi) := hall
    have HOW : Hid (OwnTxts w.heap.size wr (.slice oa k oc) (ahead l k)) := hown
    clear hall
    by_cases hkn : k < l.length
    case neg =>
      obtain rfl : k = l.length := by omega
      have hkn' : ¬ ((l.length : Int) < (l.length : Int)) := by omega
      have hr := HYES.out (fun i hi => HALL.out i hi hi)
      subst hr
      clear hown
      go_wp2_with fail
      go_ret
      exact ⟨rfl, hb⟩
    have hkn' : (k : Int) < (l.length : Int) := by omega
    have hk20 : k < 20 := by have := HL20.out; omega
    obtain ⟨c0, c2, c3, nv, c1, hnv⟩ := HC.out k hkn
    have d0 := (hb.cell (p := ⟨b, off + k * 4, none⟩) hbw).trans c0
    have d1 := (hb.cell (p := ⟨b, off + k * 4 + 1, none⟩) hbw).trans c1
    have d2 := (hb.cell (p := ⟨b, off + k * 4 + 2, none⟩) hbw).trans c2
    have d3 := (hb.cell (p := ⟨b, off + k * 4 + 3, none⟩) hbw).trans c3
    have hokx := HOK.out l[k] (List.getElem_mem hkn)
    unfold StepsOK at hokx
    have hst := step_same hkn HL20.out
    have hnx := ahead_next hkn
    have hpl : (ahead l k).length = k := ahead_len (by omega)
    have hbad := HNO.out k hkn
    have hstep : StepAt l k hkn → ∀ i (hi : i < l.length), i < k + 1 → StepAt l i hi := fun h0 i hi hik => by
      by_cases e : i = k
      · subst e; exact h0
      · exact HALL.out i hi (by omega)
    rw [← hst] at hbad hstep
    obtain ⟨x, hx⟩ : ∃ x, l[k] = x := ⟨_, rfl⟩
    rw [hx] at d0 d2 d3 hnv hokx hbad hstep hnx
    obtain ⟨xn, xs, xu, xt⟩ := x
    dsimp only at d0 d2 d3 hnv hokx hnx
    obtain ⟨za, zc, hzv⟩ := hnv.shape
    subst hzv
    have hbs := hb.size
    have hin : TxtsIn w za xs := fun h0 => by
      obtain ⟨_, ta, tc, htv, hcl⟩ := hnv
      simp only [Value.slice.injEq] at htv
      obtain ⟨rfl, -, rfl⟩ := htv
      obtain ⟨cb, co, rfl, hcS, hcl⟩ := hcl h0
      exact ⟨cb, co, rfl, HS.out cb hcS, hcl⟩
    have hpin := hown.rowIn
    have hbb : Below wr.heap.size wr (wr.alloc (.cells #[.string xn, .slice za xs.length zc, .bool xu, .int .i64 xt] 52)) := (Below.refl _ wr).alloc (Nat.le_refl _) _
    have cst := implStep (ahead l k) xn xs xu xt oa za oc zc (wr.alloc (.cells #[.string xn, .slice za xs.length zc, .bool xu, .int .i64 xt] 52)) (by omega) (by omega) (fun s hs => by have := hokx.2.2 s hs; unfold TxtsOK at this; omega) (hpin.below hbb) ((hin.below hb).below hbb) (HT.out _ (good_below hb hbb))
    rw [hpl] at cst
    have hbk : Blk (wr.alloc (.cells #[.string xn, .slice za xs.length zc, .bool xu, .int .i64 xt] 52)) wr.heap.size 52 #[.string xn, .slice za xs.length zc, .bool xu, .int .i64 xt] := heap_alloc_last wr _
    have HBK : Hid (Blk (wr.alloc (.cells #[.string xn, .slice za xs.length zc, .bool xu, .int .i64 xt] 52)) wr.heap.size 52 #[.string xn, .slice za xs.length zc, .bool xu, .int .i64 xt]) := hbk
    have HBB : Hid (Below wr.heap.size wr (wr.alloc (.cells #[.string xn, .slice za xs.length zc, .bool xu, .int .i64 xt] 52))) := hbb
    obtain ⟨F, hF⟩ : ∃ F, stepI (ahead l k) ⟨xn, xs, xu, xt⟩ = F := ⟨_, rfl⟩
    rw [hF] at cst hbad hstep
    have HBAD : Hid (¬ F = true → RB = false) := hbad
    have HSTEP : Hid (F = true → ∀ i (hi : i < l.length), i < k + 1 → StepAt l i hi) := hstep
    have HNX : Hid (ahead l (k + 1) = ahead l k ++ [xn]) := hnx
    have HPL : Hid ((ahead l k).length = k) := hpl
    clear c0 c1 c2 c3 hbad hstep hx hnv hokx hst hF hpin hin hnx hpl hown hbk hbb
    cases F
    · have hr := HBAD.out (by simp)
      subst hr
      go_wp2_with (go_at_call 39; go_must (refine cst.mono ?_; rintro e w1 ⟨rfl, hb1⟩))
      go_ret
      exact ⟨rfl, good_below hb (good_below HBB.out hb1)⟩
    · go_wp2_with (first
        | (go_at_call 39; go_must (refine cst.mono ?_; rintro e w1 ⟨rfl, hb1⟩; have hk1 := Blk.below HBK.out hb1; have e0 := hk1.cell 0; simp at e0; have hbw1 := good_below hb (good_below HBB.out hb1); have how1 := OwnTxts.below HOW.out (good_below HBB.out hb1); have hws1 := hbw1.size))
        | (at_builtin; go_must (refine wpList_appendTxts rfl (.tmp 20) (.tmp 23) rfl w.heap.size (.slice oa k oc) (ahead l k) rfl (OwnTxts.below how1 ((Below.refl _ w1).alloc (Nat.le_refl _) _)) _ [xn] rfl (TxtsAt.newAt _ xn _ (by simp)) (by rw [HPL.out]; simp <;> omega) (by simp only [World.size_alloc]; omega) ?_; intro v9 w9 hown9 hB9 hgr9 hnil9; obtain ⟨a9, c9, e9, -⟩ := hown9.value; have hl9 : (ahead l k ++ [xn]).length = k + 1 := (by rw [List.length_append, HPL.out]; rfl); rw [hl9] at e9; subst e9)))
      refine ⟨⟨k + 1, a9, c9, rfl, rfl, by omega, ?_, HSTEP.out trivial, ((hbw1.alloc hbw1.size _).trans hB9)⟩, by simp [intOf]; omega⟩
      rw [HNX.out]; exact hown9
end Go.Proofs.YtdheogonghcokaaGreatDoor

namespace Go.Proofs.YtdheogonghcokaaGreatDoor
open Go.ChangeShapes Go.WideShapes Go.ChangeAt Go.RowKit
set_option linter.unusedVariables false
set_option linter.unusedSimpArgs false

/-- Cells that are steps' states and tries, in turn. -/
def PartsAt (cs : Array Value) (is tr : List Int) : Prop := cs.size = is.length * 2 ∧ tr.length = is.length ∧ (∀ i (h : i < is.length), cs[i * 2]? = some (.int .i64 is[i])) ∧ ∀ i (h : i < tr.length), cs[i * 2 + 1]? = some (.int .i64 tr[i])
theorem PartsAt.setIs {cs : Array Value} {is tr : List Int} (h : PartsAt cs is tr) (i : Nat) (x : Int) (hi : i < is.length) : PartsAt (cs.setIfInBounds (i * 2) (.int .i64 x)) (is.set i x) tr := by
  obtain ⟨h1, h2, h3, h4⟩ := h
  refine ⟨by simp [h1], by simp [h2], fun j hj => ?_, fun j hj => ?_⟩
  · have hj' : j < is.length := by simpa using hj
    rw [Array.getElem?_setIfInBounds, List.getElem_set]
    by_cases e : i = j
    · subst e; rw [if_pos rfl, if_pos (by omega), if_pos rfl]
    · rw [if_neg (by omega), if_neg e]; exact h3 j hj'
  · rw [Array.getElem?_setIfInBounds, if_neg (by omega)]; exact h4 j hj
theorem PartsAt.setTr {cs : Array Value} {is tr : List Int} (h : PartsAt cs is tr) (i : Nat) (x : Int) (hi : i < is.length) : PartsAt (cs.setIfInBounds (i * 2 + 1) (.int .i64 x)) is (tr.set i x) := by
  obtain ⟨h1, h2, h3, h4⟩ := h
  refine ⟨by simp [h1], by simp [h2], fun j hj => ?_, fun j hj => ?_⟩
  · rw [Array.getElem?_setIfInBounds, if_neg (by omega)]; exact h3 j hj
  · have hj' : j < tr.length := by simpa using hj
    rw [Array.getElem?_setIfInBounds, List.getElem_set]
    by_cases e : i = j
    · subst e; rw [if_pos rfl, if_pos (by omega), if_pos rfl]
    · rw [if_neg (by omega), if_neg e]; exact h4 j hj'
/-- The program's run. -/
structure RunI (S : Nat → Prop) (B : Nat) (l : List Step) (a : Option Addr) (cap g gp : Nat) (rv : Value) (reps : List Int) (dv cv : Value) (w0 w : World) (s : Sg) : Prop where
  saga : SagaIn S B w a cap l
  blk : Blk w g 63 #[.slice a l.length cap, .int .i64 s.st, .slice (some ⟨gp, 0, none⟩) l.length l.length, dv, cv]
  parts : ∃ cs, Blk w gp 79 cs ∧ PartsAt cs s.is s.tr
  done : OwnNums B w dv (nums s.done)
  cmds : OwnCmds B w cv s.cmds
  rps : OwnNums B w rv reps
  dr : dv.ownBlock = none ∨ dv.ownBlock ≠ rv.ownBlock
  low : B ≤ g ∧ B ≤ gp
  rng : ∀ i, 0 ≤ isAt s i ∧ isAt s i ≤ 4
  ok : Ok l s
  base : B ≤ w0.heap.size
  bel : Below B w0 w
section
variable {S : Nat → Prop} {B : Nat} {l : List Step} {a : Option Addr} {cap g gp : Nat} {rv : Value} {reps : List Int} {dv cv : Value} {w0 w : World} {s : Sg}
theorem RunI.size (h : RunI S B l a cap g gp rv reps dv cv w0 w s) : B ≤ w.heap.size := Nat.le_trans h.base h.bel.size
theorem RunI.gp_ne (h : RunI S B l a cap g gp rv reps dv cv w0 w s) : gp ≠ g := by
  obtain ⟨cs, hb, _⟩ := h.parts
  exact Blk.apart hb h.blk (by decide)
theorem RunI.go (h : RunI S B l a cap g gp rv reps dv cv w0 w s) {w' : World} (hb : Below w.heap.size w w') : RunI S B l a cap g gp rv reps dv cv w0 w' s := by
  obtain ⟨cs, h1, h2⟩ := h.parts
  exact ⟨h.saga.below (hb.mono h.size) h.size, Blk.below h.blk hb, ⟨cs, Blk.below h1 hb, h2⟩, h.done.below hb, h.cmds.below hb, h.rps.below hb, h.dr, h.low, h.rng, h.ok, h.base, h.bel.trans (hb.mono h.size)⟩
theorem RunI.drewN (h : RunI S B l a cap g gp rv reps dv cv w0 w s) (n : Nat) : RunI S B l a cap g gp rv reps dv cv w0 (w.drewN n) s := h.go (bel_drewN (Below.refl _ _) n)
theorem rng_set (h : ∀ i, 0 ≤ isAt s i ∧ isAt s i ≤ 4) {i : Nat} (hi : i < s.is.length) {x : Int} (h0 : 0 ≤ x) (h4 : x ≤ 4) : ∀ j, 0 ≤ isAt (setIs s i x) j ∧ isAt (setIs s i x) j ≤ 4 := fun j => by
  rw [isAt_set hi]
  split
  · exact ⟨h0, h4⟩
  · exact h j
theorem RunI.putSt (h : RunI S B l a cap g gp rv reps dv cv w0 w s) (x : Int) : RunI S B l a cap g gp rv reps dv cv w0 (w.setCell ⟨g, 1, none⟩ (.int .i64 x)) (setSt s x) := by
  obtain ⟨cs, h1, h2⟩ := h.parts
  have hb := (Below.refl B w).setCell (p := ⟨g, 1, none⟩) h.low.1 (.int .i64 x)
  exact ⟨h.saga.below hb h.size, h.blk.set 1 _, ⟨cs, h1.other h.gp_ne 1 _, h2⟩, h.done.set (h.done.off h.blk (by decide)) _, h.cmds.set (h.cmds.off h.blk (by decide)) _, h.rps.set (h.rps.off h.blk (by decide)) _, h.dr, h.low, h.rng, h.ok.setSt x, h.base, h.bel.trans hb⟩
theorem RunI.putIs (h : RunI S B l a cap g gp rv reps dv cv w0 w s) (i : Nat) (hi : i < l.length) (x : Int) (h0 : 0 ≤ x) (h4 : x ≤ 4) (hok : Ok l (setIs s i x)) : RunI S B l a cap g gp rv reps dv cv w0 (w.setCell ⟨gp, i * 2, none⟩ (.int .i64 x)) (setIs s i x) := by
  obtain ⟨cs, h1, h2⟩ := h.parts
  have hb := (Below.refl B w).setCell (p := ⟨gp, i * 2, none⟩) h.low.2 (.int .i64 x)
  have hi' : i < s.is.length := by rw [h.ok.il]; exact hi
  exact ⟨h.saga.below hb h.size, h.blk.other (Ne.symm h.gp_ne) _ _, ⟨_, h1.set _ _, h2.setIs i x hi'⟩, h.done.set (h.done.off h1 (by decide)) _, h.cmds.set (h.cmds.off h1 (by decide)) _, h.rps.set (h.rps.off h1 (by decide)) _, h.dr, h.low, rng_set h.rng hi' h0 h4, hok, h.base, h.bel.trans hb⟩
theorem RunI.putTr (h : RunI S B l a cap g gp rv reps dv cv w0 w s) (i : Nat) (hi : i < l.length) (x : Int) (hok : Ok l (setTr s i x)) : RunI S B l a cap g gp rv reps dv cv w0 (w.setCell ⟨gp, i * 2 + 1, none⟩ (.int .i64 x)) (setTr s i x) := by
  obtain ⟨cs, h1, h2⟩ := h.parts
  have hb := (Below.refl B w).setCell (p := ⟨gp, i * 2 + 1, none⟩) h.low.2 (.int .i64 x)
  have hi' : i < s.is.length := by rw [h.ok.il]; exact hi
  exact ⟨h.saga.below hb h.size, h.blk.other (Ne.symm h.gp_ne) _ _, ⟨_, h1.set _ _, h2.setTr i x hi'⟩, h.done.set (h.done.off h1 (by decide)) _, h.cmds.set (h.cmds.off h1 (by decide)) _, h.rps.set (h.rps.off h1 (by decide)) _, h.dr, h.low, h.rng, hok, h.base, h.bel.trans hb⟩
/-- The commands grow. -/
theorem RunI.growC (h : RunI S B l a cap g gp rv reps dv cv w0 w s) {w' : World} {cv' : Value} {c : List Cmd} (hown : OwnCmds B w' cv' c) (hB : Below B w w') (hgr : w.grownBy w' cv.ownBlock) :
    Blk w' g 63 #[.slice a l.length cap, .int .i64 s.st, .slice (some ⟨gp, 0, none⟩) l.length l.length, dv, cv] ∧ RunI S B l a cap g gp rv reps dv cv' w0 (w'.setCell ⟨g, 4, none⟩ cv') { s with cmds := c } := by
  obtain ⟨cs, h1, h2⟩ := h.parts
  have hbk := h.blk.kept hgr (Ne.symm (h.cmds.off h.blk (by decide)))
  have h1' := h1.kept hgr (Ne.symm (h.cmds.off h1 (by decide)))
  have hd' : OwnNums B w' dv (nums s.done) := h.done.kept hgr (h.done.apartC h.cmds)
  have hr' : OwnNums B w' rv reps := h.rps.kept hgr (h.rps.apartC h.cmds)
  have hb : Below B w (w'.setCell ⟨g, 4, none⟩ cv') := hB.setCell h.low.1 cv'
  exact ⟨hbk, h.saga.below hb h.size, hbk.set 4 _, ⟨cs, h1'.other h.gp_ne 4 _, h2⟩, hd'.set (hd'.off hbk (by decide)) _, hown.set (hown.off hbk (by decide)) _, hr'.set (hr'.off hbk (by decide)) _, h.dr, h.low, h.rng, ⟨h.ok.il, h.ok.tl, h.ok.dn, h.ok.dk, h.ok.tb⟩, h.base, h.bel.trans hb⟩
/-- The done ones are a row that grew, or one's beginning. -/
theorem RunI.growD (h : RunI S B l a cap g gp rv reps dv cv w0 w s) {w' : World} {dv' : Value} {d : List Nat} (hown : OwnNums B w' dv' (nums d)) (hB : Below B w w') (hgr : w.grownBy w' dv.ownBlock) (hat : dv'.ownBlock = dv.ownBlock ∨ dv'.ownBlock = some w.heap.size) (hok : Ok l { s with done := d }) :
    Blk w' g 63 #[.slice a l.length cap, .int .i64 s.st, .slice (some ⟨gp, 0, none⟩) l.length l.length, dv, cv] ∧ RunI S B l a cap g gp rv reps dv' cv w0 (w'.setCell ⟨g, 3, none⟩ dv') { s with done := d } := by
  obtain ⟨cs, h1, h2⟩ := h.parts
  have hbk := h.blk.kept hgr (Ne.symm (h.done.off h.blk (by decide)))
  have h1' := h1.kept hgr (Ne.symm (h.done.off h1 (by decide)))
  have hc' : OwnCmds B w' cv s.cmds := h.cmds.kept hgr (rowApart h.cmds h.done (by decide))
  have hr' : OwnNums B w' rv reps := h.rps.kept hgr (by
    rcases h.dr with e | e
    · rw [e]
      cases rv.ownBlock with
      | none => exact .inl rfl
      | some x => right; simp
    · exact .inr (Ne.symm e))
  have hdr : dv'.ownBlock = none ∨ dv'.ownBlock ≠ rv.ownBlock := by
    rcases hat with e | e
    · rw [e]; exact h.dr
    · rw [e]
      refine .inr fun e => ?_
      have := h.rps.low e.symm
      omega
  have hb : Below B w (w'.setCell ⟨g, 3, none⟩ dv') := hB.setCell h.low.1 dv'
  exact ⟨hbk, h.saga.below hb h.size, hbk.set 3 _, ⟨cs, h1'.other h.gp_ne 3 _, h2⟩, hown.set (hown.off hbk (by decide)) _, hc'.set (hc'.off hbk (by decide)) _, hr'.set (hr'.off hbk (by decide)) _, hdr, h.low, h.rng, hok, h.base, h.bel.trans hb⟩
/-- The answers grow. -/
theorem RunI.growR (h : RunI S B l a cap g gp rv reps dv cv w0 w s) {w' : World} {rv' : Value} {r : List Int} (hown : OwnNums B w' rv' r) (hB : Below B w w') (hgr : w.grownBy w' rv.ownBlock) (hat : rv'.ownBlock = rv.ownBlock ∨ rv'.ownBlock = some w.heap.size) : RunI S B l a cap g gp rv' r dv cv w0 w' s := by
  obtain ⟨cs, h1, h2⟩ := h.parts
  have hbk := h.blk.kept hgr (Ne.symm (h.rps.off h.blk (by decide)))
  have h1' := h1.kept hgr (Ne.symm (h.rps.off h1 (by decide)))
  have hd' : OwnNums B w' dv (nums s.done) := h.done.kept hgr h.dr
  have hc' : OwnCmds B w' cv s.cmds := h.cmds.kept hgr (rowApart h.cmds h.rps (by decide))
  have hdr : dv.ownBlock = none ∨ dv.ownBlock ≠ rv'.ownBlock := by
    rcases hat with e | e
    · rw [e]; exact h.dr
    · rw [e]
      refine .inr fun e => ?_
      have := h.done.low e
      omega
  exact ⟨h.saga.below hB h.size, hbk, ⟨cs, h1', h2⟩, hd', hc', hown, hdr, h.low, h.rng, h.ok, h.base, h.bel.trans hB⟩
theorem RunI.isCell (h : RunI S B l a cap g gp rv reps dv cv w0 w s) (i : Nat) (hi : i < l.length) : w.cell? ⟨gp, i * 2, none⟩ = some (.int .i64 (isAt s i)) ∧ w.frozen? ⟨gp, i * 2, none⟩ = false := by
  obtain ⟨cs, h1, h2⟩ := h.parts
  have hi' : i < s.is.length := by rw [h.ok.il]; exact hi
  exact ⟨by rw [h1.cell, h2.2.2.1 i hi', isAt_eq hi'], h1.fro _⟩
theorem RunI.trCell (h : RunI S B l a cap g gp rv reps dv cv w0 w s) (i : Nat) (hi : i < l.length) : w.cell? ⟨gp, i * 2 + 1, none⟩ = some (.int .i64 (trAt s i)) ∧ w.frozen? ⟨gp, i * 2 + 1, none⟩ = false := by
  obtain ⟨cs, h1, h2⟩ := h.parts
  have hi' : i < s.tr.length := by rw [h.ok.tl]; exact hi
  exact ⟨by rw [h1.cell, h2.2.2.2 i hi', trAt_eq hi'], h1.fro _⟩
theorem RunI.stepCell (h : RunI S B l a cap g gp rv reps dv cv w0 w s) : ∃ b off, a = some ⟨b, off, none⟩ ∧ b < B ∧ ∀ i (hi : i < l.length), w.cell? ⟨b, off + i * 4, none⟩ = some (.string (stepOf l i).name) ∧ w.cell? ⟨b, off + i * 4 + 2, none⟩ = some (.bool (stepOf l i).undo) ∧ w.cell? ⟨b, off + i * 4 + 3, none⟩ = some (.int .i64 (stepOf l i).tries) ∧ ∃ nv, w.cell? ⟨b, off + i * 4 + 1, none⟩ = some nv ∧ TxtsAt S w nv (stepOf l i).needs := by
  obtain ⟨_, a', cap', hv, hc⟩ := h.saga.at'
  simp only [Value.slice.injEq] at hv
  obtain ⟨rfl, -, rfl⟩ := hv
  obtain ⟨b, off, rfl, hS, hcell⟩ := hc (by have := h.saga.len; omega)
  exact ⟨b, off, rfl, h.saga.low b hS, fun i hi => by rw [stepOf_eq hi]; exact hcell i hi⟩
set_option maxRecDepth 100000 in
theorem implNamed (x0 : ByteArray) (na : Option Addr) (nn nc : Nat) (x2 : Bool) (x3 : Int) (t : ByteArray) (gx : Nat) (w : World) (hg : w.cell? ⟨gx, 0, none⟩ = some (.string t)) (hgl : gx < w.heap.size) :
    Calls Tryz.prog 60 #[.agg #[.string x0, .slice na nn nc, .bool x2, .int .i64 x3], .pointer (some ⟨gx, 0, none⟩)] w fun e w' => e = .returned (.bool (x0.toList == t.toList)) ∧ Below w.heap.size w w' := by
  have hb := (Below.refl _ w).alloc (Nat.le_refl _) (.cells #[.string x0, .slice na nn nc, .bool x2, .int .i64 x3] 52)
  have q1 := (hb.cell (p := ⟨gx, 0, none⟩) hgl).trans hg
  have n1 : gx ≠ w.heap.size := by omega
  have HB : Hid _ := hb
  clear hb
  go_enter Tryz.func60, Tryz.ntmps60
  go_wp2_with fail
  go_ret
  exact ⟨rfl, HB.out⟩
set_option maxRecDepth 100000 in
set_option maxHeartbeats 2000000 in
theorem implIndexSt (h : RunI S B l a cap g gp rv reps dv cv w0 w s) (t : ByteArray) (gx : Nat) (hg : w.cell? ⟨gx, 0, none⟩ = some (.string t)) (hgl : gx < w.heap.size) :
    Calls Tryz.prog 59 #[.slice a l.length cap, .func (.func 60) #[] #[.pointer (some ⟨gx, 0, none⟩)]] w fun e w' => e = .returned (.int .i64 (findI (names l) t)) ∧ Below w.heap.size w w' := by
  have HR : Hid (RunI S B l a cap g gp rv reps dv cv w0 w s) := h
  have HG : Hid (w.cell? ⟨gx, 0, none⟩ = some (.string t)) := hg
  have hl : l.length ≤ 20 := h.saga.len.2
  have hl' : (l.length : Int) ≤ 20 := by omega
  obtain ⟨F, hF⟩ : ∃ F, findI (names l) t = F := ⟨_, rfl⟩
  rw [hF]
  have HF : Hid (findI (names l) t = F) := hF
  clear h hg hF
  go_enter Tryz.func59, Tryz.ntmps59
  go_wp2_with fail
  go_loopw [8] (fun i8 wr => ∃ (k : Nat), i8 = .int .i64 (k : Int) ∧ k ≤ l.length ∧ (∀ i (hi : i < (names l).length), i < k → ((names l)[i].toList == t.toList) = false) ∧ Below w.heap.size w wr) (fun i8 _ => l.length - (intOf i8).toNat)
  case atStart => exact ⟨0, rfl, by omega, fun i hi h0 => absurd h0 (Nat.not_lt_zero i), Below.refl _ _⟩
  case round =>
    obtain ⟨k, rfl, hk, hall, hb⟩ := hrel
    have HA : Hid (∀ i (hi : i < (names l).length), i < k → ((names l)[i].toList == t.toList) = false) := hall
    clear hall
    by_cases hkn : k < l.length
    · have hkn' : (k : Int) < (l.length : Int) := by omega
      have hR := HR.out.go hb
      obtain ⟨b, off, rfl, hbB, hst⟩ := hR.stepCell
      obtain ⟨e0, e2, e3, nv, e1, hnv⟩ := hst k hkn
      obtain ⟨za, zc, hzv⟩ := hnv.shape
      subst hzv
      have hnm : (names l)[k]'(by rw [names_len]; exact hkn) = (stepOf l k).name := by rw [stepOf_eq hkn]; simp [names]
      obtain ⟨x, hx⟩ : ∃ x, stepOf l k = x := ⟨_, rfl⟩
      rw [hx] at e0 e1 e2 e3 hnm
      obtain ⟨x0, x1, x2, x3⟩ := x
      dsimp only at e0 e1 e2 e3 hnm
      have HNM : Hid ((names l)[k]'(by rw [names_len]; exact hkn) = x0) := hnm
      have cn := implNamed x0 za x1.length zc x2 x3 t gx wr ((hb.cell (p := ⟨gx, 0, none⟩) hgl).trans HG.out) (Nat.lt_of_lt_of_le hgl hb.size)
      have HBW : Hid (Below w.heap.size w wr) := hb
      clear hR hst hnv hnm hx hb
      cases he : (x0.toList == t.toList)
      · rw [he] at cn
        go_wp2_with (go_at_call 60; go_must (refine cn.mono ?_; rintro e w1 ⟨rfl, hb1⟩))
        refine ⟨⟨k + 1, rfl, by omega, fun i hi h0 => ?_, good_below HBW.out hb1⟩, by simp [intOf]; omega⟩
        by_cases e : i = k
        · subst e; rw [HNM.out]; exact he
        · exact HA.out i hi (by omega)
      · rw [he] at cn
        have hFk : F = (k : Int) := by rw [← HF.out]; exact findI_at (by rw [names_len]; exact hkn) HA.out (by rw [HNM.out]; exact he)
        subst hFk
        go_wp2_with (go_at_call 60; go_must (refine cn.mono ?_; rintro e w1 ⟨rfl, hb1⟩))
        go_ret
        exact ⟨rfl, good_below HBW.out hb1⟩
    · have hkn' : ¬ ((k : Int) < (l.length : Int)) := by omega
      have hFk : F = -1 := by rw [← HF.out]; exact findI_none (fun i hi => HA.out i hi (by rw [names_len] at hi; omega))
      subst hFk
      go_wp2_with fail
      go_ret
      exact ⟨rfl, hb⟩
set_option maxRecDepth 100000 in
theorem implFind (h : RunI S B l a cap g gp rv reps dv cv w0 w s) (t : ByteArray) :
    Calls Tryz.prog 42 #[.pointer (some ⟨g, 0, none⟩), .string t] w fun e w' => e = .returned (.int .i64 (findI (names l) t)) ∧ Below w.heap.size w w' := by
  have hb : Below w.heap.size w (w.alloc (.cells #[.string t] 9)) := (Below.refl _ w).alloc (Nat.le_refl _) _
  have kb : Blk (w.alloc (.cells #[.string t] 9)) w.heap.size 9 #[.string t] := heap_alloc_last w _
  have h1 := h.go hb
  have ci := implIndexSt h1 t w.heap.size (kb.cell 0) kb.lt
  have c0 := h1.blk.cell 0
  simp at c0
  have HB : Hid _ := hb
  clear h h1 kb hb
  go_enter Tryz.func42, Tryz.ntmps42
  go_wp2_with (go_at_call 59; go_must (refine ci.mono ?_; rintro e w1 ⟨rfl, hb1⟩))
  go_ret
  exact ⟨rfl, good_below HB.out hb1⟩
end
end Go.Proofs.YtdheogonghcokaaGreatDoor

namespace Go.Proofs.YtdheogonghcokaaGreatDoor
open Go.ChangeShapes Go.WideShapes Go.ChangeAt Go.RowKit
set_option linter.unusedVariables false
set_option linter.unusedSimpArgs false

section
variable {P : Program} {md : Region.Mode} {ops : Array Oper} {o : Oper} {Q : Exit → Act → World → Prop}
/-- What is asked behind the others: the last one. -/
def lastQ (P : Program) (o : Oper) (Q : Exit → Act → World → Prop) : Exit → Act → World → Prop
  | .normal, a, w => o.wp P a w (fun a' w' => Q .normal a' w') Q
  | .panic c, a, w => Q (.panic c) a w
  | .outgrown, a, w => Q .outgrown a w
  | _, _, _ => False
theorem upon_last {x : Oper} {a : Act} {w : World} {K K' : Act → World → Prop} (hK : ∀ a w, K a w → K' a w) (h : x.wp P a w K (lastQ P o Q)) : x.wp P a w K' Q := by
  unfold Oper.wp at *
  generalize (execOp a.eval x).run P w = r at *
  cases r with
  | ok n w' =>
    cases n <;> simp only [Oper.upon] at h ⊢ <;>
      first
        | exact hK _ _ h
        | exact Calls.mono h (fun e w'' he => by cases e <;> first | exact hK _ _ he | exact he)
        | exact Rows.mono h (fun _ _ he => hK _ _ he)
  | halt x w' => cases x <;> simp only [Oper.upon] at h ⊢ <;> exact h
/-- Each waits for earlier ones alone, none has a guard, the last one waits for all. -/
structure LastOne (md : Region.Mode) (ops : Array Oper) (o : Oper) : Prop where
  back : ∀ (j : Nat) (x : Oper), ops[j]? = some x → x.guard = none ∧ ∀ e ∈ x.after, e.on < j
  own : o.guard = none ∧ ∀ e ∈ o.after, e.on < ops.size
  all : ∀ j, j < ops.size → (∃ e ∈ o.after, Region.binds md e = true ∧ e.on = j) ∨ ∃ (k : Nat) (x : Oper), j < k ∧ ops[k]? = some x ∧ ∃ e ∈ x.after, Region.binds md e = true ∧ e.on = j
/-- Who has come up has waited. -/
def Closed (md : Region.Mode) (ops : Array Oper) (listed : Array Bool) : Prop := ∀ (j : Nat) (x : Oper), ops[j]? = some x → listed.getD j true = true → ∀ e ∈ x.after, Region.binds md e = true → listed.getD e.on false = true
theorem Closed.set {listed : Array Bool} (h : Closed md ops listed) {i : Nat} (hi : i ∈ Region.ready md ops listed) : Closed md ops (listed.setIfInBounds i true) := by
  intro j x hx hj e he hb
  obtain ⟨h1, y, hy, h2⟩ := mem_ready.1 hi
  have key : listed.getD e.on false = true := by
    by_cases e' : i = j
    · subst e'
      obtain rfl := Option.some.inj (hx.symm.trans hy)
      exact h2 e he hb
    · rw [getD_set_ne true e'] at hj
      exact h j x hx hj e he hb
  by_cases e' : i = e.on
  · rw [← e'] at key ⊢
    rw [getD_both h1] at key
    cases key
  · rw [getD_set_ne false e']; exact key
theorem getD_push {listed : Array Bool} {n i : Nat} (hs : listed.size = n) (hi : i < n) (x d : Bool) : (listed.push x).getD i d = listed.getD i d := by
  have h1 : i < listed.size := by omega
  simp [Array.getElem?_push, h1, Nat.ne_of_lt h1]
theorem ready_push {listed : Array Bool} (hl : LastOne md ops o) (hs : listed.size = ops.size) {i : Nat} (hi : i < ops.size) (x : Bool) : i ∈ Region.ready md (ops.push o) (listed.push x) ↔ i ∈ Region.ready md ops listed := by
  rw [mem_ready, mem_ready, getD_push hs hi]
  have e : (ops.push o)[i]? = ops[i]? := by simp [Array.getElem?_push, Nat.ne_of_lt hi]
  rw [e]
  constructor
  · rintro ⟨h1, y, hy, h2⟩
    refine ⟨h1, y, hy, fun e he hb => ?_⟩
    have := h2 e he hb
    rwa [getD_push hs (by have := (hl.back i y hy).2 e he; omega)] at this
  · rintro ⟨h1, y, hy, h2⟩
    refine ⟨h1, y, hy, fun e he hb => ?_⟩
    rw [getD_push hs (by have := (hl.back i y hy).2 e he; omega)]
    exact h2 e he hb
theorem all_listed {listed : Array Bool} (hl : LastOne md ops o) (hs : listed.size = ops.size) (hr : Region.ready md ops listed = []) : ∀ j, j < ops.size → listed.getD j true = true := by
  intro j
  induction j using Nat.strongRecOn with
  | ind j ih =>
    intro hj
    cases h : listed.getD j true
    · have hmem : j ∈ Region.ready md ops listed := by
        rw [mem_ready]
        refine ⟨h, ops[j], by simp [hj], fun e he hb => ?_⟩
        have hlt := (hl.back j ops[j] (by simp [hj])).2 e he
        have h1 := ih e.on hlt (by omega)
        have h2 : e.on < listed.size := by omega
        simp [h2] at h1 ⊢
        exact h1
      rw [hr] at hmem
      cases hmem
    · rfl
theorem last_ready {listed : Array Bool} (hl : LastOne md ops o) (hs : listed.size = ops.size) (hc : Closed md ops listed) : ops.size ∈ Region.ready md (ops.push o) (listed.push false) ↔ ∀ j, j < ops.size → listed.getD j true = true := by
  rw [mem_ready]
  have e : (ops.push o)[ops.size]? = some o := by simp
  rw [e]
  have h0 : (listed.push false).getD ops.size true = false := by simp [← hs]
  rw [h0]
  have turn : ∀ j, j < ops.size → listed.getD j false = true → listed.getD j true = true := fun j hj h => by
    have h3 : j < listed.size := by omega
    simp [h3] at h ⊢
    exact h
  constructor
  · rintro ⟨_, y, hy, h2⟩
    obtain rfl := Option.some.inj hy
    have : ∀ m j, j < ops.size → ops.size - j ≤ m → listed.getD j true = true := by
      intro m
      induction m with
      | zero => intro j hj hm; omega
      | succ m ih =>
        intro j hj hm
        rcases hl.all j hj with ⟨e, he, hb, rfl⟩ | ⟨k, x, hk, hx, e, he, hb, rfl⟩
        · have := h2 e he hb
          rw [getD_push hs hj] at this
          exact turn _ hj this
        · have hks := (Array.getElem?_eq_some_iff.1 hx).1
          exact turn _ hj (hc k x hx (ih k hks (by omega)) e he hb)
    exact fun j hj => this _ j hj (Nat.le_refl _)
  · intro h
    refine ⟨rfl, o, rfl, fun e he hb => ?_⟩
    have hlt := hl.own.2 e he
    rw [getD_push hs hlt]
    have := h e.on hlt
    have h3 : e.on < listed.size := by omega
    simp [h3] at this ⊢
    exact this
theorem ready_all {listed : Array Bool} (hs : listed.size = ops.size) (h : ∀ j, j < ops.size → listed.getD j true = true) : Region.ready md ops listed = [] := by
  refine List.eq_nil_iff_forall_not_mem.2 fun i hi => ?_
  rw [mem_ready] at hi
  obtain ⟨h1, y, hy, _⟩ := hi
  have := h i (Array.getElem?_eq_some_iff.1 hy).1
  rw [h1] at this
  cases this
theorem wpOp_none {i : Nat} {x : Oper} {K : Act → World → Prop} {a : Act} {w : World} (hx : ops[i]? = some x) (hg : x.guard = none) (h : x.wp P a w K Q) : wpOp P ops Q i K a w := by
  unfold wpOp
  simp only [hx]
  have hw : Region.wanted x (yielded ops a.tmps) = true := by simp [Region.wanted, hg]
  rw [if_pos hw]
  exact .inl h
theorem end_ready {listed : Array Bool} (hl : LastOne md ops o) (hs : listed.size = ops.size) (h : ∀ j, j < ops.size → listed.getD j true = true) : Region.ready md (ops.push o) ((listed.push false).setIfInBounds ops.size true) = [] := by
  refine ready_all (by simp [hs]) fun j hj => ?_
  have hj' : j < ops.size + 1 := by simpa using hj
  by_cases e : j = ops.size
  · subst e; simp [← hs]
  · have hlt : j < ops.size := by omega
    rw [getD_set_ne true (Ne.symm e), getD_push hs hlt]
    exact h j hlt
theorem wpAny_nil {Q : Exit → Act → World → Prop} {listed : Array Bool} {a : Act} {w : World} (hr : Region.ready md ops listed = []) (h : Q .normal a w) : ∀ f, wpAny P md ops Q f listed a w
  | 0 => ⟨hr, h⟩
  | _ + 1 => ⟨fun _ => h, by rw [hr]; simp⟩
theorem wpAny_last (hl : LastOne md ops o) : ∀ (f : Nat) (listed : Array Bool) (a : Act) (w : World), listed.size = ops.size → Closed md ops listed → wpAny P md ops (lastQ P o Q) f listed a w → wpAny P md (ops.push o) Q (f + 1) (listed.push false) a w := by
  have atEnd : ∀ (f : Nat) (listed : Array Bool) (a : Act) (w : World), listed.size = ops.size → (∀ j, j < ops.size → listed.getD j true = true) → lastQ P o Q .normal a w → wpOp P (ops.push o) Q ops.size (wpAny P md (ops.push o) Q f ((listed.push false).setIfInBounds ops.size true)) a w := fun f listed a w hs hall hq =>
    wpOp_none (x := o) (by simp) hl.own.1 (Oper.wp_mono (fun a' w' h => wpAny_nil (end_ready hl hs hall) h f) hq)
  intro f
  induction f with
  | zero =>
    intro listed a w hs hcl h
    have hall := all_listed hl hs h.1
    refine ⟨fun hr => ?_, fun i hi => ?_⟩
    · have := (last_ready hl hs hcl).2 hall
      rw [hr] at this
      cases this
    · have hlt : i < ops.size + 1 := by
        obtain ⟨_, y, hy, _⟩ := mem_ready.1 hi
        have := (Array.getElem?_eq_some_iff.1 hy).1
        simpa using this
      by_cases e : i = ops.size
      · subst e; exact atEnd 0 listed a w hs hall h.2
      · have hm := (ready_push hl hs (by omega) false).1 hi
        rw [h.1] at hm
        cases hm
  | succ f ih =>
    intro listed a w hs hcl h
    refine ⟨fun hr => ?_, fun i hi => ?_⟩
    · have h0 : Region.ready md ops listed = [] := by
        refine List.eq_nil_iff_forall_not_mem.2 fun i hi => ?_
        have hlt : i < ops.size := by
          obtain ⟨_, y, hy, _⟩ := mem_ready.1 hi
          exact (Array.getElem?_eq_some_iff.1 hy).1
        have := (ready_push hl hs hlt false).2 hi
        rw [hr] at this
        cases this
      have := (last_ready hl hs hcl).2 (all_listed hl hs h0)
      rw [hr] at this
      cases this
    · have hlt : i < ops.size + 1 := by
        obtain ⟨_, y, hy, _⟩ := mem_ready.1 hi
        have := (Array.getElem?_eq_some_iff.1 hy).1
        simpa using this
      by_cases e : i = ops.size
      · subst e
        have hall := (last_ready hl hs hcl).1 hi
        exact atEnd (f + 1) listed a w hs hall (h.1 (ready_all hs hall))
      · have hi' : i < ops.size := by omega
        have hm := (ready_push hl hs hi' false).1 hi
        have h1 := h.2 i hm
        have hx : ops[i]? = some ops[i] := by simp [hi']
        have hg := (hl.back i _ hx).1
        have hw : Region.wanted ops[i] (yielded ops a.tmps) = true := by simp [Region.wanted, hg]
        unfold wpOp at h1
        simp only [hx] at h1
        rw [if_pos hw] at h1
        have hset : (listed.push false).setIfInBounds i true = (listed.setIfInBounds i true).push false := by
          apply Array.ext'
          have h9 : i < listed.toList.length := by simp; omega
          simp [List.set_append_left _ _ h9]
        have hx' : (ops.push o)[i]? = some ops[i] := by simp [Array.getElem?_push, hi', Nat.ne_of_lt hi']
        have hw' : Region.wanted ops[i] (yielded (ops.push o) a.tmps) = true := by simp [Region.wanted, hg]
        unfold wpOp
        simp only [hx']
        rw [if_pos hw', hset]
        rcases h1 with h1 | ⟨h1, h2⟩
        · exact .inl (upon_last (fun a' w' h3 => ih _ a' w' (by simp [hs]) (hcl.set hm) h3) h1)
        · exact .inr ⟨h1, by obtain ⟨a', w', h3⟩ := h2; exact ⟨a', w', h3⟩⟩
/-- The same, as a test. -/
def lastB (md : Region.Mode) (ops : List Oper) (o : Oper) : Bool :=
  ((List.range ops.length).all fun j => match ops[j]? with | some x => x.guard.isNone && x.after.all (fun e => decide (e.on < j)) | none => false) && o.guard.isNone && o.after.all (fun e => decide (e.on < ops.length)) && (List.range ops.length).all fun j => o.after.any (fun e => Region.binds md e && (e.on == j)) || (List.range ops.length).any fun k => decide (j < k) && (match ops[k]? with | some x => x.after.any (fun e => Region.binds md e && (e.on == j)) | none => false)
theorem lastB_spec {l : List Oper} (h : lastB md l o = true) : LastOne md l.toArray o := by
  unfold lastB at h
  simp only [Bool.and_eq_true, List.all_eq_true, List.mem_range, Option.isNone_iff_eq_none, Array.all_eq_true', decide_eq_true_eq, Array.any_eq_true', beq_iff_eq, Bool.or_eq_true, List.any_eq_true] at h
  obtain ⟨⟨⟨h1, h2⟩, h3⟩, h4⟩ := h
  refine ⟨fun j x hx => ?_, ⟨h2, fun e he => by simpa using h3 e he⟩, fun j hj => ?_⟩
  · have hx' : l[j]? = some x := by simpa using hx
    have hj : j < l.length := (List.getElem?_eq_some_iff.1 hx').1
    have := h1 j hj
    rw [hx'] at this
    simp only [Bool.and_eq_true, Option.isNone_iff_eq_none, Array.all_eq_true', decide_eq_true_eq] at this
    exact this
  · rcases h4 j (by simpa using hj) with ⟨e, he, h5, h6⟩ | ⟨k, hk, hjk, h7⟩
    · exact .inl ⟨e, he, h5, h6⟩
    · cases hx : l[k]? with
      | none => rw [hx] at h7; simp at h7
      | some x =>
        rw [hx] at h7
        simp only [Array.any_eq_true', Bool.and_eq_true, beq_iff_eq] at h7
        obtain ⟨e, he, h5, h6⟩ := h7
        exact .inr ⟨k, x, hjk, by simpa using hx, e, he, h5, h6⟩
theorem wp_region_last {S : World → Prop} {id : Nat} {l : List Oper} {a : Act} {w : World} (n : Nat) (hm : P.follows .mixedOrders = true) (hn : l.take n ++ [o] = l) (hB : lastB .any (l.take n) o = true) (hS : S w.drew)
    (h : S w.drew → wpAnyH P .any (l.take n).toArray (lastQ P o Q) S (l.take n).toArray.size (Array.replicate (l.take n).toArray.size false) a w.drew) : (Code.region id l.toArray true).wp P Q a w := by
  refine wp_region_any hm ?_
  have := wpAny_last (Q := Q) (lastB_spec hB) _ _ a w.drew (by simp) (fun j x hx hj => by
    have hlt := (Array.getElem?_eq_some_iff.1 hx).1
    have hlt' : j < (l.take n).toArray.size := hlt
    have h9 : (Array.replicate (l.take n).toArray.size false).getD j true = false := by rw [Array.getD_eq_getD_getElem?, Array.getElem?_replicate, if_pos hlt']; rfl
    rw [h9] at hj
    cases hj) (wpAny_of_held _ _ _ _ (h hS))
  have e1 : (l.take n).toArray.push o = l.toArray := by simp [hn]
  have e2 : (Array.replicate (l.take n).toArray.size false).push false = Array.replicate l.toArray.size false := by
    rw [← e1, ← Array.replicate_succ]; simp
  have e3 : (l.take n).toArray.size + 1 = l.toArray.size := by rw [← e1]; simp
  rw [e1, e2, e3] at this
  exact this
end
end Go.Proofs.YtdheogonghcokaaGreatDoor

namespace Go.Proofs.YtdheogonghcokaaGreatDoor
open Go.ChangeShapes Go.WideShapes Go.ChangeAt Go.RowKit
set_option linter.unusedVariables false
set_option linter.unusedSimpArgs false

set_option maxRecDepth 100000 in
theorem implCloneT (s : ByteArray) (hz : s.size ≤ 1048576) (w : World) : Calls Tryz.prog 49 #[.string s] w fun e w' => e = .returned (.string s) ∧ Below w.heap.size w w' := by
  have c := Tryz.stringslite_Clone s w (by omega)
  go_enter Tryz.func49, Tryz.ntmps49
  go_wp2_with (go_at_call 80; go_must (refine c.mono ?_; rintro e w1 ⟨rfl, hb1⟩))
  go_ret
  exact ⟨rfl, hb1⟩
theorem step_callC {ops : Array Oper} {o : Oper} {a : Act} {w : World} {K : Act → World → Prop} {Q : Exit → Act → World → Prop} {E : Prop} (hg : o.guard = none) (f : FuncId) (args : Array Value) (hrun : (execOp a.eval o).run Tryz.prog w = .ok (.enter f args) w) {Post : Ending → World → Prop} (hc : Calls Tryz.prog f args w Post) (h : ∀ e w', Post e w' → ∃ v, e = .returned v ∧ K (a.put o.dst v) w') :
    if Region.wanted o (yielded ops a.tmps) = true then Oper.wp Tryz.prog o a w K Q else E := by
  have hw : Region.wanted o (yielded ops a.tmps) = true := by simp [Region.wanted, hg]
  rw [if_pos hw]
  unfold Oper.wp
  rw [hrun, Oper.upon_enter]
  refine hc.mono fun e w'' hh => ?_
  obtain ⟨v, rfl, hk⟩ := h e w'' hh
  exact hk
theorem CmdsAt.newAt (w : World) (x y : Int) (z : ByteArray) (g : Nat) (hg : w.heap.size = g) : CmdsAt (fun b => b = g) (w.alloc (.cells #[.int .i64 x, .int .i64 y, .string z] 90)) (.slice (some ⟨g, 0, none⟩) 1 1) [⟨x, y, z⟩] := by
  subst hg; exact CmdsAt.new w x y z
section
variable {S : Nat → Prop} {B : Nat} {l : List Step} {a : Option Addr} {cap g gp : Nat} {rv : Value} {reps : List Int} {dv cv : Value} {w0 w : World} {s : Sg}
set_option maxRecDepth 100000 in
set_option maxHeartbeats 4000000 in
theorem implOrder (h : RunI S B l a cap g gp rv reps dv cv w0 w s) (kind : Int) (i : Nat) (hi : i < l.length) (ht : trAt s i < 5) (hc : s.cmds.length ≤ 900000) :
    Calls Tryz.prog 95 #[.pointer (some ⟨g, 0, none⟩), .int .i64 kind, .int .i64 (i : Int)] w fun e w' => e = .returned (.tuple #[]) ∧ ∃ cv', RunI S B l a cap g gp rv reps dv cv' w0 w' (again l s kind i) := by
  have c2 := h.blk.cell 2
  simp at c2
  have hl : l.length ≤ 20 := h.saga.len.2
  have hl' : (l.length : Int) ≤ 20 := by omega
  have hi' : (i : Int) < (l.length : Int) := by omega
  obtain ⟨d1, f1⟩ := h.trCell i hi
  have tb := h.ok.tb i
  obtain ⟨tt, htt⟩ : ∃ tt, trAt s i = tt := ⟨_, rfl⟩
  unfold again
  rw [htt] at d1 tb ht ⊢
  have H1 := h.putTr i hi (tt + 1) (h.ok.setTr hi (tt + 1) (by omega) (by omega))
  have hta := trAt_set (s := s) (i := i) (by rw [h.ok.tl]; exact hi) (tt + 1) i
  rw [if_pos rfl] at hta
  have hzn : (stepOf l i).name.size ≤ 1048576 := by
    have := (h.saga.ok _ (List.getElem_mem hi)).1
    rw [← stepOf_eq hi] at this
    omega
  unfold cmdS
  rw [hta]
  obtain ⟨nm, hnm⟩ : ∃ nm, (stepOf l i).name = nm := ⟨_, rfl⟩
  rw [hnm] at hzn ⊢
  obtain ⟨s1, hs1⟩ : ∃ s1, setTr s i (tt + 1) = s1 := ⟨_, rfl⟩
  have hcm : s1.cmds = s.cmds := by rw [← hs1]; rfl
  rw [hs1] at H1 hta ⊢
  have HH1 : Hid (RunI S B l a cap g gp rv reps dv cv w0 (w.setCell ⟨gp, i * 2 + 1, none⟩ (.int .i64 (tt + 1))) s1) := H1
  have HTA : Hid (trAt s1 i = tt + 1) := hta
  have HC1 : Hid (s1.cmds.length ≤ 900000) := by rw [hcm]; exact hc
  have HNM : Hid ((stepOf l i).name = nm) := hnm
  clear h H1 htt hta hc hcm hs1 hnm
  go_enter Tryz.func95, Tryz.ntmps95
  go_upto_region 1 with fail
  obtain ⟨wA, hwA⟩ : ∃ wA, w.setCell ⟨gp, i * 2 + 1, none⟩ (.int .i64 (tt + 1)) = wA := ⟨_, rfl⟩
  rw [hwA] at HH1 ⊢
  clear hwA c2 d1 f1
  have H1 := HH1.out
  obtain ⟨b, off, rfl, hbB, hst⟩ := H1.stepCell
  have e0 := (hst i hi).1
  have c0 := H1.blk.cell 0
  have c2 := H1.blk.cell 2
  have c4 := H1.blk.cell 4
  simp at c0 c2 c4
  have d1 := (H1.trCell i hi).1
  rw [HTA.out] at d1
  rw [HNM.out] at e0
  clear H1 hst
  have KP : Hid (∀ W, Below wA.heap.size wA W → W.cell? ⟨g, 0, none⟩ = some (.slice (some ⟨b, off, none⟩) l.length cap) ∧ W.cell? ⟨g, 2, none⟩ = some (.slice (some ⟨gp, 0, none⟩) l.length l.length) ∧ W.cell? ⟨g, 4, none⟩ = some cv ∧ W.cell? ⟨gp, i * 2 + 1, none⟩ = some (.int .i64 (tt + 1)) ∧ W.cell? ⟨b, off + i * 4, none⟩ = some (.string nm)) := fun W hW =>
    ⟨(hW.cell (World.block_lt_of_cell? _ _ c0)).trans c0, (hW.cell (World.block_lt_of_cell? _ _ c2)).trans c2, (hW.cell (World.block_lt_of_cell? _ _ c4)).trans c4, (hW.cell (World.block_lt_of_cell? _ _ d1)).trans d1, (hW.cell (World.block_lt_of_cell? _ _ e0)).trans e0⟩
  have cc := implCloneT nm hzn wA.drew
  clear c0 c2 c4 d1 e0
  refine wp_region_last (S := (fun w' => w'.cell? ⟨g, 0, none⟩ = some (.slice (some ⟨b, off, none⟩) l.length cap) ∧ w'.cell? ⟨g, 2, none⟩ = some (.slice (some ⟨gp, 0, none⟩) l.length l.length) ∧ w'.cell? ⟨g, 4, none⟩ = some cv ∧ w'.cell? ⟨gp, i * 2 + 1, none⟩ = some (.int .i64 (tt + 1)) ∧ w'.cell? ⟨b, off + i * 4, none⟩ = some (.string nm))) 28 (by kernel_rfl) rfl (by kernel_rfl) (KP.out _ (Below.refl _ _).drew) (fun hHeld => ?_)
  simp only [List.take_succ_cons, List.take_zero]
  refine wpAnyH_take (i := 0) (v := ?_) rfl (by kernel_rfl) (by kernel_rfl) (by kernel_rfl) (fun _ _ _ h => h) (Or.inl ⟨by rfl, ?_⟩) (by assumption) ?_
  rotate_left 1
  · (intro w' hSw; (try dsimp only at hSw); go_simp; all_goals with_reducible rfl)
  (try simp only [Act.put, List.setIfInBounds_toArray, List.set_cons_zero, List.set_cons_succ])
  refine wpAnyH_take (i := 1) (v := ?_) rfl (by kernel_rfl) (by kernel_rfl) (by kernel_rfl) (fun _ _ _ h => h) (Or.inl ⟨by rfl, ?_⟩) (by assumption) ?_
  rotate_left 1
  · (intro w' hSw; (try dsimp only at hSw); go_simp; all_goals with_reducible rfl)
  (try simp only [Act.put, List.setIfInBounds_toArray, List.set_cons_zero, List.set_cons_succ])
  refine wpAnyH_take (i := 2) (v := ?_) rfl (by kernel_rfl) (by kernel_rfl) (by kernel_rfl) (fun _ _ _ h => h) (Or.inl ⟨by rfl, ?_⟩) (by assumption) ?_
  rotate_left 1
  · (intro w' hSw; (try dsimp only at hSw); go_simp; all_goals with_reducible rfl)
  (try simp only [Act.put, List.setIfInBounds_toArray, List.set_cons_zero, List.set_cons_succ])
  refine wpAnyH_take (i := 3) (v := ?_) rfl (by kernel_rfl) (by kernel_rfl) (by kernel_rfl) (fun _ _ _ h => h) (Or.inl ⟨by rfl, ?_⟩) (by assumption) ?_
  rotate_left 1
  · (intro w' hSw; (try dsimp only at hSw); go_simp; all_goals with_reducible rfl)
  (try simp only [Act.put, List.setIfInBounds_toArray, List.set_cons_zero, List.set_cons_succ])
  refine wpAnyH_take (i := 4) (v := ?_) rfl (by kernel_rfl) (by kernel_rfl) (by kernel_rfl) (fun _ _ _ h => h) (Or.inl ⟨by rfl, ?_⟩) (by assumption) ?_
  rotate_left 1
  · (intro w' hSw; (try dsimp only at hSw); go_simp; all_goals with_reducible rfl)
  (try simp only [Act.put, List.setIfInBounds_toArray, List.set_cons_zero, List.set_cons_succ])
  refine wpAnyH_take (i := 5) (v := ?_) rfl (by kernel_rfl) (by kernel_rfl) (by kernel_rfl) (fun _ _ _ h => h) (Or.inl ⟨by rfl, ?_⟩) (by assumption) ?_
  rotate_left 1
  · (intro w' hSw; (try dsimp only at hSw); go_simp; all_goals with_reducible rfl)
  (try simp only [Act.put, List.setIfInBounds_toArray, List.set_cons_zero, List.set_cons_succ])
  refine wpAnyH_take (i := 6) (v := ?_) rfl (by kernel_rfl) (by kernel_rfl) (by kernel_rfl) (fun _ _ _ h => h) (Or.inl ⟨by rfl, ?_⟩) (by assumption) ?_
  rotate_left 1
  · (intro w' hSw; (try dsimp only at hSw); go_simp; all_goals with_reducible rfl)
  (try simp only [Act.put, List.setIfInBounds_toArray, List.set_cons_zero, List.set_cons_succ])
  refine wpAnyH_take (i := 7) (v := ?_) rfl (by kernel_rfl) (by kernel_rfl) (by kernel_rfl) (fun _ _ _ h => h) (Or.inl ⟨by rfl, ?_⟩) (by assumption) ?_
  rotate_left 1
  · (intro w' hSw; (try dsimp only at hSw); go_simp; all_goals with_reducible rfl)
  (try simp only [Act.put, List.setIfInBounds_toArray, List.set_cons_zero, List.set_cons_succ])
  refine wpAnyH_take (i := 8) (v := ?_) rfl (by kernel_rfl) (by kernel_rfl) (by kernel_rfl) (fun _ _ _ h => h) (Or.inl ⟨by rfl, ?_⟩) (by assumption) ?_
  rotate_left 1
  · (intro w' hSw; (try dsimp only at hSw); go_simp; all_goals with_reducible rfl)
  (try simp only [Act.put, List.setIfInBounds_toArray, List.set_cons_zero, List.set_cons_succ])
  refine wpAnyH_take (i := 9) (v := ?_) rfl (by kernel_rfl) (by kernel_rfl) (by kernel_rfl) (fun _ _ _ h => h) (Or.inl ⟨by rfl, ?_⟩) (by assumption) ?_
  rotate_left 1
  · (intro w' hSw; (try dsimp only at hSw); go_simp; all_goals with_reducible rfl)
  (try simp only [Act.put, List.setIfInBounds_toArray, List.set_cons_zero, List.set_cons_succ])
  refine wpAnyH_take (i := 10) (v := ?_) rfl (by kernel_rfl) (by kernel_rfl) (by kernel_rfl) (fun _ _ _ h => h) (Or.inl ⟨by rfl, ?_⟩) (by assumption) ?_
  rotate_left 1
  · (intro w' hSw; (try dsimp only at hSw); go_simp; all_goals with_reducible rfl)
  (try simp only [Act.put, List.setIfInBounds_toArray, List.set_cons_zero, List.set_cons_succ])
  refine wpAnyH_take (i := 11) (v := ?_) rfl (by kernel_rfl) (by kernel_rfl) (by kernel_rfl) (fun _ _ _ h => h) (Or.inl ⟨by rfl, ?_⟩) (by assumption) ?_
  rotate_left 1
  · (intro w' hSw; (try dsimp only at hSw); go_simp; all_goals with_reducible rfl)
  (try simp only [Act.put, List.setIfInBounds_toArray, List.set_cons_zero, List.set_cons_succ])
  refine wpAnyH_take (i := 12) (v := ?_) rfl (by kernel_rfl) (by kernel_rfl) (by kernel_rfl) (fun _ _ _ h => h) (Or.inl ⟨by rfl, ?_⟩) (by assumption) ?_
  rotate_left 1
  · (intro w' hSw; (try dsimp only at hSw); go_simp; all_goals with_reducible rfl)
  (try simp only [Act.put, List.setIfInBounds_toArray, List.set_cons_zero, List.set_cons_succ])
  refine wpAnyH_take (i := 13) (v := ?_) rfl (by kernel_rfl) (by kernel_rfl) (by kernel_rfl) (fun _ _ _ h => h) (Or.inl ⟨by rfl, ?_⟩) (by assumption) ?_
  rotate_left 1
  · (intro w' hSw; (try dsimp only at hSw); go_simp; all_goals with_reducible rfl)
  (try simp only [Act.put, List.setIfInBounds_toArray, List.set_cons_zero, List.set_cons_succ])
  refine wpAnyH_take (i := 14) (v := ?_) rfl (by kernel_rfl) (by kernel_rfl) (by kernel_rfl) (fun _ _ _ h => h) (Or.inl ⟨by rfl, ?_⟩) (by assumption) ?_
  rotate_left 1
  · (intro w' hSw; (try dsimp only at hSw); go_simp; all_goals with_reducible rfl)
  (try simp only [Act.put, List.setIfInBounds_toArray, List.set_cons_zero, List.set_cons_succ])
  refine wpAnyH_take (i := 15) (v := ?_) rfl (by kernel_rfl) (by kernel_rfl) (by kernel_rfl) (fun _ _ _ h => h) (Or.inl ⟨by rfl, ?_⟩) (by assumption) ?_
  rotate_left 1
  · (intro w' hSw; (try dsimp only at hSw); go_simp; all_goals with_reducible rfl)
  (try simp only [Act.put, List.setIfInBounds_toArray, List.set_cons_zero, List.set_cons_succ])
  refine wpAnyH_take (i := 16) (v := ?_) rfl (by kernel_rfl) (by kernel_rfl) (by kernel_rfl) (fun _ _ _ h => h) (Or.inl ⟨by rfl, ?_⟩) (by assumption) ?_
  rotate_left 1
  · (intro w' hSw; (try dsimp only at hSw); go_simp; all_goals with_reducible rfl)
  (try simp only [Act.put, List.setIfInBounds_toArray, List.set_cons_zero, List.set_cons_succ])
  refine wpAnyH_take (i := 17) (v := ?_) rfl (by kernel_rfl) (by kernel_rfl) (by kernel_rfl) (fun _ _ _ h => h) (Or.inl ⟨by rfl, ?_⟩) (by assumption) ?_
  rotate_left 1
  · (intro w' hSw; (try dsimp only at hSw); go_simp; all_goals with_reducible rfl)
  (try simp only [Act.put, List.setIfInBounds_toArray, List.set_cons_zero, List.set_cons_succ])
  refine wpAnyH_take (i := 18) (v := ?_) rfl (by kernel_rfl) (by kernel_rfl) (by kernel_rfl) (fun _ _ _ h => h) (Or.inl ⟨by rfl, ?_⟩) (by assumption) ?_
  rotate_left 1
  · (intro w' hSw; (try dsimp only at hSw); go_simp; all_goals with_reducible rfl)
  (try simp only [Act.put, List.setIfInBounds_toArray, List.set_cons_zero, List.set_cons_succ])
  refine wpAnyH_take (i := 19) (v := ?_) rfl (by kernel_rfl) (by kernel_rfl) (by kernel_rfl) (fun _ _ _ h => h) (Or.inl ⟨by rfl, ?_⟩) (by assumption) ?_
  rotate_left 1
  · (intro w' hSw; (try dsimp only at hSw); go_simp; all_goals with_reducible rfl)
  (try simp only [Act.put, List.setIfInBounds_toArray, List.set_cons_zero, List.set_cons_succ])
  refine wpAnyH_take (i := 20) (v := ?_) rfl (by kernel_rfl) (by kernel_rfl) (by kernel_rfl) (fun _ _ _ h => h) (Or.inl ⟨by rfl, ?_⟩) (by assumption) ?_
  rotate_left 1
  · (intro w' hSw; (try dsimp only at hSw); go_simp; all_goals with_reducible rfl)
  (try simp only [Act.put, List.setIfInBounds_toArray, List.set_cons_zero, List.set_cons_succ])
  refine wpAnyH_take (i := 21) (v := ?_) rfl (by kernel_rfl) (by kernel_rfl) (by kernel_rfl) (fun _ _ _ h => h) (Or.inl ⟨by rfl, ?_⟩) (by assumption) ?_
  rotate_left 1
  · (intro w' hSw; (try dsimp only at hSw); go_simp; all_goals with_reducible rfl)
  (try simp only [Act.put, List.setIfInBounds_toArray, List.set_cons_zero, List.set_cons_succ])
  refine wpAnyH_ready (rs := [22]) (by kernel_rfl) (by simp) ?_
  refine AllReadyH.cons rfl (fun K hK => ?_) AllReadyH.nil
  refine step_callC rfl 49 _ (by kernel_rfl) cc ?_
  rintro e w1 ⟨rfl, hb1⟩
  refine ⟨_, rfl, ?_⟩
  have hbz : Below wA.heap.size wA w1 := (Below.refl _ wA).drew.trans hb1
  refine hK.out _ _ ?_ (fun hHeld => ?_)
  · exact KP.out _ hbz
  clear hK K
  (try simp only [Act.put, List.setIfInBounds_toArray, List.set_cons_zero, List.set_cons_succ])
  refine wpAnyH_take (i := 23) (v := ?_) rfl (by kernel_rfl) (by kernel_rfl) (by kernel_rfl) (fun _ _ _ h => h) (Or.inl ⟨by rfl, ?_⟩) (by assumption) ?_
  rotate_left 1
  · (intro w' hSw; (try dsimp only at hSw); go_simp; all_goals with_reducible rfl)
  (try simp only [Act.put, List.setIfInBounds_toArray, List.set_cons_zero, List.set_cons_succ])
  have HZ := HH1.out.go hbz
  have k4 := HZ.blk.cell 4
  have hxg : some g ≠ cv.ownBlock := Ne.symm (HZ.cmds.off HZ.blk (by decide))
  have hxp : some gp ≠ cv.ownBlock := by
    obtain ⟨cs, h1, _⟩ := HZ.parts
    exact Ne.symm (HZ.cmds.off h1 (by decide))
  have hxb : some b ≠ cv.ownBlock := fun e => by have := OwnCmds.block HZ.cmds b e.symm; omega
  refine wpAnyH_ready (rs := [24]) (by kernel_rfl) (by simp) ?_
  refine AllReadyH.cons rfl (fun K hK => ?_) AllReadyH.nil
  go_simp
  refine hK.out _ _ ?_ (fun hHeld => ?_)
  · exact KP.out _ (hbz.alloc hbz.size _)
  clear hK K
  (try simp only [Act.put, List.setIfInBounds_toArray, List.set_cons_zero, List.set_cons_succ])
  refine wpAnyH_ready (rs := [25]) (by kernel_rfl) (by simp) ?_
  refine AllReadyH.cons rfl (fun K hK => ?_) AllReadyH.nil
  refine step_appendCmds rfl (.tmp 21) (.tmp 41) rfl B cv s1.cmds (by simp [Act.eval]) (HZ.cmds.below ((Below.refl _ w1).alloc (Nat.le_refl _) _)) (.slice (some ⟨w1.heap.size, 0, none⟩) 1 1) [⟨kind, tt + 1, nm⟩] (by simp [Act.eval]) (CmdsAt.new w1 kind (tt + 1) nm) (by simp; exact Nat.le_trans HC1.out (by omega)) (by simp; have := HZ.size; omega) ?_
  intro va vn vc w4 hown4 hB4 hgr4 hnil4
  refine hK.out _ _ ?_ (fun hHeld => ?_)
  · exact ⟨hgr4.cell hHeld.1 hxg, hgr4.cell hHeld.2.1 hxg, hgr4.cell hHeld.2.2.1 hxg, hgr4.cell hHeld.2.2.2.1 hxp, hgr4.cell hHeld.2.2.2.2 hxb⟩
  clear hK K
  (try simp only [Act.put, List.setIfInBounds_toArray, List.set_cons_zero, List.set_cons_succ])
  refine wpAnyH_take (i := 26) (v := ?_) rfl (by kernel_rfl) (by kernel_rfl) (by kernel_rfl) (fun _ _ _ h => h) (Or.inl ⟨by rfl, ?_⟩) (by assumption) ?_
  rotate_left 1
  · (intro w' hSw; (try dsimp only at hSw); go_simp; all_goals with_reducible rfl)
  (try simp only [Act.put, List.setIfInBounds_toArray, List.set_cons_zero, List.set_cons_succ])
  refine wpAnyH_take (i := 27) (v := ?_) rfl (by kernel_rfl) (by kernel_rfl) (by kernel_rfl) (fun _ _ _ h => h) (Or.inl ⟨by rfl, ?_⟩) (by assumption) ?_
  rotate_left 1
  · (intro w' hSw; (try dsimp only at hSw); go_simp; all_goals with_reducible rfl)
  (try simp only [Act.put, List.setIfInBounds_toArray, List.set_cons_zero, List.set_cons_succ])
  obtain ⟨hb4, H4⟩ := (HZ.go ((Below.refl _ w1).alloc (Nat.le_refl _) _)).growC hown4 hB4 hgr4
  have g4 := hb4.cell 4
  have f4 := hb4.fro 4
  simp at g4
  refine wpAnyH_done (by kernel_rfl) ?_ _
  show Oper.wp _ _ _ _ _ _
  unfold Oper.wp
  go_simp
  go_end0
  exact ⟨rfl, _, H4⟩
end
end Go.Proofs.YtdheogonghcokaaGreatDoor

namespace Go.Proofs.YtdheogonghcokaaGreatDoor
open Go.ChangeShapes Go.WideShapes Go.ChangeAt Go.RowKit
set_option linter.unusedVariables false
set_option linter.unusedSimpArgs false

section
variable {S : Nat → Prop} {B : Nat} {l : List Step} {a : Option Addr} {cap g gp : Nat} {rv : Value} {reps : List Int} {dv cv : Value} {w0 w : World} {s : Sg}
theorem again_beg (l : List Step) {s : Sg} {i : Nat} (h : i < s.tr.length) (x kind : Int) : again l (setTr (setIs s i x) i 0) kind i = beg l s x kind i := by
  unfold again beg
  have h1 : trAt (setTr (setIs s i x) i 0) i = 0 := by
    have := trAt_set (s := setIs s i x) (i := i) h 0 i
    rw [if_pos rfl] at this
    exact this
  rw [h1]
  have h2 : setTr (setTr (setIs s i x) i 0) i (0 + 1) = setTr (setIs s i x) i 1 := by
    simp [setTr, setIs]
  rw [h2]
set_option maxRecDepth 100000 in
set_option maxHeartbeats 2000000 in
theorem implBegin (h : RunI S B l a cap g gp rv reps dv cv w0 w s) (x kind : Int) (i : Nat) (hi : i < l.length) (hx0 : 0 ≤ x) (hx4 : x ≤ 4) (hn : i ∉ s.done) (hc : s.cmds.length ≤ 900000) :
    Calls Tryz.prog 92 #[.pointer (some ⟨g, 0, none⟩), .int .i64 x, .int .i64 kind, .int .i64 (i : Int)] w fun e w' => e = .returned (.tuple #[]) ∧ ∃ cv', RunI S B l a cap g gp rv reps dv cv' w0 w' (beg l s x kind i) := by
  have c2 := h.blk.cell 2
  simp at c2
  have hl : l.length ≤ 20 := h.saga.len.2
  have hl' : (l.length : Int) ≤ 20 := by omega
  have hi' : (i : Int) < (l.length : Int) := by omega
  obtain ⟨d1, f1⟩ := h.isCell i hi
  obtain ⟨d2, f2⟩ := h.trCell i hi
  have H1 := h.putIs i hi x hx0 hx4 (h.ok.setIs hi x hn)
  have H2 := H1.putTr i hi 0 (H1.ok.setTr hi 0 (by omega) (by omega))
  have hta := trAt_set (s := setIs s i x) (i := i) (by show i < s.tr.length; rw [h.ok.tl]; exact hi) 0 i
  rw [if_pos rfl] at hta
  have hab := again_beg l (s := s) (i := i) (by rw [h.ok.tl]; exact hi) x kind
  have co := implOrder H2 kind i hi (by rw [hta]; omega) hc
  rw [hab] at co
  clear h H1 H2 hta hab
  go_enter Tryz.func92, Tryz.ntmps92
  go_upto_region 1 with fail
  go_wp2_with (go_at_call 95; go_must (refine co.mono ?_; rintro e w5 ⟨rfl, cv5, H5⟩))
  go_end0
  exact ⟨rfl, cv5, H5⟩
set_option maxRecDepth 100000 in
theorem implTakeBack (h : RunI S B l a cap g gp rv reps dv cv w0 w s) (i : Nat) (hi : i < l.length) (hn : i ∉ s.done) :
    Calls Tryz.prog 64 #[.pointer (some ⟨g, 0, none⟩), .int .i64 (i : Int)] w fun e w' => e = .returned (.tuple #[]) ∧ RunI S B l a cap g gp rv reps dv cv w0 w' (setIs s i 4) := by
  have c2 := h.blk.cell 2
  simp at c2
  have hl : l.length ≤ 20 := h.saga.len.2
  have hl' : (l.length : Int) ≤ 20 := by omega
  have hi' : (i : Int) < (l.length : Int) := by omega
  obtain ⟨d1, f1⟩ := h.isCell i hi
  have H1 := h.putIs i hi 4 (by omega) (by omega) (h.ok.setIs hi 4 hn)
  have HH1 : Hid (RunI S B l a cap g gp rv reps dv cv w0 (w.setCell ⟨gp, i * 2, none⟩ (.int .i64 4)) (setIs s i 4)) := H1
  clear h H1
  go_enter Tryz.func64, Tryz.ntmps64
  go_wp2_with fail
  go_end0
  exact ⟨rfl, HH1.out⟩
/-- What a need that is not done answers. -/
def openB (l : List Step) (s : Sg) (t : ByteArray) : Bool := decide (isAt s (numOf l t) ≠ 2)
set_option maxRecDepth 100000 in
set_option maxHeartbeats 2000000 in
theorem implOpen (h : RunI S B l a cap g gp rv reps dv cv w0 w s) (t : ByteArray) (gx : Nat) (hg : w.cell? ⟨gx, 0, none⟩ = some (.pointer (some ⟨g, 0, none⟩))) (hgl : gx < w.heap.size) (hf : 0 ≤ findI (names l) t) :
    Calls Tryz.prog 106 #[.string t, .pointer (some ⟨gx, 0, none⟩)] w fun e w' => e = .returned (.bool (openB l s t)) ∧ Below w.heap.size w w' := by
  have hl : l.length ≤ 20 := h.saga.len.2
  have hl' : (l.length : Int) ≤ 20 := by omega
  obtain ⟨hjl, hj⟩ := find_lt hf
  unfold openB
  have cf := fun N : GoodW (fun W => Below w.heap.size w W) => implFind (h.go N.ok) t
  have p0 := fun N : GoodW (fun W => Below w.heap.size w W) => (N.ok.cell (p := ⟨gx, 0, none⟩) hgl).trans hg
  have p2 := fun N : GoodW (fun W => Below w.heap.size w W) => (h.go N.ok).blk.cell 2
  have p3 := fun N : GoodW (fun W => Below w.heap.size w W) => ((h.go N.ok).isCell (numOf l t) hjl).1
  simp at p2
  simp only [← hj] at cf
  obtain ⟨j, hjj⟩ : ∃ j, numOf l t = j := ⟨_, rfl⟩
  simp only [hjj] at cf p3 hjl ⊢
  have hjl' : (j : Int) < (l.length : Int) := by omega
  obtain ⟨v, hv⟩ : ∃ v, isAt s j = v := ⟨_, rfl⟩
  simp only [hv] at p3 ⊢
  haveI ne : Nonempty (GoodW (fun W => Below w.heap.size w W)) := ⟨⟨_, Below.refl _ _⟩⟩
  clear h hg hf hj hjj hv
  go_enter Tryz.func106, Tryz.ntmps106
  go_upto_region 1 with fail
  refine wp_region_calm (fun W => Below w.heap.size w W) (by kernel_rfl) (by kernel_rfl) (Below.refl _ _).drew ?_
  repeat (go_big_quiet_step ((go_at_call 42; exact Calls.calm _ (fun _ hb => good_below (GoodW.ok _) hb) (cf _))))
  refine wpQuiet_nil ?_
  rintro W2 ⟨⟨W3, hW3⟩, hWe⟩
  have hW2 : Below w.heap.size w W2 := hWe ▸ hW3
  clear hWe hW3
  go_wp2_with fail
  go_ret
  refine ⟨?_, hW2⟩
  by_cases hv2 : v = 2 <;> simp [hv2]
set_option maxRecDepth 100000 in
set_option maxHeartbeats 2000000 in
theorem implIndexN (h : RunI S B l a cap g gp rv reps dv cv w0 w s) (ss : List ByteArray) (a2 : Option Addr) (cap2 gx : Nat) (hlen : ss.length ≤ 2000000) (hc2 : TxtsIn w a2 ss) (hg : w.cell? ⟨gx, 0, none⟩ = some (.pointer (some ⟨g, 0, none⟩))) (hgl : gx < w.heap.size) (hf : ∀ t ∈ ss, 0 ≤ findI (names l) t) :
    Calls Tryz.prog 61 #[.slice a2 ss.length cap2, .func (.func 106) #[] #[.pointer (some ⟨gx, 0, none⟩)]] w fun e w' => (∃ r : Int, e = .returned (.int .i64 r) ∧ decide (0 ≤ r) = ss.any (openB l s)) ∧ Below w.heap.size w w' := by
  have HC : Hid (TxtsIn w a2 ss) := hc2
  have HR : Hid (RunI S B l a cap g gp rv reps dv cv w0 w s) := h
  have HG : Hid (w.cell? ⟨gx, 0, none⟩ = some (.pointer (some ⟨g, 0, none⟩))) := hg
  have HF : Hid (∀ t ∈ ss, 0 ≤ findI (names l) t) := hf
  have hlen' : (ss.length : Int) ≤ 2000000 := by omega
  clear h hc2 hg hf
  go_enter Tryz.func61, Tryz.ntmps61
  go_wp2_with fail
  go_loopw [8] (fun i8 wr => ∃ (k : Nat), i8 = .int .i64 (k : Int) ∧ k ≤ ss.length ∧ (ss.take k).any (openB l s) = false ∧ Below w.heap.size w wr) (fun i8 _ => ss.length - (intOf i8).toNat)
  case atStart => exact ⟨0, rfl, by omega, by simp, Below.refl _ _⟩
  case round =>
    obtain ⟨k, rfl, hk, hany, hb⟩ := hrel
    have HA : Hid ((ss.take k).any (openB l s) = false) := hany
    clear hany
    by_cases hkn : k < ss.length
    · have hkn' : (k : Int) < (ss.length : Int) := by omega
      obtain ⟨b, off, rfl, hg2, hcell⟩ := HC.out (by omega)
      have x1 := (hb.cell (p := ⟨b, off + k, none⟩) hg2).trans (hcell k hkn)
      have cx := implOpen (HR.out.go hb) ss[k] gx ((hb.cell (p := ⟨gx, 0, none⟩) hgl).trans HG.out) (Nat.lt_of_lt_of_le hgl hb.size) (HF.out _ (List.getElem_mem hkn))
      obtain ⟨x, hx⟩ : ∃ x, ss[k] = x := ⟨_, rfl⟩
      have HX : Hid (ss[k] = x) := hx
      rw [hx] at x1 cx
      have HBW : Hid (Below w.heap.size w wr) := hb
      clear hx hcell hb
      obtain ⟨B1, hB1⟩ : ∃ B1, openB l s x = B1 := ⟨_, rfl⟩
      rw [hB1] at cx
      have HB1 : Hid (openB l s x = B1) := hB1
      clear hB1
      cases B1
      · go_wp2_with (go_at_call 106; go_must (refine cx.mono ?_; rintro e w1 ⟨rfl, hb1⟩))
        exact ⟨⟨k + 1, rfl, by omega, any_takeA ss _ k hkn HA.out (by rw [HX.out]; exact HB1.out), good_below HBW.out hb1⟩, by simp [intOf]; omega⟩
      · go_wp2_with (go_at_call 106; go_must (refine cx.mono ?_; rintro e w1 ⟨rfl, hb1⟩))
        go_ret
        refine ⟨⟨_, rfl, ?_⟩, good_below HBW.out hb1⟩
        rw [List.any_eq_true.2 ⟨ss[k], List.getElem_mem hkn, by rw [HX.out]; exact HB1.out⟩]
        simp
    · have hkn' : ¬ ((k : Int) < (ss.length : Int)) := by omega
      have hA := HA.out
      rw [List.take_of_length_le (by omega)] at hA
      go_wp2_with fail
      go_ret
      refine ⟨⟨_, rfl, ?_⟩, hb⟩
      first
        | (rw [hA]; rfl)
        | omega
set_option maxRecDepth 100000 in
theorem implContN (h : RunI S B l a cap g gp rv reps dv cv w0 w s) (ss : List ByteArray) (a2 : Option Addr) (cap2 gx : Nat) (hlen : ss.length ≤ 2000000) (hc2 : TxtsIn w a2 ss) (hg : w.cell? ⟨gx, 0, none⟩ = some (.pointer (some ⟨g, 0, none⟩))) (hgl : gx < w.heap.size) (hf : ∀ t ∈ ss, 0 ≤ findI (names l) t) :
    Calls Tryz.prog 43 #[.slice a2 ss.length cap2, .func (.func 106) #[] #[.pointer (some ⟨gx, 0, none⟩)]] w fun e w' => e = .returned (.bool (ss.any (openB l s))) ∧ Below w.heap.size w w' := by
  have c := implIndexN h ss a2 cap2 gx hlen hc2 hg hgl hf
  clear h hc2 hg hf
  go_enter Tryz.func43, Tryz.ntmps43
  go_wp2_with (go_at_call 61; go_must (refine c.mono ?_; rintro e w1 ⟨⟨r, rfl, hr⟩, hb1⟩))
  go_ret
  refine ⟨congrArg (fun b => Ending.returned (Value.bool b)) ?_, hb1⟩
  rw [← hr]
theorem open_ready (l : List Step) (s : Sg) (i : Nat) : (!(stepOf l i).needs.any (openB l s)) = readyB l s i := by
  unfold readyB
  rw [List.not_any_eq_all_not]
  congr 1
  funext t
  unfold openB
  by_cases h : isAt s (numOf l t) = 2 <;> simp [h]
set_option maxRecDepth 100000 in
set_option maxHeartbeats 2000000 in
theorem implReady (h : RunI S B l a cap g gp rv reps dv cv w0 w s) (i : Nat) (hi : i < l.length) :
    Calls Tryz.prog 91 #[.pointer (some ⟨g, 0, none⟩), .int .i64 (i : Int)] w fun e w' => e = .returned (.bool (readyB l s i)) ∧ Below w.heap.size w w' := by
  have hb : Below w.heap.size w (w.alloc (.cells #[.pointer (some ⟨g, 0, none⟩)] 55)) := (Below.refl _ w).alloc (Nat.le_refl _) _
  have kb : Blk (w.alloc (.cells #[.pointer (some ⟨g, 0, none⟩)] 55)) w.heap.size 55 #[.pointer (some ⟨g, 0, none⟩)] := heap_alloc_last w _
  have h1 := h.go hb
  have hl : l.length ≤ 20 := h.saga.len.2
  have hl' : (l.length : Int) ≤ 20 := by omega
  have hi' : (i : Int) < (l.length : Int) := by omega
  obtain ⟨b, off, rfl, hbB, hst⟩ := h1.stepCell
  obtain ⟨_, _, _, nv, e1, hnv⟩ := hst i hi
  obtain ⟨za, zc, hzv⟩ := hnv.shape
  subst hzv
  have hnd := h.saga.needs i hi
  have hnl := (h.saga.ok _ (List.getElem_mem hi)).2.1
  rw [← stepOf_eq hi] at hnd hnl
  have hin : TxtsIn (w.alloc (.cells #[.pointer (some ⟨g, 0, none⟩)] 55)) za (stepOf l i).needs := fun h0 => by
    obtain ⟨_, ta, tc, htv, hcl⟩ := hnv
    simp only [Value.slice.injEq] at htv
    obtain ⟨rfl, -, rfl⟩ := htv
    obtain ⟨cb, co, rfl, hcS, hcl⟩ := hcl h0
    exact ⟨cb, co, rfl, Nat.lt_of_lt_of_le (h1.saga.low cb hcS) h1.size, hcl⟩
  have cc := implContN h1 (stepOf l i).needs za zc w.heap.size (by omega) hin (kb.cell 0) kb.lt hnd
  have hor := open_ready l s i
  have c0 := h1.blk.cell 0
  simp at c0
  obtain ⟨F, hF⟩ : ∃ F, (stepOf l i).needs.any (openB l s) = F := ⟨_, rfl⟩
  rw [hF] at cc hor
  rw [← hor]
  obtain ⟨m, hm⟩ : ∃ m, (stepOf l i).needs.length = m := ⟨_, rfl⟩
  rw [hm] at e1 cc
  have HB : Hid _ := hb
  clear h h1 hst hnv hin hnd hnl hor hF hm hb kb
  go_enter Tryz.func91, Tryz.ntmps91
  go_wp2_with (go_at_call 43; go_must (refine cc.mono ?_; rintro e w1 ⟨rfl, hb1⟩))
  go_ret
  exact ⟨rfl, good_below HB.out hb1⟩
end
end Go.Proofs.YtdheogonghcokaaGreatDoor
