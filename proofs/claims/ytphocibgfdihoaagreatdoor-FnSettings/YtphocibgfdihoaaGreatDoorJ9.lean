/-
  What Watch's helpers in impl answer: the longest of three, a path within one of a row, a map copied and laid over. What a Lookup answers; the contract of spec.Lookup. Numbers: the contracts of impl.valueOf and numberOf. Numbers: the contract of impl.numberOf. Spans read from their digits on: the same as by their units. The contracts of impl.unitOf and spanOf. What a text is by a demand: the contracts of impl's number and fit. No statement of the seat is proved here.
-/
import Derived.Test.YtphocibgfdihoaaGreatDoorJ8
namespace Go.Proofs.YtphocibgfdihoaaGreatDoor
open Go.ChangeShapes Go.WideShapes Go.ChangeAt Go.RowKit Go.Maps
set_option linter.unusedVariables false

set_option maxRecDepth 100000 in
theorem implMax3 (a b c : Int) (g : Nat) (w : World) (h0 : w.cell? ⟨g, 0, none⟩ = some (.int .i64 a)) (h1 : w.cell? ⟨g, 1, none⟩ = some (.int .i64 b)) (h2 : w.cell? ⟨g, 2, none⟩ = some (.int .i64 c)) : Calls Tryz.prog 53 #[.slice (some ⟨g, 0, none⟩) 3 3] w fun e w' => (∃ m : Int, e = .returned (.int .i64 m) ∧ decide (4096 < m) = (decide (4096 < a) || decide (4096 < b) || decide (4096 < c))) ∧ w' = w := by
  go_enter Tryz.func53, Tryz.ntmps53
  go_wp2
  refine wp_loop_rounds 3 ?_
  rw [rounds_succ]
  go_wp2
  rw [rounds_succ]
  go_wp2
  rw [rounds_succ]
  go_wp2
  go_ret
  refine ⟨⟨_, rfl, ?_⟩, rfl⟩
  rw [Bool.eq_iff_iff]
  simp only [decide_eq_true_eq, Bool.or_eq_true]
  omega
set_option maxRecDepth 100000 in
theorem implLong3 (a b c : Int) (g : Nat) (w : World) (h0 : w.cell? ⟨g, 0, none⟩ = some (.int .i64 a)) (h1 : w.cell? ⟨g, 1, none⟩ = some (.int .i64 b)) (h2 : w.cell? ⟨g, 2, none⟩ = some (.int .i64 c)) : Calls Tryz.prog 26 #[.slice (some ⟨g, 0, none⟩) 3 3] w fun e w' => e = .returned (.bool (decide (4096 < a) || decide (4096 < b) || decide (4096 < c))) ∧ w' = w := by
  have cm := implMax3 a b c g w h0 h1 h2
  go_enter Tryz.func26, Tryz.ntmps26
  go_wp2_with (go_at_call 53; go_must (refine cm.mono ?_; rintro e w1 ⟨⟨m, rfl, hm⟩, rfl⟩))
  go_ret
  exact ⟨rfl, rfl⟩
theorem three_new (w : World) (a b c : Int) (g : Nat) (hg : g = w.heap.size) : (w.alloc (.cells #[.int .i64 a, .int .i64 b, .int .i64 c] 3)).cell? ⟨g, 0, none⟩ = some (.int .i64 a) ∧ (w.alloc (.cells #[.int .i64 a, .int .i64 b, .int .i64 c] 3)).cell? ⟨g, 1, none⟩ = some (.int .i64 b) ∧ (w.alloc (.cells #[.int .i64 a, .int .i64 b, .int .i64 c] 3)).cell? ⟨g, 2, none⟩ = some (.int .i64 c) := by
  subst hg
  have h : Blk (w.alloc (.cells #[.int .i64 a, .int .i64 b, .int .i64 c] 3)) w.heap.size 3 #[.int .i64 a, .int .i64 b, .int .i64 c] := heap_alloc_last w _
  exact ⟨h.cell 0, h.cell 1, h.cell 2⟩
set_option maxRecDepth 100000 in
theorem implCloneT (s : ByteArray) (hz : s.size ≤ 1048576) (w : World) : Calls Tryz.prog 25 #[.string s] w fun e w' => e = .returned (.string s) ∧ Below w.heap.size w w' := by
  have c := Tryz.stringslite_Clone s w (by omega)
  go_enter Tryz.func25, Tryz.ntmps25
  go_wp2_with (go_at_call 52; go_must (refine c.mono ?_; rintro e w1 ⟨rfl, hb1⟩))
  go_ret
  exact ⟨rfl, hb1⟩
/-- q is one that p is within. -/
def inB (p q : ByteArray) : Bool := withinB p q
set_option maxRecDepth 100000 in
set_option maxHeartbeats 1000000 in
theorem implIndexW (p : ByteArray) (hp : p.size ≤ 1048576) (ss : List ByteArray) (a : Option Addr) (cap : Nat) (w : World) (hlen : ss.length ≤ 1000000) (hz : ∀ s ∈ ss, s.size ≤ 1048576) (hc : 0 < ss.length → ∃ g o, a = some ⟨g, o, none⟩ ∧ g < w.heap.size ∧ ∀ j (hj : j < ss.length), w.cell? ⟨g, o + j, none⟩ = some (.string ss[j])) :
    Calls Tryz.prog 68 #[.slice a ss.length cap, .func (.func 34) #[.agg #[.string p]] #[]] w fun e w' => (∃ r : Int, e = .returned (.int .i64 r) ∧ decide (0 ≤ r) = ss.any (inB p)) ∧ Below w.heap.size w w' := by
  have HC : Hid (0 < ss.length → ∃ g o, a = some ⟨g, o, none⟩ ∧ g < w.heap.size ∧ ∀ j (hj : j < ss.length), w.cell? ⟨g, o + j, none⟩ = some (.string ss[j])) := hc
  have HZ : Hid (∀ s ∈ ss, s.size ≤ 1048576) := hz
  have hlen' : (ss.length : Int) ≤ 1000000 := by omega
  clear hc hz
  go_enter Tryz.func68, Tryz.ntmps68
  go_wp2_with fail
  go_loopw [8] (fun i8 wr => ∃ (k : Nat), i8 = .int .i64 (k : Int) ∧ k ≤ ss.length ∧ (ss.take k).any (inB p) = false ∧ Below w.heap.size w wr) (fun i8 _ => ss.length - (intOf i8).toNat)
  case atStart => exact ⟨0, rfl, by omega, by simp, Below.refl _ _⟩
  case round =>
    obtain ⟨k, rfl, hk, hany, hb⟩ := hrel
    have HA : Hid ((ss.take k).any (inB p) = false) := hany
    clear hany
    by_cases hkn : k < ss.length
    · have hkn' : (k : Int) < (ss.length : Int) := by omega
      obtain ⟨g, o, rfl, hg, hcell⟩ := HC.out (by omega)
      have x1 := hcell k hkn
      have z1 := HZ.out ss[k] (List.getElem_mem hkn)
      obtain ⟨x, hx⟩ : ∃ x, ss[k] = x := ⟨_, rfl⟩
      have HX : Hid (ss[k] = x) := hx
      rw [hx] at x1 z1
      clear hx hcell
      have d1 := (hb.cell (p := ⟨g, o + k, none⟩) hg).trans x1
      have cn := implWithin p x hp z1 wr
      obtain ⟨B1, hB1⟩ : ∃ B1, inB p x = B1 := ⟨_, rfl⟩
      change Calls _ _ _ _ (fun e w' => e = .returned (.bool (inB p x)) ∧ _) at cn
      rw [hB1] at cn
      have HB1 : Hid (inB p x = B1) := hB1
      clear hB1
      cases B1
      · go_wp2_with (go_at_call 34; go_must (refine cn.mono ?_; rintro e w1 ⟨rfl, hb1⟩))
        exact ⟨⟨k + 1, rfl, by omega, any_takeW ss _ k hkn HA.out (by rw [HX.out]; exact HB1.out), good_below hb hb1⟩, by simp [intOf]; omega⟩
      · go_wp2_with (go_at_call 34; go_must (refine cn.mono ?_; rintro e w1 ⟨rfl, hb1⟩))
        go_ret
        refine ⟨⟨_, rfl, ?_⟩, good_below hb hb1⟩
        rw [List.any_eq_true.2 ⟨ss[k], List.getElem_mem hkn, by rw [HX.out]; exact HB1.out⟩]
        simp
    · have hkn' : ¬ ((k : Int) < (ss.length : Int)) := by omega
      have hA := HA.out
      rw [List.take_of_length_le (by omega)] at hA
      go_wp2_with fail
      go_ret
      refine ⟨⟨_, rfl, ?_⟩, hb⟩
      first
        | (rw [hA]; rfl)
        | omega
set_option maxRecDepth 100000 in
theorem implContainsW (p : ByteArray) (hp : p.size ≤ 1048576) (ss : List ByteArray) (a : Option Addr) (cap : Nat) (w : World) (hlen : ss.length ≤ 1000000) (hz : ∀ s ∈ ss, s.size ≤ 1048576) (hc : 0 < ss.length → ∃ g o, a = some ⟨g, o, none⟩ ∧ g < w.heap.size ∧ ∀ j (hj : j < ss.length), w.cell? ⟨g, o + j, none⟩ = some (.string ss[j])) :
    Calls Tryz.prog 33 #[.slice a ss.length cap, .func (.func 34) #[.agg #[.string p]] #[]] w fun e w' => e = .returned (.bool (seenB ss p)) ∧ Below w.heap.size w w' := by
  have c := implIndexW p hp ss a cap w hlen hz hc
  clear hc hz
  go_enter Tryz.func33, Tryz.ntmps33
  go_wp2_with (go_at_call 68; go_must (refine c.mono ?_; rintro e w1 ⟨⟨r, rfl, hr⟩, hb1⟩))
  go_ret
  refine ⟨congrArg (fun b => Ending.returned (Value.bool b)) ?_, hb1⟩
  rfl
/-- What a path's entry in a map of settings reads as. -/
def setOf (l : List Setting) (p : ByteArray) : Setting := match lookS l p with
  | some s => s
  | none => ⟨⟨#[]⟩, ⟨#[]⟩, ⟨#[]⟩⟩
theorem setOf_text (l : List Setting) (p : ByteArray) : (setOf l p).text = textOf l p := by
  unfold setOf textOf
  cases lookS l p <;> rfl
theorem MapS.look {w : World} {b n : Nat} {out : List Setting} (h : MapS w b n out) {p : ByteArray} (hp : p.size ≤ 1048576) :
    (Instr.lookup 67 (.map (some b)) (.string p) false).run Tryz.prog w = .ok (.agg #[.string (setOf out p).path, .string (textOf out p), .string (setOf out p).from']) w := by
  obtain ⟨D, f, hown, hrep, hof⟩ := h
  have hkey : keyOf Tryz.prog 9 (.string p) = some (textKey p) := key9 (by simp [maxLen]; omega)
  obtain ⟨v, ps, hrun, hRv⟩ := hown.lookup law9 Tryz.underlying67 (Tryz.zeroValue76 w) (heldS_mk ⟨⟨#[]⟩, ⟨#[]⟩, ⟨#[]⟩⟩) hkey
  obtain ⟨s, rfl, hs⟩ := heldS_inv hRv
  simp only [Prod.mk.injEq] at hs
  have hsl := lookS_is hof p
  have : setOf out p = s := by
    unfold setOf
    rw [hsl]
    cases hf : f p with
    | none =>
      rw [atKey_of_not_has ((hrep p).2 hf)] at hs
      exact sVal_inj (DataW.held.inj hs.1)
    | some t =>
      rw [(hrep p).1 t hf] at hs
      exact sVal_inj (DataW.held.inj hs.1)
  rw [← setOf_text, this]
  exact hrun
theorem implCloneM {w : World} {b n : Nat} {out : List Setting} (h : MapS w b n out) : Calls Tryz.prog 30 #[.map (some b)] w fun e w' => e = .returned (.map (some w.heap.size)) ∧ MapS w' w.heap.size n out ∧ Below w.heap.size w w' := by
  obtain ⟨D, f, hown, hr⟩ := h
  have := AnyW.maps_Clone_owns Tryz.cloneM 9 heldS b n D w hown
  change Calls Tryz.prog 30 _ _ _ at this
  exact this.mono fun e w' ⟨h1, h2, _, h4⟩ => ⟨h1, ⟨D, f, h2, hr⟩, h4⟩
/-- What has been laid over so far. -/
def overS (Ds : DataW Value) (fd fs : ByteArray → Option Setting) (left : Lit → Bool) (p : ByteArray) : Option Setting := if has Ds (textKey p) && !left (textKey p) then fs p else fd p
theorem overS_start {D Ds : DataW Value} {fd fs : ByteArray → Option Setting} (h : Rep D fd) : Rep D (overS Ds fd fs (has Ds)) :=
  h.congr (fun p => by unfold overS; cases has Ds (textKey p) <;> rfl)
theorem overS_step {D Ds : DataW Value} {fd fs : ByteArray → Option Setting} {left : Lit → Bool} {x : ByteArray} {c : Setting} (h : Rep D (overS Ds fd fs left)) (hm : IsMap D) (hs : Rep Ds fs) (hat : ∀ z, Ds.atKey (textKey x) z = .held (sVal c)) :
    Rep (D.put (textKey x) (.held (sVal c))) (overS Ds fd fs (fun z => left z && !z.sameKey (textKey x))) := by
  refine (h.put hm x c).congr (fun p => ?_)
  by_cases e : p = x
  · subst e
    simp only [if_true]
    unfold overS
    rw [has_true_of_atKey hat, hs.some hat]
    simp [same_text]
  · simp only [if_neg e]
    unfold overS
    simp [same_text, e]
theorem overS_end {D Ds : DataW Value} {a b : List Setting} {fd fs : ByteArray → Option Setting} {left : Lit → Bool} (h : Rep D (overS Ds fd fs left)) (hl : ∀ k, left k = false) (hs : Rep Ds fs) (ha : IsOf fd a) (hb : IsOf fs b) : Rep D (eitherS a b) := by
  refine h.congr (fun p => ?_)
  unfold overS eitherS
  rw [hl, hs.has, lookS_is ha, lookS_is hb]
  cases fs p <;> rfl
set_option maxRecDepth 100000 in
set_option maxHeartbeats 4000000 in
theorem implCopy {w : World} {bd bs nd ns : Nat} {a b : List Setting} (h : MapS w bd nd a) (h2 : MapS w bs ns b) (hne : bd ≠ bs) (ha : SRises a) (hb : SRises b) (hn : nd + ns ≤ 100000) (hps : ∀ o ∈ b, o.path.size ≤ 1048576) :
    Calls Tryz.prog 31 #[.map (some bd), .map (some bs)] w fun e w' => e = .returned (.tuple #[]) ∧ MapS w' bd (nd + ns) (unionS a b) ∧ w.grownBy w' (some bd) := by
  have hltd := h.lt
  have hlts := h2.lt
  obtain ⟨D0, fd, hown, hrep, hof⟩ := h
  obtain ⟨Ds, fs, howns, hreps, hofs⟩ := h2
  have hsize := howns.size_le
  have HST : Hid (Rep D0 (overS Ds fd fs (has Ds))) := overS_start hrep
  have HOFD : Hid (IsOf fd a) := hof
  have HOFS : Hid (IsOf fs b) := hofs
  have HRS : Hid (Rep Ds fs) := hreps
  have HUN : Hid (IsOf (eitherS a b) (unionS a b)) := union_of ha hb
  have HOD : Hid (w.ownsMap Tryz.prog 9 heldS bd nd D0) := hown
  clear hrep hof hofs hreps ha hb hown
  go_enter Tryz.func31, Tryz.ntmps31
  go_wp2_with (first
    | (at_range; refine wpList_range_own _ rfl _ 67 rfl 9 76 law9 Tryz.underlying67 _ bs ns _ rfl howns ?_; intro w1 hrg0 hg0 hs0)
    | go_in)
  go_frame
  go_loopw [4] (fun _ wr => ∃ (left : Lit → Bool) (cnt m : Nat) (D : DataW Value), wr.ranges Tryz.prog 9 heldS bs w.heap.size ns Ds left cnt ∧ wr.ownsMap Tryz.prog 9 heldS bd (nd + m) D ∧ m + cnt ≤ ns ∧ Rep D (overS Ds fd fs left) ∧ w.grownBy wr (some bd)) (fun _ wr => wr.rangeLeft bs w.heap.size)
  case atStart => exact ⟨_, _, 0, _, hrg0, HOD.out.kept hg0 (by simp), by omega, HST.out, hg0.but _⟩
  case round =>
    obtain ⟨left, cnt, m, D, hrg, hod, hmc, hrp, hgw⟩ := hrel
    have HRP : Hid (Rep D (overS Ds fd fs left)) := hrp
    have HGW : Hid (w.grownBy wr (some bd)) := hgw
    have HOW : Hid (wr.ownsMap Tryz.prog 9 heldS bd (nd + m) D) := hod
    clear hrp hgw hg0 hrg0 hod
    go_wp2_with (first
      | (at_next; refine wpList_nextS _ rfl _ rfl bs w.heap.size ns _ _ _ rfl hrg ?_ ?_)
      | go_in)
    · intro _ hl0
      go_wp2_with fail
      go_end0
      exact ⟨rfl, ⟨_, _, HOW.out.mono (by omega), overS_end HRP.out hl0 HRS.out HOFD.out HOFS.out, HUN.out⟩, HGW.out⟩
    · intro x cp ct cf w2 cnt1 hlx hat hkey hrg1 hlt1 hg1 hs1 hen
      have hod2 := (HOW.out.kept hg1 (by simp; omega)).alloc (.cells #[.string cp, .string ct, .string cf] 76)
      have HRP2 := overS_step HRP.out HOW.out.isMap HRS.out hat
      have HG1 : Hid (w.grownBy w2 (some bd)) := HGW.out.andThen hg1 (fun j hj => by cases hj; exact .inl (Nat.le_refl _))
      have HRG1 : Hid (w2.ranges Tryz.prog 9 heldS bs w.heap.size ns Ds (fun z => left z && !z.sameKey (textKey x)) cnt1) := hrg1
      clear hat hrg1 hs1
      go_wp2_with (first
        | (at_mapUpdate; go_must (refine wpList_mapUpdate_own _ rfl _ _ _ 67 rfl 9 76 law9 Tryz.underlying67 _ bd (nd + m) _ rfl hod2 (by simp [maxLen]; omega) _ _ (textKey x) rfl rfl hkey (.held (sVal ⟨cp, ct, cf⟩)) [] (heldS_mk ⟨cp, ct, cf⟩) ?_; intro w3 hown3 hg3; go_frame)))
      have hrg3 := (HRG1.out.alloc (.cells #[.string cp, .string ct, .string cf] 76)).kept hg3 (by simp; omega) (by simp; omega)
      go_roundw
      case rel =>
        refine ⟨_, cnt1, m + 1, _, hrg3, hown3, by omega, HRP2, ?_⟩
        exact (HG1.out.andThen (World.grownBy_alloc w2 _ none) (fun j hj => by cases hj)).andThen hg3 (fun j hj => .inr hj)
      case measure => rw [hrg3.left_eq, hrg.left_eq]; exact hlt1
set_option maxRecDepth 100000 in
set_option maxHeartbeats 1000000 in
theorem implIndexPO (ss : List ByteArray) (a : Option Addr) (cap : Nat) (w : World) (hlen : ss.length ≤ 1000000) (hz : ∀ s ∈ ss, s.size ≤ 1048576) (hc : 0 < ss.length → ∃ g o, a = some ⟨g, o, none⟩ ∧ g < w.heap.size ∧ ∀ j (hj : j < ss.length), w.cell? ⟨g, o + j, none⟩ = some (.string ss[j])) (hT : Lib.Utf8Tabs 1 2 w) :
    Calls Tryz.prog 68 #[.slice a ss.length cap, .func (.func 57) #[] #[]] w fun e w' => (∃ r : Int, e = .returned (.int .i64 r) ∧ decide (0 ≤ r) = ss.any noPath) ∧ Below w.heap.size w w' := by
  have HC : Hid (0 < ss.length → ∃ g o, a = some ⟨g, o, none⟩ ∧ g < w.heap.size ∧ ∀ j (hj : j < ss.length), w.cell? ⟨g, o + j, none⟩ = some (.string ss[j])) := hc
  have HZ : Hid (∀ s ∈ ss, s.size ≤ 1048576) := hz
  have HT : Hid (Lib.Utf8Tabs 1 2 w) := hT
  have hlen' : (ss.length : Int) ≤ 1000000 := by omega
  clear hc hT hz
  go_enter Tryz.func68, Tryz.ntmps68
  go_wp2_with fail
  go_loopw [8] (fun i8 wr => ∃ (k : Nat), i8 = .int .i64 (k : Int) ∧ k ≤ ss.length ∧ (ss.take k).any noPath = false ∧ Below w.heap.size w wr) (fun i8 _ => ss.length - (intOf i8).toNat)
  case atStart => exact ⟨0, rfl, by omega, by simp, Below.refl _ _⟩
  case round =>
    obtain ⟨k, rfl, hk, hany, hb⟩ := hrel
    have HA : Hid ((ss.take k).any noPath = false) := hany
    clear hany
    by_cases hkn : k < ss.length
    · have hkn' : (k : Int) < (ss.length : Int) := by omega
      obtain ⟨g, o, rfl, hg, hcell⟩ := HC.out (by omega)
      have x1 := hcell k hkn
      have z1 := HZ.out ss[k] (List.getElem_mem hkn)
      obtain ⟨x, hx⟩ : ∃ x, ss[k] = x := ⟨_, rfl⟩
      have HX : Hid (ss[k] = x) := hx
      rw [hx] at x1 z1
      clear hx hcell
      have d1 := (hb.cell (p := ⟨g, o + k, none⟩) hg).trans x1
      have cn := implNoPath x z1 wr (Utf8Tabs_below HT.out hb)
      obtain ⟨B1, hB1⟩ : ∃ B1, noPath x = B1 := ⟨_, rfl⟩
      rw [hB1] at cn
      have HB1 : Hid (noPath x = B1) := hB1
      clear hB1
      cases B1
      · go_wp2_with (go_at_call 57; go_must (refine cn.mono ?_; rintro e w1 ⟨rfl, hb1⟩))
        exact ⟨⟨k + 1, rfl, by omega, any_takeW ss _ k hkn HA.out (by rw [HX.out]; exact HB1.out), good_below hb hb1⟩, by simp [intOf]; omega⟩
      · go_wp2_with (go_at_call 57; go_must (refine cn.mono ?_; rintro e w1 ⟨rfl, hb1⟩))
        go_ret
        refine ⟨⟨_, rfl, ?_⟩, good_below hb hb1⟩
        rw [List.any_eq_true.2 ⟨ss[k], List.getElem_mem hkn, by rw [HX.out]; exact HB1.out⟩]
        simp
    · have hkn' : ¬ ((k : Int) < (ss.length : Int)) := by omega
      have hA := HA.out
      rw [List.take_of_length_le (by omega)] at hA
      go_wp2_with fail
      go_ret
      refine ⟨⟨_, rfl, ?_⟩, hb⟩
      first
        | (rw [hA]; rfl)
        | omega
set_option maxRecDepth 100000 in
theorem implContainsPO (ss : List ByteArray) (a : Option Addr) (cap : Nat) (w : World) (hlen : ss.length ≤ 1000000) (hz : ∀ s ∈ ss, s.size ≤ 1048576) (hc : 0 < ss.length → ∃ g o, a = some ⟨g, o, none⟩ ∧ g < w.heap.size ∧ ∀ j (hj : j < ss.length), w.cell? ⟨g, o + j, none⟩ = some (.string ss[j])) (hT : Lib.Utf8Tabs 1 2 w) :
    Calls Tryz.prog 33 #[.slice a ss.length cap, .func (.func 57) #[] #[]] w fun e w' => e = .returned (.bool (ss.any noPath)) ∧ Below w.heap.size w w' := by
  have c := implIndexPO ss a cap w hlen hz hc hT
  clear hc hT hz
  go_enter Tryz.func33, Tryz.ntmps33
  go_wp2_with (go_at_call 68; go_must (refine c.mono ?_; rintro e w1 ⟨⟨r, rfl, hr⟩, hb1⟩))
  go_ret
  refine ⟨congrArg (fun b => Ending.returned (Value.bool b)) ?_, hb1⟩
  rw [← hr]

set_option maxRecDepth 100000 in
theorem implPathsO (ss : List ByteArray) (a : Option Addr) (cap : Nat) (w : World) (hlen : ss.length ≤ 1000000) (hz : ∀ s ∈ ss, s.size ≤ 1048576) (hc : 0 < ss.length → ∃ g o, a = some ⟨g, o, none⟩ ∧ g < w.heap.size ∧ ∀ j (hj : j < ss.length), w.cell? ⟨g, o + j, none⟩ = some (.string ss[j])) (hT : Lib.Utf8Tabs 1 2 w) :
    Calls Tryz.prog 28 #[.slice a ss.length cap] w fun e w' => e = .returned (.bool (ss.all (pathB nameOK))) ∧ Below w.heap.size w w' := by
  have c := implContainsPO ss a cap w hlen hz hc hT
  have hn : ss.all (pathB nameOK) = !(ss.any noPath) := by rw [List.all_eq_not_any_not]; rfl
  rw [hn]
  obtain ⟨b, hb⟩ : ∃ b, ss.any noPath = b := ⟨_, rfl⟩
  rw [hb] at c ⊢
  clear hb hn hT hc hz
  go_enter Tryz.func28, Tryz.ntmps28
  go_wp2_with (go_at_call 33; go_must (refine c.mono ?_; rintro e w1 ⟨rfl, hb1⟩))
  go_ret
  exact ⟨by simp, hb1⟩

/-- Settings whose texts are of some length. -/
def Fair (out : List Setting) : Prop := ∀ o ∈ out, o.path.size ≤ 1048576 ∧ o.text.size ≤ 1048576 ∧ o.from'.size ≤ 1048576
theorem laySteps_fair (nm : ByteArray) (hn : nm.size ≤ 1048576) : ∀ (es : List Entry) (out : List Setting), (∀ e ∈ es, EntrysOK 1048576 e) → Fair out → Fair (es.foldl (layStep nm) out)
  | [], out, _, h => h
  | e :: es, out, he, h => by
    rw [List.foldl_cons]
    refine laySteps_fair nm hn es _ (fun y hy => he y (List.mem_cons_of_mem _ hy)) ?_
    have h1 := he e (List.mem_cons_self ..)
    unfold EntrysOK at h1
    exact layStep_mem (P := fun o => o.path.size ≤ 1048576 ∧ o.text.size ≤ 1048576 ∧ o.from'.size ≤ 1048576) h ⟨by have := h1.1; simp [newS]; omega, by have := h1.2; simp [newS]; omega, hn⟩
theorem laidFold_fair : ∀ (l : List Layer) (out : List Setting), (∀ x ∈ l, LayersOK 1048576 x) → Fair out → Fair (l.foldl layLayer out)
  | [], out, _, h => h
  | x :: l, out, hx, h => by
    rw [List.foldl_cons]
    refine laidFold_fair l _ (fun y hy => hx y (List.mem_cons_of_mem _ hy)) ?_
    have h1 := hx x (List.mem_cons_self ..)
    unfold LayersOK at h1
    exact laySteps_fair x.name (by have := h1.1; omega) x.entries out h1.2.2 h
theorem laid_fair {l : List Layer} (hok : ∀ x ∈ l, LayersOK 1048576 x) : Fair (laidF (overP l)) := laidFold_fair (overP l) [] (fun x hx => hok x (overP_mem hx)) (fun o ho => by cases ho)
theorem textOf_fair {l : List Setting} (h : Fair l) (p : ByteArray) : (textOf l p).size ≤ 1048576 := by
  unfold textOf
  cases hl : lookS l p with
  | none => exact Nat.zero_le _
  | some s => exact (h s (look_path hl).2).2.1
/-- What impl's mergedOf makes of right layers. -/
theorem implMergedR {S : Nat → Prop} {l : List Layer} {v : Value} {w : World} (hS : ∀ b, S b → b < w.heap.size) (h : LayersAt S w v l) (hB : layersB nameOK l = true) :
    Calls Tryz.prog 29 #[v] w fun e w' => (∃ b n, e = .returned (.map (some b)) ∧ MapS w' b n (laidF (overP l)) ∧ w.heap.size ≤ b ∧ n ≤ 2000) ∧ Below w.heap.size w w' := by
  obtain ⟨f1, f2, f3⟩ := layers_fine hB
  obtain ⟨lv, hlv, hat, hen⟩ := layers_lv h
  have hone : LayVsOne lv := fun y hy => by
    obtain ⟨ya, yc, hq⟩ := (hen y hy).shape
    rw [hq]; rfl
  have hsl : Slices lv := fun y hy => by
    obtain ⟨ya, yc, hq⟩ := (hen y hy).shape
    exact ⟨ya, _, yc, hq⟩
  have hsm : ∀ y ∈ lv, LaySm S w y := fun y hy => by
    have := f3 y.x (by rw [← hlv]; exact List.mem_map.2 ⟨y, hy, rfl⟩)
    exact ⟨hen y hy, this.1, this.2⟩
  have hnm : Named lv := by
    rw [← hlv, List.map_map, List.pairwise_map] at f2
    exact f2
  have hl20 : lv.length ≤ 20 := by rw [← hlv, List.length_map] at f1; exact f1
  have cm := implMerged hS hat hone hsl hsm hnm hl20
  have hpl := over_plain lv
  rw [hlv] at hpl
  rw [hpl] at cm
  exact cm
end Go.Proofs.YtphocibgfdihoaaGreatDoor

namespace Go.Proofs.YtphocibgfdihoaaGreatDoor
open Go.ChangeShapes Go.WideShapes Go.ChangeAt Go.RowKit
set_option linter.unusedVariables false
set_option linter.unusedSimpArgs false

abbrev LookR := ByteArray × Int × ByteArray × Int
def noneA (c : Int) : LookR := (⟨#[]⟩, 0, ⟨#[]⟩, c)
/-- What a rule's setting is. -/
def ruleA (r : Rule) : Option Setting → LookR
  | some s => if (fitP r s.text).2 == 0 then (s.text, (fitP r s.text).1, s.from', 0) else noneA (fitP r s.text).2
  | none => if r.default'.toList == [] then noneA 5 else (r.default', (fitP r r.default').1, ⟨#[]⟩, 0)
def pathA (l : List Rule) (o : Option Setting) : Option Nat → LookR
  | none => noneA 7
  | some k => match l[k]? with
    | some r => ruleA r o
    | none => noneA 7
def longL (l0 : List Rule) (l1 : List Layer) (p : ByteArray) : Bool := decide (4096 < l0.length) || decide (4096 < l1.length) || decide (65536 < p.size)
noncomputable def lookA (l0 : List Rule) (l1 : List Layer) (p : ByteArray) : LookR :=
  if longL l0 l1 p then noneA 2 else if rulesB l0 && layersB nameOK l1 then pathA l0 (lookS (laidF (overP l1)) p) (ruleO l0 p) else noneA 1
noncomputable def look0 (l0 : List Rule) (l1 : List Layer) (p : ByteArray) : ByteArray := (lookA l0 l1 p).1
noncomputable def look1 (l0 : List Rule) (l1 : List Layer) (p : ByteArray) : Int := (lookA l0 l1 p).2.1
noncomputable def look2 (l0 : List Rule) (l1 : List Layer) (p : ByteArray) : ByteArray := (lookA l0 l1 p).2.2.1
noncomputable def look3 (l0 : List Rule) (l1 : List Layer) (p : ByteArray) : Int := (lookA l0 l1 p).2.2.2
theorem lookS_hit {l : List Setting} {p : ByteArray} {k : Nat} (hk : k < l.length) (h : ∀ i (hi : i < l.length), i < k → (l[i].path.toList == p.toList) = false) (h1 : (l[k].path.toList == p.toList) = true) : lookS l p = some l[k] := by
  unfold lookS
  rw [List.find?_eq_some_iff_getElem]
  exact ⟨h1, k, hk, rfl, fun j hj => by rw [h j (by omega) hj]; rfl⟩
theorem lookS_miss {l : List Setting} {p : ByteArray} (h : ∀ i (hi : i < l.length), (l[i].path.toList == p.toList) = false) : lookS l p = none := by
  unfold lookS
  rw [List.find?_eq_none]
  intro s hs
  obtain ⟨i, hi, rfl⟩ := List.getElem_of_mem hs
  rw [h i hi]; simp
theorem rule_lt {l : List Rule} {p : ByteArray} {k : Nat} (h : ruleO l p = some k) : k < l.length := by
  unfold ruleO at h
  rw [List.findIdx?_eq_some_iff_getElem] at h
  exact h.1
theorem results_tmp4 {fn : Func} {t u v x : Tmp} (h : fn.results = #[.tmp t, .tmp u, .tmp v, .tmp x]) (tmps : Array Value) (P : Program) (w : World) :
    (results fn tmps).run P w = .ok (.tuple #[tmps.getD t undef, tmps.getD u undef, tmps.getD v undef, tmps.getD x undef]) w := by
  simp [results, h]
end Go.Proofs.YtphocibgfdihoaaGreatDoor

namespace Go.Proofs.YtphocibgfdihoaaGreatDoor
open Go.ChangeShapes Go.WideShapes Go.ChangeAt Go.RowKit
set_option linter.unusedVariables false
set_option linter.unusedSimpArgs false

theorem iter_fresh (w : World) (t : ByteArray) (q : Nat) : (w.iter t q).heap[w.heap.size]? = some (.stringIter t q) := heap_alloc_last w _
theorem iterPos_of {w : World} {k : Nat} {s : ByteArray} {p : Nat} (hk : w.heap[k]? = some (.stringIter s p)) : w.iterPos k = p := by
  simp [World.iterPos, hk]
theorem decodeN_ascii (n b0 b1 b2 b3 : Nat) (h0 : b0 < 256) (h1 : b1 < 256) (h2 : b2 < 256) (h3 : b3 < 256) : (b0 < 128 ∧ Lib.decodeN n b0 b1 b2 b3 = (b0, 1)) ∨ (128 ≤ b0 ∧ 128 ≤ (Lib.decodeN n b0 b1 b2 b3).1) := by
  by_cases h : b0 < 128
  · exact .inl ⟨h, by unfold Lib.decodeN; rw [if_pos h]⟩
  · refine .inr ⟨by omega, ?_⟩
    unfold Lib.decodeN
    repeat' split
    all_goals dsimp only
    all_goals omega
theorem decode_ascii' (s : ByteArray) (i : Nat) : (byt s i < 128 ∧ Utf8.decode s i = (byt s i, 1)) ∨ (128 ≤ byt s i ∧ 128 ≤ (Utf8.decode s i).1) := by
  rw [decode_byt]; exact decodeN_ascii _ _ _ _ _ (byt_lt _ _) (byt_lt _ _) (byt_lt _ _) (byt_lt _ _)
theorem decode_low {s : ByteArray} {p : Nat} (h : byt s p < 128) : Utf8.decode s p = (byt s p, 1) := by
  rcases decode_ascii' s p with ⟨_, h2⟩ | ⟨h1, _⟩
  · exact h2
  · omega
set_option maxRecDepth 100000 in
set_option maxHeartbeats 1000000 in
theorem implValue (d : ByteArray) (h18 : d.size ≤ 18) (hd : ∀ i, i < d.size → 48 ≤ byt d i ∧ byt d i ≤ 57) (w : World) :
    Calls Tryz.prog 134 #[.string d] w fun e w' => e = .returned (.int .i64 (numOf d.data.toList : Int)) ∧ Below w.heap.size w w' := by
  have HA : Hid (numOf (d.data.toList.take d.size) = numOf d.data.toList) := by show _ = _; rw [List.take_of_length_le (by simp)]
  have HD : Hid (∀ i, i < d.size → 48 ≤ byt d i ∧ byt d i ≤ 57) := hd
  obtain ⟨N, hN⟩ : ∃ N, numOf d.data.toList = N := ⟨_, rfl⟩
  have HN : Hid (numOf d.data.toList = N) := hN
  rw [hN]
  clear hN hd
  go_enter Tryz.func134, Tryz.ntmps134
  go_wp2_with fail
  go_loopw [3] (fun x wr => ∃ k : Nat, k ≤ d.size ∧ x = .int .i64 ((numOf (d.data.toList.take k) : Nat) : Int) ∧ wr.heap[w.heap.size]? = some (.stringIter d k) ∧ Below w.heap.size w wr) (fun _ wr => d.size - wr.iterPos w.heap.size)
  case atStart => exact ⟨0, by omega, rfl, iter_fresh w d 0, (Below.refl _ w).alloc (Nat.le_refl _) _⟩
  case round =>
    obtain ⟨k, hk, rfl, hi, hB⟩ := hrel
    have hip := iterPos_of hi
    by_cases hkn : k < d.size
    · have hnx : ∀ ty, (Instr.next (.pointer (some ⟨w.heap.size, 0, none⟩)) true ty).run Tryz.prog wr = _ := fun ty => Lib.run_next_any_at wr w.heap.size d k ty hi hkn
      have hdk := HD.out k hkn
      rw [decode_low (by omega)] at hnx
      have hlt := numOf_lt d k (fun i hi => HD.out i (by omega)) hk
      have hsu := numOf_succ d k hkn
      have hpw : 10 ^ k ≤ 10 ^ 17 := Nat.pow_le_pow_right (by omega) (by omega)
      obtain ⟨c, hc⟩ : ∃ c, byt d k = c := ⟨_, rfl⟩
      obtain ⟨n, hn⟩ : ∃ n, numOf (d.data.toList.take k) = n := ⟨_, rfl⟩
      obtain ⟨m, hm⟩ : ∃ m, numOf (d.data.toList.take (k + 1)) = m := ⟨_, rfl⟩
      have HM : Hid (numOf (d.data.toList.take (k + 1)) = m) := hm
      rw [hc] at hnx hdk hsu
      rw [hn] at hlt hsu ⊢
      rw [hm] at hsu
      have hn17 : n < 100000000000000000 := by omega
      obtain ⟨wt, hwt⟩ : ∃ wt, wr.iterAt w.heap.size d (k + 1) = wt := ⟨_, rfl⟩
      have hiT : wt.heap[w.heap.size]? = some (.stringIter d (k + 1)) := by rw [← hwt]; exact Lib.iterAt_heap wr _ _ _ _ hi
      have hBT : Below w.heap.size w wt := by rw [← hwt]; exact Lib.below_iterAt hB (Nat.le_refl _) _ _
      simp only at hnx
      rw [hwt] at hnx
      clear hm hn hc hlt hpw hwt hi hB
      go_wp2
      go_roundw
      case rel => exact ⟨k + 1, by omega, by rw [HM.out, hsu]; congr 1; omega, hiT, hBT⟩
      case measure => rw [hip, iterPos_of hiT]; omega
    · have hnx : ∀ ty, (Instr.next (.pointer (some ⟨w.heap.size, 0, none⟩)) true ty).run Tryz.prog wr = _ := fun ty => Lib.run_next_end_at wr w.heap.size d k ty hi hkn
      have hNk : numOf (d.data.toList.take k) = N := by rw [show k = d.size by omega, HA.out, HN.out]
      rw [hNk]
      clear hi hNk
      go_wp2
      go_ret
      exact ⟨rfl, hB⟩
theorem digEnd_yes {d : ByteArray} (h : ∀ i, i < d.size → 48 ≤ byt d i ∧ byt d i ≤ 57) : ∀ n pos, pos + n = d.size → endOf isDig d pos = d.size
  | 0, pos, he => endOf_out (by omega)
  | n + 1, pos, he => by
    have hp : pos < d.size := by omega
    have hd := h pos hp
    have hl := decode_low (s := d) (p := pos) (by omega)
    rw [endOf_on hp (by rw [hl]; unfold isDig; simp; omega), hl]
    exact digEnd_yes h n (pos + 1) (by omega)
theorem digEnd_no {d : ByteArray} {k : Nat} (hk : k < d.size) (hn : ¬ (48 ≤ byt d k ∧ byt d k ≤ 57)) (h : ∀ i, i < k → 48 ≤ byt d i ∧ byt d i ≤ 57) : ∀ n pos, pos + n = k → endOf isDig d pos = k
  | 0, pos, he => by
    obtain rfl : pos = k := by omega
    refine endOf_stop hk ?_
    rcases decode_ascii' d pos with ⟨_, h2⟩ | ⟨h1, h2⟩
    · rw [h2]; unfold isDig; simp; omega
    · unfold isDig; simp; omega
  | n + 1, pos, he => by
    have hd := h pos (by omega)
    have hl := decode_low (s := d) (p := pos) (by omega)
    rw [endOf_on (by omega) (by rw [hl]; unfold isDig; simp; omega), hl]
    exact digEnd_no hk hn h n (pos + 1) (by omega)
/-- The first place that is no digit. -/
theorem first_no {d : ByteArray} : ∀ m, m ≤ d.size → (∀ i, i < m → 48 ≤ byt d i ∧ byt d i ≤ 57) ∨ ∃ k, k < m ∧ ¬ (48 ≤ byt d k ∧ byt d k ≤ 57) ∧ ∀ i, i < k → 48 ≤ byt d i ∧ byt d i ≤ 57
  | 0, _ => .inl (fun i hi => by omega)
  | m + 1, hm => by
    rcases first_no (d := d) m (by omega) with h | ⟨k, h1, h2, h3⟩
    · by_cases e : 48 ≤ byt d m ∧ byt d m ≤ 57
      · refine .inl (fun i hi => ?_)
        by_cases ei : i = m
        · subst ei; exact e
        · exact h i (by omega)
      · exact .inr ⟨m, by omega, e, h⟩
    · exact .inr ⟨k, by omega, h2, h3⟩
theorem digs_end (d : ByteArray) : (digsB d = true ∧ endOf isDig d 0 = d.size ∧ ∀ i, i < d.size → 48 ≤ byt d i ∧ byt d i ≤ 57) ∨ (digsB d = false ∧ endOf isDig d 0 < d.size) := by
  rcases first_no (d := d) d.size (Nat.le_refl _) with h | ⟨k, h1, h2, h3⟩
  · exact .inl ⟨digs_yes h, digEnd_yes h d.size 0 (by omega), h⟩
  · exact .inr ⟨digs_no h1 h2, by rw [digEnd_no h1 h2 h3 k 0 (by omega)]; exact h1⟩
end Go.Proofs.YtphocibgfdihoaaGreatDoor

namespace Go.Proofs.YtphocibgfdihoaaGreatDoor
open Go.ChangeShapes Go.WideShapes Go.ChangeAt Go.RowKit
set_option linter.unusedVariables false
set_option linter.unusedSimpArgs false

theorem list_byt (t : ByteArray) (c : UInt8) : (t.toList == [c]) = (decide (t.size = 1) && decide (byt t 0 = c.toNat)) := by
  rw [toList_data, Bool.eq_iff_iff]
  simp only [beq_iff_eq, Bool.and_eq_true, decide_eq_true_eq]
  constructor
  · intro h
    have h1 : t.data.toList.length = 1 := by rw [h]; rfl
    have hs : t.size = 1 := by simpa using h1
    refine ⟨hs, ?_⟩
    have hb := byt_eq t 0 (by omega)
    rw [← hb]
    have : t.data.toList[0]'(by rw [h1]; omega) = c := by simp [h]
    rw [← this]; rfl
  · rintro ⟨hs, hb⟩
    have h1 : t.data.toList.length = 1 := by simpa using hs
    have hb0 := byt_eq t 0 (by omega)
    rw [hb] at hb0
    have e : t.data.toList[0]'(by rw [h1]; omega) = c := UInt8.toNat_inj.1 (by rw [← hb0]; rfl)
    match hl : t.data.toList, h1 with
    | [x], _ =>
      have : x = c := by simpa [hl] using e
      rw [this]
theorem empty_byt (t : ByteArray) : (t.toList == []) = decide (t.size = 0) := by
  rw [toList_data, Bool.eq_iff_iff]
  simp only [beq_iff_eq, decide_eq_true_eq]
  constructor
  · intro h
    have : t.data.toList.length = 0 := by rw [h]; rfl
    simpa using this
  · intro h
    have : t.data.toList.length = 0 := by simpa using h
    exact List.length_eq_zero_iff.1 this
theorem pre_neg (t : ByteArray) : preB t ⟨#[45]⟩ = negB t := by
  unfold preB negB
  have hl : (⟨#[45]⟩ : ByteArray).toList = [45] := by rw [toList_data]
  rw [hl]
  change (decide (1 ≤ t.size) && ((t.extract 0 1).toList == [45])) = _
  rw [list_byt]
  by_cases h : 0 < t.size
  · have hsz : (t.extract 0 1).size = 1 := by rw [ByteArray.size_extract]; omega
    have hb : byt (t.extract 0 1) 0 = byt t 0 := by
      rw [← byt_eq _ 0 (by omega), ← byt_eq _ 0 h]
      congr 1
      exact ByteArray.getElem_extract ..
    rw [decide_eq_true (show 1 ≤ t.size by omega), decide_eq_true h, decide_eq_true hsz, hb]
    rfl
  · rw [decide_eq_false (show ¬ (1 ≤ t.size) by omega), decide_eq_false h]
    rfl
set_option maxRecDepth 100000 in
set_option maxHeartbeats 2000000 in
theorem implNumber (t : ByteArray) (ht : t.size ≤ 65536) (w : World) :
    Calls Tryz.prog 97 #[.string t] w fun e w' => e = .returned (.tuple #[.int .i64 (numV t), .bool (numB t)]) ∧ Below w.heap.size w w' := by
  have cc := fun w => Tryz.strings_CutPrefix t ⟨#[45]⟩ w
  rw [← Lib.hasPrefix_raw] at cc
  have hpn := pre_neg t
  have hpb : preB t ⟨#[45]⟩ = (decide ((⟨#[45]⟩ : ByteArray).size ≤ t.size) && ((t.extract 0 (⟨#[45]⟩ : ByteArray).size).toList == (⟨#[45]⟩ : ByteArray).toList)) := rfl
  have hval : numV t = if numB t then (if negB t then -1 else 1) * (numOf (absT t).data.toList : Int) else 0 := rfl
  have hnb : numB t = (!headB (absT t) (negB t) && digsB (absT t)) := rfl
  have h48 := list_byt t 48
  obtain ⟨NV, hNV⟩ : ∃ NV, numV t = NV := ⟨_, rfl⟩
  obtain ⟨NB, hNB⟩ : ∃ NB, numB t = NB := ⟨_, rfl⟩
  rw [hNV, hNB] at hval
  rw [hNB] at hnb
  rw [hNV, hNB]
  clear hNV hNB
  cases hng : negB t
  case true =>
    rw [hng] at hval hnb hpn
    have hn2 := hng
    unfold negB at hn2
    simp only [Bool.and_eq_true, decide_eq_true_eq] at hn2
    have hab : absT t = t.extract 1 t.size := by unfold absT; rw [hng, if_pos rfl]
    rw [hpn] at hpb
    have hpb2 := hpb.symm
    simp only [Bool.and_eq_true, decide_eq_true_eq] at hpb2
    rw [← hpb, Lib.trimPrefix_hit t ⟨#[45]⟩ hpb2.1 hpb2.2] at cc
    change ∀ w, Calls _ _ _ w (fun e w' => e = .returned (.tuple #[.string (t.extract 1 t.size), .bool true]) ∧ _) at cc
    rw [← hab] at cc
    obtain ⟨d, hd⟩ : ∃ d, absT t = d := ⟨_, rfl⟩
    rw [hd] at hval hnb cc
    have HV : Hid (NV = if NB = true then (if true = true then -1 else 1) * (numOf d.data.toList : Int) else 0) := hval
    have HNB : Hid (NB = (!headB d true && digsB d)) := hnb
    have hdz : d.size ≤ 65536 := by rw [← hd, hab, ByteArray.size_extract]; omega
    have n48 : (t.toList == [48]) = false := by
      rw [h48, hn2.2]
      simp
    clear hval hnb hpn hpb hpb2 hab hd hng h48 hn2
    have HE0 : Hid ((d.toList == []) = decide (d.size = 0)) := empty_byt d
    by_cases s0 : d.size = 0
    case pos =>
      have s0' : (d.toList == []) = true := by rw [HE0.out]; exact decide_eq_true s0
      have hn : NB = false := by rw [HNB.out]; unfold headB; rw [decide_eq_true s0]; simp
      subst hn
      have hv := HV.out
      rw [if_neg (by simp)] at hv
      subst hv
      go_enter Tryz.func97, Tryz.ntmps97
      go_wp2_with (go_at_call 69; go_must (refine (cc _).mono ?_; rintro e w1 ⟨rfl, rfl⟩))
      go_ret2
      exact ⟨rfl, Below.refl _ _⟩
    have s0' : (d.toList == []) = false := by rw [HE0.out]; exact decide_eq_false s0
    by_cases s18 : 18 < d.size
    case pos =>
      have s18' : (18 : Int) < (d.size : Int) := by omega
      have hn : NB = false := by rw [HNB.out]; unfold headB; rw [decide_eq_true s18]; simp
      subst hn
      have hv := HV.out
      rw [if_neg (by simp)] at hv
      subst hv
      go_enter Tryz.func97, Tryz.ntmps97
      go_wp2_with (go_at_call 69; go_must (refine (cc _).mono ?_; rintro e w1 ⟨rfl, rfl⟩))
      go_ret2
      exact ⟨rfl, Below.refl _ _⟩
    have s18' : ¬ ((18 : Int) < (d.size : Int)) := by omega
    have cr := fun w => runEndDig d 0 (by omega) (by omega) w
    rcases digs_end d with ⟨hdg, he, hall⟩ | ⟨hdg, he⟩
    case inr =>
      have he' : ((endOf isDig d 0 : Nat) : Int) < (d.size : Int) := by omega
      obtain ⟨E, hE⟩ : ∃ E, endOf isDig d 0 = E := ⟨_, rfl⟩
      rw [hE] at cr he'
      have hn : NB = false := by rw [HNB.out, hdg]; simp
      subst hn
      have hv := HV.out
      rw [if_neg (by simp)] at hv
      subst hv
      clear hE he hdg
      go_enter Tryz.func97, Tryz.ntmps97
      go_wp2_with (first | (go_at_call 69; go_must (refine (cc _).mono ?_; rintro e w1 ⟨rfl, rfl⟩)) | (go_at_call 104; go_must (refine (cr _).mono ?_; rintro e w2 ⟨rfl, hb2⟩)))
      go_ret2
      exact ⟨rfl, hb2⟩
    rw [he] at cr
    have hlt : ¬ ((d.size : Int) < (d.size : Int)) := by omega
    have hpos : (0 : Int) < (d.size : Int) := by omega
    have hd0 : 0 < d.size := by omega
    have hb0 := byt_eq d 0 hd0
    have cv := fun w => implValue d (by omega) hall w
    have hlv := numOf_lt d d.size hall (Nat.le_refl _)
    rw [List.take_of_length_le (by simp)] at hlv
    have hpw : 10 ^ d.size ≤ 10 ^ 18 := Nat.pow_le_pow_right (by omega) (by omega)
    obtain ⟨N, hN⟩ : ∃ N, numOf d.data.toList = N := ⟨_, rfl⟩
    rw [hN] at cv hlv HV
    have hN18 : N < 1000000000000000000 := by omega
    clear hN hlv hpw hall he
    by_cases b48 : byt d 0 = 48
    case pos =>
      rw [b48] at hb0
      have hn : NB = false := by rw [HNB.out]; unfold headB; rw [decide_eq_true b48]; simp
      subst hn
      have hv := HV.out
      rw [if_neg (by simp)] at hv
      subst hv
      clear b48
      go_enter Tryz.func97, Tryz.ntmps97
      go_wp2_with (first | (go_at_call 69; go_must (refine (cc _).mono ?_; rintro e w1 ⟨rfl, rfl⟩)) | (go_at_call 104; go_must (refine (cr _).mono ?_; rintro e w2 ⟨rfl, hb2⟩)))
      go_ret2
      exact ⟨rfl, hb2⟩
    have q48 : ((byt d 0 : Int) == 48) = false := by rw [beq_eq_false_iff_ne]; omega
    have hn : NB = true := by rw [HNB.out, hdg]; unfold headB; rw [decide_eq_false s0, decide_eq_false s18, decide_eq_false b48]; rfl
    subst hn
    have hv := HV.out
    rw [if_pos rfl, if_pos rfl] at hv
    have HV2 : Hid (NV = -1 * (N : Int)) := hv
    obtain ⟨c, hc⟩ : ∃ c, byt d 0 = c := ⟨_, rfl⟩
    rw [hc] at hb0 q48
    clear hv hc b48
    go_enter Tryz.func97, Tryz.ntmps97
    go_wp2_with (first | (go_at_call 69; go_must (refine (cc _).mono ?_; rintro e w1 ⟨rfl, rfl⟩)) | (go_at_call 104; go_must (refine (cr _).mono ?_; rintro e w2 ⟨rfl, hb2⟩)) | (go_at_call 134; go_must (refine (cv _).mono ?_; rintro e w3 ⟨rfl, hb3⟩)))
    go_ret2
    exact ⟨by rw [HV2.out]; simp, good_below hb2 hb3⟩
  case false =>
    rw [hng] at hval hnb hpn
    have hab : absT t = t := by unfold absT; rw [hng, if_neg (by simp)]
    rw [hpn] at hpb
    rw [← hpb, Lib.trimPrefix_miss t ⟨#[45]⟩ hpb.symm] at cc
    rw [hab] at hval hnb
    obtain ⟨d, hd⟩ : ∃ d, t = d := ⟨_, rfl⟩
    subst hd
    have HV : Hid (NV = if NB = true then (if false = true then -1 else 1) * (numOf t.data.toList : Int) else 0) := hval
    have HNB : Hid (NB = (!headB t false && digsB t)) := hnb
    have H48 : Hid ((t.toList == [48]) = (decide (t.size = 1) && decide (byt t 0 = (48 : UInt8).toNat))) := h48
    clear hval hnb hpn hpb hab hng h48
    have hdz : t.size ≤ 65536 := ht
    have HE0 : Hid ((t.toList == []) = decide (t.size = 0)) := empty_byt t
    by_cases s0 : t.size = 0
    case pos =>
      have s0' : (t.toList == []) = true := by rw [HE0.out]; exact decide_eq_true s0
      have hn : NB = false := by rw [HNB.out]; unfold headB; rw [decide_eq_true s0]; simp
      subst hn
      have hv := HV.out
      rw [if_neg (by simp)] at hv
      subst hv
      go_enter Tryz.func97, Tryz.ntmps97
      go_wp2_with (go_at_call 69; go_must (refine (cc _).mono ?_; rintro e w1 ⟨rfl, rfl⟩))
      go_ret2
      exact ⟨rfl, Below.refl _ _⟩
    have s0' : (t.toList == []) = false := by rw [HE0.out]; exact decide_eq_false s0
    by_cases s18 : 18 < t.size
    case pos =>
      have s18' : (18 : Int) < (t.size : Int) := by omega
      have hn : NB = false := by rw [HNB.out]; unfold headB; rw [decide_eq_true s18]; simp
      subst hn
      have hv := HV.out
      rw [if_neg (by simp)] at hv
      subst hv
      go_enter Tryz.func97, Tryz.ntmps97
      go_wp2_with (go_at_call 69; go_must (refine (cc _).mono ?_; rintro e w1 ⟨rfl, rfl⟩))
      go_ret2
      exact ⟨rfl, Below.refl _ _⟩
    have s18' : ¬ ((18 : Int) < (t.size : Int)) := by omega
    have cr := fun w => runEndDig t 0 (by omega) (by omega) w
    rcases digs_end t with ⟨hdg, he, hall⟩ | ⟨hdg, he⟩
    case inr =>
      have he' : ((endOf isDig t 0 : Nat) : Int) < (t.size : Int) := by omega
      obtain ⟨E, hE⟩ : ∃ E, endOf isDig t 0 = E := ⟨_, rfl⟩
      rw [hE] at cr he'
      have hn : NB = false := by rw [HNB.out, hdg]; simp
      subst hn
      have hv := HV.out
      rw [if_neg (by simp)] at hv
      subst hv
      clear hE he hdg
      go_enter Tryz.func97, Tryz.ntmps97
      go_wp2_with (first | (go_at_call 69; go_must (refine (cc _).mono ?_; rintro e w1 ⟨rfl, rfl⟩)) | (go_at_call 104; go_must (refine (cr _).mono ?_; rintro e w2 ⟨rfl, hb2⟩)))
      go_ret2
      exact ⟨rfl, hb2⟩
    rw [he] at cr
    have hlt : ¬ ((t.size : Int) < (t.size : Int)) := by omega
    have hpos : (0 : Int) < (t.size : Int) := by omega
    have hd0 : 0 < t.size := by omega
    have hb0 := byt_eq t 0 hd0
    have cv := fun w => implValue t (by omega) hall w
    have hlv := numOf_lt t t.size hall (Nat.le_refl _)
    rw [List.take_of_length_le (by simp)] at hlv
    have hpw : 10 ^ t.size ≤ 10 ^ 18 := Nat.pow_le_pow_right (by omega) (by omega)
    obtain ⟨N, hN⟩ : ∃ N, numOf t.data.toList = N := ⟨_, rfl⟩
    rw [hN] at cv hlv HV
    have hN18 : N < 1000000000000000000 := by omega
    clear hN hlv hpw hall he
    by_cases b48 : byt t 0 = 48
    case pos =>
      rw [b48] at hb0
      by_cases s1 : 1 < t.size
      case pos =>
        have n48 : (t.toList == [48]) = false := by rw [H48.out, decide_eq_false (show ¬ (t.size = 1) by omega)]; rfl
        have hn : NB = false := by rw [HNB.out]; unfold headB; rw [decide_eq_true b48, decide_eq_true s1]; simp
        subst hn
        have hv := HV.out
        rw [if_neg (by simp)] at hv
        subst hv
        clear b48
        go_enter Tryz.func97, Tryz.ntmps97
        go_wp2_with (first | (go_at_call 69; go_must (refine (cc _).mono ?_; rintro e w1 ⟨rfl, rfl⟩)) | (go_at_call 104; go_must (refine (cr _).mono ?_; rintro e w2 ⟨rfl, hb2⟩)))
        go_ret2
        exact ⟨rfl, hb2⟩
      have n48 : (t.toList == [48]) = true := by rw [H48.out, decide_eq_true (show t.size = 1 by omega), b48]; rfl
      have hn : NB = true := by rw [HNB.out, hdg]; unfold headB; rw [decide_eq_false s0, decide_eq_false s18, decide_eq_false s1]; simp
      subst hn
      have hv := HV.out
      rw [if_pos rfl, if_neg (by simp)] at hv
      have HV2 : Hid (NV = 1 * (N : Int)) := hv
      clear hv b48
      go_enter Tryz.func97, Tryz.ntmps97
      go_wp2_with (first | (go_at_call 69; go_must (refine (cc _).mono ?_; rintro e w1 ⟨rfl, rfl⟩)) | (go_at_call 104; go_must (refine (cr _).mono ?_; rintro e w2 ⟨rfl, hb2⟩)) | (go_at_call 134; go_must (refine (cv _).mono ?_; rintro e w3 ⟨rfl, hb3⟩)))
      go_ret2
      exact ⟨by rw [HV2.out]; simp, good_below hb2 hb3⟩
    have q48 : ((byt t 0 : Int) == 48) = false := by rw [beq_eq_false_iff_ne]; omega
    have hn : NB = true := by rw [HNB.out, hdg]; unfold headB; rw [decide_eq_false s0, decide_eq_false s18, decide_eq_false b48]; rfl
    subst hn
    have hv := HV.out
    rw [if_pos rfl, if_neg (by simp)] at hv
    have HV2 : Hid (NV = 1 * (N : Int)) := hv
    obtain ⟨c, hc⟩ : ∃ c, byt t 0 = c := ⟨_, rfl⟩
    rw [hc] at hb0 q48
    clear hv hc b48
    go_enter Tryz.func97, Tryz.ntmps97
    go_wp2_with (first | (go_at_call 69; go_must (refine (cc _).mono ?_; rintro e w1 ⟨rfl, rfl⟩)) | (go_at_call 104; go_must (refine (cr _).mono ?_; rintro e w2 ⟨rfl, hb2⟩)) | (go_at_call 134; go_must (refine (cv _).mono ?_; rintro e w3 ⟨rfl, hb3⟩)))
    go_ret2
    exact ⟨by rw [HV2.out]; simp, good_below hb2 hb3⟩
end Go.Proofs.YtphocibgfdihoaaGreatDoor

namespace Go.Proofs.YtphocibgfdihoaaGreatDoor
open Go.ChangeShapes Go.WideShapes Go.ChangeAt Go.RowKit
set_option linter.unusedVariables false
set_option linter.unusedSimpArgs false

theorem byt_ext (t : ByteArray) (a b i : Nat) (hi : a + i < b) (hb : b ≤ t.size) : byt (t.extract a b) i = byt t (a + i) := by
  have h1 : i < (t.extract a b).size := by rw [ByteArray.size_extract]; omega
  rw [← byt_eq _ i h1, ← byt_eq t (a + i) (by omega)]
  congr 1
  exact ByteArray.getElem_extract ..
theorem list_is {x : ByteArray} {l : List UInt8} (h : x.toList = l) : x.size = l.length ∧ ∀ j (hj : j < l.length), byt x j = l[j].toNat := by
  rw [toList_data] at h
  subst h
  refine ⟨by simp, fun j hj => ?_⟩
  have : j < x.size := by simpa using hj
  rw [← byt_eq x j this]; rfl
theorem numOf_pos {d : ByteArray} (hd : ∀ i, i < d.size → 48 ≤ byt d i ∧ byt d i ≤ 57) (h0 : byt d 0 ≠ 48) : ∀ k, k + 1 ≤ d.size → 1 ≤ numOf (d.data.toList.take (k + 1))
  | 0, hk => by
    rw [numOf_succ d 0 (by omega)]
    have := hd 0 (by omega)
    omega
  | k + 1, hk => by
    rw [numOf_succ d (k + 1) (by omega)]
    have := numOf_pos hd h0 k (by omega)
    omega
theorem digs_all {d : ByteArray} (h : digsB d = true) : ∀ i, i < d.size → 48 ≤ byt d i ∧ byt d i ≤ 57 := fun i hi => by
  unfold digsB at h
  rw [List.all_eq_true] at h
  simpa using h i (List.mem_range.2 hi)
/-- A number that is not below zero has no sign. -/
theorem num_sign {t : ByteArray} (hb : numB t = true) (hv : 0 ≤ numV t) : negB t = false := by
  cases hn : negB t with
  | false => rfl
  | true =>
    exfalso
    unfold numV at hv
    rw [hb, hn] at hv
    simp only [↓reduceIte] at hv
    unfold numB at hb
    rw [hn] at hb
    simp only [Bool.and_eq_true, Bool.not_eq_true'] at hb
    obtain ⟨hh, hdg⟩ := hb
    unfold headB at hh
    simp only [Bool.or_true, Bool.and_true, Bool.or_eq_false_iff, decide_eq_false_iff_not] at hh
    have hp := numOf_pos (digs_all hdg) hh.2 ((absT t).size - 1) (by omega)
    rw [show (absT t).size - 1 + 1 = (absT t).size by omega, List.take_of_length_le (by simp)] at hp
    omega
theorem num_digits {t : ByteArray} (hb : numB t = true) (hn : negB t = false) : digsB t = true := by
  unfold numB at hb
  have : absT t = t := by unfold absT; rw [hn, if_neg (by simp)]
  rw [this] at hb
  simp only [Bool.and_eq_true] at hb
  exact hb.2
theorem digits_pos {t : ByteArray} (h : ∀ i, i < t.size → 48 ≤ byt t i ∧ byt t i ≤ 57) : negB t = false ∧ 0 ≤ numV t := by
  have hn : negB t = false := by
    unfold negB
    by_cases h0 : 0 < t.size
    · have := h 0 h0
      rw [decide_eq_false (show ¬ (byt t 0 = 45) by omega), Bool.and_false]
    · rw [decide_eq_false h0, Bool.false_and]
  refine ⟨hn, ?_⟩
  unfold numV
  split
  · rw [hn]; simp
  · omega
theorem uL_first (i : Nat) : ∃ c l, uL i = c :: l ∧ ¬ (48 ≤ c.toNat ∧ c.toNat ≤ 57) ∧ (uL i).length = (uT i).size := by
  unfold uL uT
  split <;> exact ⟨_, _, rfl, by decide, rfl⟩
/-- A span by its unit, where the digits end. -/
theorem span_at {t : ByteArray} {k : Nat} (hk : k < t.size) (hn : ¬ (48 ≤ byt t k ∧ byt t k ≤ 57)) (hd : ∀ i, i < k → 48 ≤ byt t i ∧ byt t i ≤ 57) (i : Nat) :
    spanAt t i = if (t.extract k t.size).toList == uL i then (if numB (t.extract 0 k) && decide (numV (t.extract 0 k) ≤ ((999999999999999999 / mT i : Nat) : Int)) then some (numV (t.extract 0 k) * (mT i : Int)) else none) else none := by
  obtain ⟨c, l, hu, hc, hlen⟩ := uL_first i
  have hus := uT_size i
  have hp : ∀ j, j < (t.extract 0 k).size → 48 ≤ byt (t.extract 0 k) j ∧ byt (t.extract 0 k) j ≤ 57 := fun j hj => by
    rw [ByteArray.size_extract] at hj
    rw [byt_ext t 0 k j (by omega) (by omega), Nat.zero_add]
    exact hd j (by omega)
  obtain ⟨hng, hpos⟩ := digits_pos hp
  unfold spanAt
  cases hr : ((t.extract k t.size).toList == uL i) with
  | true =>
    have hl := list_is (beq_iff_eq.1 hr)
    have hsz : t.size - k = (uT i).size := by have := hl.1; rw [ByteArray.size_extract] at this; omega
    have hke : t.size - (uT i).size = k := by omega
    rw [hke, hr, if_pos rfl]
    by_cases h0 : 0 < k
    · rw [decide_eq_true (show (uT i).size < t.size by omega), decide_eq_true hpos]
      simp
    · have hk0 : k = 0 := by omega
      rw [decide_eq_false (show ¬ ((uT i).size < t.size) by omega)]
      have : numB (t.extract 0 k) = false := by
        unfold numB headB absT
        rw [hng]
        simp [hk0]
      rw [this]
      simp
  | false =>
    simp only [Bool.false_eq_true, ↓reduceIte]
    by_cases hx : (decide ((uT i).size < t.size) && ((t.extract (t.size - (uT i).size) t.size).toList == uL i)) = true
    · rw [if_pos hx]
      simp only [Bool.and_eq_true, decide_eq_true_eq] at hx
      obtain ⟨hlt, hsuf⟩ := hx
      refine if_neg (fun hy => ?_)
      simp only [Bool.and_eq_true, decide_eq_true_eq] at hy
      obtain ⟨⟨hy1, hy2⟩, hy3⟩ := hy
      have hdg := digs_all (num_digits hy1 (num_sign hy1 hy2))
      have hl := list_is (beq_iff_eq.1 hsuf)
      have hc0 : byt t (t.size - (uT i).size) = c.toNat := by
        have h1 := hl.2 0 (by rw [hu]; simp)
        rw [byt_ext t _ _ 0 (by omega) (Nat.le_refl _), Nat.add_zero] at h1
        rw [h1]
        simp [hu]
      have hdk : ∀ j, j < t.size - (uT i).size → 48 ≤ byt t j ∧ byt t j ≤ 57 := fun j hj => by
        have := hdg j (by rw [ByteArray.size_extract]; omega)
        rw [byt_ext t 0 _ j (by omega) (by omega), Nat.zero_add] at this
        exact this
      have : k = t.size - (uT i).size := by
        rcases Nat.lt_trichotomy k (t.size - (uT i).size) with q | q | q
        · exact absurd (hdk k q) hn
        · exact q
        · have := hd _ q
          rw [hc0] at this
          exact absurd this hc
      rw [← this, hr] at hsuf
      cases hsuf
    · rw [if_neg hx]
/-- What impl's spanOf reads. -/
def unitI (u : List UInt8) : Nat := if u == [109, 115] then 1 else if u == [115] then 1000 else if u == [109] then 60000 else if u == [104] then 3600000 else 0
def spanJ (m : Nat) (p : ByteArray) : Option Int := if m = 0 then none else if numB p && decide (numV p ≤ ((999999999999999999 / m : Nat) : Int)) then some (numV p * (m : Int)) else none
def spanI (t : ByteArray) : Option Int := spanJ (unitI (t.extract (endOf isDig t 0) t.size).toList) (t.extract 0 (endOf isDig t 0))
theorem span_same (t : ByteArray) : spanI t = spanO t := by
  unfold spanI
  rcases first_no (d := t) t.size (Nat.le_refl _) with h | ⟨k, h1, h2, h3⟩
  · rw [digEnd_yes h t.size 0 (by omega)]
    have he : (t.extract t.size t.size).toList = [] := by
      rw [toList_data]
      have : (t.extract t.size t.size).size = 0 := by rw [ByteArray.size_extract]; omega
      exact List.length_eq_zero_iff.1 (by simp)
    rw [he]
    have hu : unitI [] = 0 := by decide
    rw [hu]
    have : spanO t = none := span_miss (fun i hi => by
      obtain ⟨c, l, hul, hc, hlen⟩ := uL_first i
      have hus := uT_size i
      unfold spanAt
      refine if_neg (fun hx => ?_)
      simp only [Bool.and_eq_true, decide_eq_true_eq] at hx
      have hl := list_is (beq_iff_eq.1 hx.2)
      have h1 := hl.2 0 (by rw [hul]; simp)
      rw [byt_ext t _ _ 0 (by omega) (Nat.le_refl _), Nat.add_zero] at h1
      have h2 := h (t.size - (uT i).size) (by omega)
      rw [h1] at h2
      simp [hul] at h2
      exact hc h2)
    rw [this]; rfl
  · rw [digEnd_no h1 h2 h3 k 0 (by omega)]
    have hs := fun i => span_at h1 h2 h3 i
    obtain ⟨u, hu⟩ : ∃ u, (t.extract k t.size).toList = u := ⟨_, rfl⟩
    obtain ⟨p, hp⟩ : ∃ p, t.extract 0 k = p := ⟨_, rfl⟩
    rw [hp] at hs ⊢
    simp only [hu] at hs ⊢
    have s0 := hs 0
    have s1 := hs 1
    have s2 := hs 2
    have s3 := hs 3
    simp only [uL, mT] at s0 s1 s2 s3
    have hO : spanO t = (spanAt t 0).or ((spanAt t 1).or ((spanAt t 2).or (spanAt t 3))) := by
      unfold spanO
      show List.findSome? (spanAt t) [0, 1, 2, 3] = _
      simp only [List.findSome?_cons, List.findSome?_nil]
      cases spanAt t 0 <;> cases spanAt t 1 <;> cases spanAt t 2 <;> cases spanAt t 3 <;> rfl
    rw [hO, s0, s1, s2, s3]
    unfold unitI spanJ
    by_cases e0 : u = [109, 115]
    · subst e0; simp
    by_cases e1 : u = [115]
    · subst e1; simp
    by_cases e2 : u = [109]
    · subst e2; simp
    by_cases e3 : u = [104]
    · subst e3; simp
    simp [e0, e1, e2, e3]
end Go.Proofs.YtphocibgfdihoaaGreatDoor

namespace Go.Proofs.YtphocibgfdihoaaGreatDoor
open Go.ChangeShapes Go.WideShapes Go.ChangeAt Go.RowKit
set_option linter.unusedVariables false
set_option linter.unusedSimpArgs false

theorem end_digits (t : ByteArray) : ∀ i, i < endOf isDig t 0 → 48 ≤ byt t i ∧ byt t i ≤ 57 := by
  rcases first_no (d := t) t.size (Nat.le_refl _) with h | ⟨k, h1, h2, h3⟩
  · rw [digEnd_yes h t.size 0 (by omega)]; exact h
  · rw [digEnd_no h1 h2 h3 k 0 (by omega)]; exact h3
set_option maxRecDepth 100000 in
theorem implUnit (u : ByteArray) (w : World) : Calls Tryz.prog 135 #[.string u] w fun e w' => e = .returned (.int .i64 (unitI u.toList : Int)) ∧ w' = w := by
  have hu : unitI u.toList = if u.toList == [109, 115] then 1 else if u.toList == [115] then 1000 else if u.toList == [109] then 60000 else if u.toList == [104] then 3600000 else 0 := rfl
  obtain ⟨M, hM⟩ : ∃ M, unitI u.toList = M := ⟨_, rfl⟩
  rw [hM] at hu ⊢
  have HU : Hid (M = if (u.toList == [109, 115]) = true then 1 else if (u.toList == [115]) = true then 1000 else if (u.toList == [109]) = true then 60000 else if (u.toList == [104]) = true then 3600000 else 0) := hu
  clear hu hM
  cases e0 : (u.toList == [109, 115])
  case true =>
    have hm := HU.out
    rw [e0, if_pos rfl] at hm
    subst hm
    go_enter Tryz.func135, Tryz.ntmps135
    go_wp2_with fail
    go_ret
    exact ⟨rfl, rfl⟩
  cases e1 : (u.toList == [115])
  case true =>
    have hm := HU.out
    rw [e0, if_neg (by simp), e1, if_pos rfl] at hm
    subst hm
    go_enter Tryz.func135, Tryz.ntmps135
    go_wp2_with fail
    go_ret
    exact ⟨rfl, rfl⟩
  cases e2 : (u.toList == [109])
  case true =>
    have hm := HU.out
    rw [e0, if_neg (by simp), e1, if_neg (by simp), e2, if_pos rfl] at hm
    subst hm
    go_enter Tryz.func135, Tryz.ntmps135
    go_wp2_with fail
    go_ret
    exact ⟨rfl, rfl⟩
  cases e3 : (u.toList == [104])
  case true =>
    have hm := HU.out
    rw [e0, if_neg (by simp), e1, if_neg (by simp), e2, if_neg (by simp), e3, if_pos rfl] at hm
    subst hm
    go_enter Tryz.func135, Tryz.ntmps135
    go_wp2_with fail
    go_ret
    exact ⟨rfl, rfl⟩
  have hm := HU.out
  rw [e0, if_neg (by simp), e1, if_neg (by simp), e2, if_neg (by simp), e3, if_neg (by simp)] at hm
  subst hm
  go_enter Tryz.func135, Tryz.ntmps135
  go_wp2_with fail
  go_ret
  exact ⟨rfl, rfl⟩
theorem unit_cases (u : List UInt8) : unitI u = 0 ∨ unitI u = 1 ∨ unitI u = 1000 ∨ unitI u = 60000 ∨ unitI u = 3600000 := by
  unfold unitI
  split
  · simp
  split
  · simp
  split
  · simp
  split
  · simp
  simp
set_option maxRecDepth 100000 in
set_option maxHeartbeats 2000000 in
theorem implSpan (t : ByteArray) (ht : t.size ≤ 65536) (w : World) :
    Calls Tryz.prog 100 #[.string t] w fun e w' => e = .returned (.tuple #[.int .i64 (spanV t), .bool (spanB t)]) ∧ Below w.heap.size w w' := by
  have hge := endOf_ge isDig t 0 (by omega)
  have cr := fun w => runEndDig t 0 ht (by omega) w
  have hsm : spanI t = spanJ (unitI (t.extract (endOf isDig t 0) t.size).toList) (t.extract 0 (endOf isDig t 0)) := rfl
  rw [span_same t] at hsm
  unfold spanV spanB
  rw [hsm]
  clear hsm
  obtain ⟨E, hE⟩ : ∃ E, endOf isDig t 0 = E := ⟨_, rfl⟩
  have hdg := end_digits t
  rw [hE] at cr hge hdg ⊢
  have hEt : (E : Int) ≤ (t.size : Int) := by omega
  have cn := fun w => implNumber (t.extract 0 E) (by rw [ByteArray.size_extract]; omega) w
  have cu := fun w => implUnit (t.extract E t.size) w
  have huc := unit_cases (t.extract E t.size).toList
  obtain ⟨M, hM⟩ : ∃ M, unitI (t.extract E t.size).toList = M := ⟨_, rfl⟩
  rw [hM] at cu huc ⊢
  have hJ : spanJ M (t.extract 0 E) = if M = 0 then none else if numB (t.extract 0 E) && decide (numV (t.extract 0 E) ≤ ((999999999999999999 / M : Nat) : Int)) then some (numV (t.extract 0 E) * (M : Int)) else none := rfl
  have hpos : 0 ≤ numV (t.extract 0 E) := (digits_pos (fun i hi => by
    rw [ByteArray.size_extract] at hi
    rw [byt_ext t 0 E i (by omega) (by omega), Nat.zero_add]
    exact hdg i (by omega))).2
  obtain ⟨NV, hNV⟩ : ∃ NV, numV (t.extract 0 E) = NV := ⟨_, rfl⟩
  obtain ⟨NB, hNB⟩ : ∃ NB, numB (t.extract 0 E) = NB := ⟨_, rfl⟩
  rw [hNV, hNB] at cn hJ
  rw [hNV] at hpos
  obtain ⟨SJ, hSJ⟩ : ∃ SJ, spanJ M (t.extract 0 E) = SJ := ⟨_, rfl⟩
  rw [hSJ] at hJ ⊢
  clear hNV hNB hSJ hM hE hdg
  cases NB
  case false =>
    have hs : SJ = none := by rw [hJ]; split <;> simp
    subst hs
    clear hJ hpos
    go_enter Tryz.func100, Tryz.ntmps100
    go_wp2_with (first | (go_at_call 104; go_must (refine (cr _).mono ?_; rintro e w1 ⟨rfl, hb1⟩)) | (go_at_call 97; go_must (refine (cn _).mono ?_; rintro e w2 ⟨rfl, hb2⟩)) | (go_at_call 135; go_must (refine (cu _).mono ?_; rintro e w3 ⟨rfl, rfl⟩)))
    go_ret2
    exact ⟨rfl, good_below hb1 hb2⟩
  have hp := hpos
  clear hpos
  rcases huc with rfl | rfl | rfl | rfl | rfl
  · have hs : SJ = none := by rw [hJ]; rfl
    subst hs
    clear hJ
    go_enter Tryz.func100, Tryz.ntmps100
    go_wp2_with (first | (go_at_call 104; go_must (refine (cr _).mono ?_; rintro e w1 ⟨rfl, hb1⟩)) | (go_at_call 97; go_must (refine (cn _).mono ?_; rintro e w2 ⟨rfl, hb2⟩)) | (go_at_call 135; go_must (refine (cu _).mono ?_; rintro e w3 ⟨rfl, rfl⟩)))
    go_ret2
    exact ⟨rfl, good_below hb1 hb2⟩
  · have hq : ((999999999999999999 / 1 : Nat) : Int) = 999999999999999999 := rfl
    rw [if_neg (by omega), hq, Bool.true_and] at hJ
    by_cases hv : NV ≤ 999999999999999999
    · rw [decide_eq_true hv, if_pos rfl] at hJ
      have hv' : ¬ ((999999999999999999 : Int) < NV) := by omega
      subst hJ
      clear hq
      go_enter Tryz.func100, Tryz.ntmps100
      go_wp2_with (first | (go_at_call 104; go_must (refine (cr _).mono ?_; rintro e w1 ⟨rfl, hb1⟩)) | (go_at_call 97; go_must (refine (cn _).mono ?_; rintro e w2 ⟨rfl, hb2⟩)) | (go_at_call 135; go_must (refine (cu _).mono ?_; rintro e w3 ⟨rfl, rfl⟩)))
      go_ret2
      exact ⟨by simp, good_below hb1 hb2⟩
    · rw [decide_eq_false hv, if_neg (by simp)] at hJ
      have hv' : (999999999999999999 : Int) < NV := by omega
      subst hJ
      clear hq
      go_enter Tryz.func100, Tryz.ntmps100
      go_wp2_with (first | (go_at_call 104; go_must (refine (cr _).mono ?_; rintro e w1 ⟨rfl, hb1⟩)) | (go_at_call 97; go_must (refine (cn _).mono ?_; rintro e w2 ⟨rfl, hb2⟩)) | (go_at_call 135; go_must (refine (cu _).mono ?_; rintro e w3 ⟨rfl, rfl⟩)))
      go_ret2
      exact ⟨rfl, good_below hb1 hb2⟩
  · have hq : ((999999999999999999 / 1000 : Nat) : Int) = 999999999999999 := rfl
    rw [if_neg (by omega), hq, Bool.true_and] at hJ
    by_cases hv : NV ≤ 999999999999999
    · rw [decide_eq_true hv, if_pos rfl] at hJ
      have hv' : ¬ ((999999999999999 : Int) < NV) := by omega
      subst hJ
      clear hq
      go_enter Tryz.func100, Tryz.ntmps100
      go_wp2_with (first | (go_at_call 104; go_must (refine (cr _).mono ?_; rintro e w1 ⟨rfl, hb1⟩)) | (go_at_call 97; go_must (refine (cn _).mono ?_; rintro e w2 ⟨rfl, hb2⟩)) | (go_at_call 135; go_must (refine (cu _).mono ?_; rintro e w3 ⟨rfl, rfl⟩)))
      go_ret2
      exact ⟨by simp, good_below hb1 hb2⟩
    · rw [decide_eq_false hv, if_neg (by simp)] at hJ
      have hv' : (999999999999999 : Int) < NV := by omega
      subst hJ
      clear hq
      go_enter Tryz.func100, Tryz.ntmps100
      go_wp2_with (first | (go_at_call 104; go_must (refine (cr _).mono ?_; rintro e w1 ⟨rfl, hb1⟩)) | (go_at_call 97; go_must (refine (cn _).mono ?_; rintro e w2 ⟨rfl, hb2⟩)) | (go_at_call 135; go_must (refine (cu _).mono ?_; rintro e w3 ⟨rfl, rfl⟩)))
      go_ret2
      exact ⟨rfl, good_below hb1 hb2⟩
  · have hq : ((999999999999999999 / 60000 : Nat) : Int) = 16666666666666 := rfl
    rw [if_neg (by omega), hq, Bool.true_and] at hJ
    by_cases hv : NV ≤ 16666666666666
    · rw [decide_eq_true hv, if_pos rfl] at hJ
      have hv' : ¬ ((16666666666666 : Int) < NV) := by omega
      subst hJ
      clear hq
      go_enter Tryz.func100, Tryz.ntmps100
      go_wp2_with (first | (go_at_call 104; go_must (refine (cr _).mono ?_; rintro e w1 ⟨rfl, hb1⟩)) | (go_at_call 97; go_must (refine (cn _).mono ?_; rintro e w2 ⟨rfl, hb2⟩)) | (go_at_call 135; go_must (refine (cu _).mono ?_; rintro e w3 ⟨rfl, rfl⟩)))
      go_ret2
      exact ⟨by simp, good_below hb1 hb2⟩
    · rw [decide_eq_false hv, if_neg (by simp)] at hJ
      have hv' : (16666666666666 : Int) < NV := by omega
      subst hJ
      clear hq
      go_enter Tryz.func100, Tryz.ntmps100
      go_wp2_with (first | (go_at_call 104; go_must (refine (cr _).mono ?_; rintro e w1 ⟨rfl, hb1⟩)) | (go_at_call 97; go_must (refine (cn _).mono ?_; rintro e w2 ⟨rfl, hb2⟩)) | (go_at_call 135; go_must (refine (cu _).mono ?_; rintro e w3 ⟨rfl, rfl⟩)))
      go_ret2
      exact ⟨rfl, good_below hb1 hb2⟩
  · have hq : ((999999999999999999 / 3600000 : Nat) : Int) = 277777777777 := rfl
    rw [if_neg (by omega), hq, Bool.true_and] at hJ
    by_cases hv : NV ≤ 277777777777
    · rw [decide_eq_true hv, if_pos rfl] at hJ
      have hv' : ¬ ((277777777777 : Int) < NV) := by omega
      subst hJ
      clear hq
      go_enter Tryz.func100, Tryz.ntmps100
      go_wp2_with (first | (go_at_call 104; go_must (refine (cr _).mono ?_; rintro e w1 ⟨rfl, hb1⟩)) | (go_at_call 97; go_must (refine (cn _).mono ?_; rintro e w2 ⟨rfl, hb2⟩)) | (go_at_call 135; go_must (refine (cu _).mono ?_; rintro e w3 ⟨rfl, rfl⟩)))
      go_ret2
      exact ⟨by simp, good_below hb1 hb2⟩
    · rw [decide_eq_false hv, if_neg (by simp)] at hJ
      have hv' : (277777777777 : Int) < NV := by omega
      subst hJ
      clear hq
      go_enter Tryz.func100, Tryz.ntmps100
      go_wp2_with (first | (go_at_call 104; go_must (refine (cr _).mono ?_; rintro e w1 ⟨rfl, hb1⟩)) | (go_at_call 97; go_must (refine (cn _).mono ?_; rintro e w2 ⟨rfl, hb2⟩)) | (go_at_call 135; go_must (refine (cu _).mono ?_; rintro e w3 ⟨rfl, rfl⟩)))
      go_ret2
      exact ⟨rfl, good_below hb1 hb2⟩
end Go.Proofs.YtphocibgfdihoaaGreatDoor

namespace Go.Proofs.YtphocibgfdihoaaGreatDoor
open Go.ChangeShapes Go.WideShapes Go.ChangeAt Go.RowKit
set_option linter.unusedVariables false
set_option linter.unusedSimpArgs false

set_option maxRecDepth 100000 in
theorem implBtw (r lo hi : Int) (w : World) : Calls Tryz.prog 81 #[.int .i64 r, .int .i64 lo, .int .i64 hi] w fun e w' => e = .returned (.bool (decide (lo ≤ r) && decide (r ≤ hi))) ∧ w' = w := by
  go_enter Tryz.func81, Tryz.ntmps81
  go_wp2_with fail
  all_goals
    go_ret
    refine ⟨congrArg (fun b => Ending.returned (Value.bool b)) ?_, rfl⟩
    simp
    try omega
theorem implOne (b : Bool) (w : World) : Calls Tryz.prog 98 #[.bool b] w fun e w' => e = .returned (.int .i64 (if b then 1 else 0)) ∧ w' = w := by
  cases b
  · go_enter Tryz.func98, Tryz.ntmps98
    go_wp2_with fail
    go_ret
    exact ⟨rfl, rfl⟩
  · go_enter Tryz.func98, Tryz.ntmps98
    go_wp2_with fail
    go_ret
    exact ⟨rfl, rfl⟩
set_option maxRecDepth 100000 in
set_option maxHeartbeats 1000000 in
theorem implIndexT {S : Nat → Prop} {l : List ByteArray} {v : Value} {w : World} (hS : ∀ b, S b → b < w.heap.size) (h : TxtsAt S w v l) (t : ByteArray) :
    Calls Tryz.prog 99 #[v, .string t] w fun e w' => e = .returned (.int .i64 (ruleN (chO l t))) ∧ w' = w := by
  obtain ⟨hlm, a, cap, rfl, hc⟩ := h
  have HC : Hid _ := hc
  have hlm' : (l.length : Int) ≤ 9223372036854775807 := by simp [maxLen] at hlm; omega
  clear hc hlm
  go_enter Tryz.func99, Tryz.ntmps99
  go_wp2_with fail
  go_loopw [8] (fun i8 wr => ∃ k : Nat, i8 = .int .i64 (k : Int) ∧ k ≤ l.length ∧ (∀ i (h : i < l.length), i < k → (l[i].toList == t.toList) = false) ∧ wr = w) (fun i8 _ => l.length - (intOf i8).toNat)
  case atStart => exact ⟨0, rfl, by omega, fun i _ h => by omega, rfl⟩
  case round =>
    obtain ⟨k, rfl, hk, hno, rfl⟩ := hrel
    have HN : Hid (∀ i (h : i < l.length), i < k → (l[i].toList == t.toList) = false) := hno
    clear hno
    by_cases hkn : k < l.length
    · have hkn' : (k : Int) < (l.length : Int) := by omega
      obtain ⟨b, off, rfl, hbS, hcell⟩ := HC.out (by omega)
      have d0 := hcell k hkn
      have hht := fun h1 => ch_hit (t := t) hkn HN.out h1
      have hnn : (l[k].toList == t.toList) = false → ∀ i (h : i < l.length), i < k + 1 → (l[i].toList == t.toList) = false := fun h0 i hi hik => by
        by_cases e : i = k
        · subst e; exact h0
        · exact HN.out i hi (by omega)
      obtain ⟨x, hx⟩ : ∃ x, l[k] = x := ⟨_, rfl⟩
      rw [hx] at d0 hht hnn
      have HHT : Hid ((x.toList == t.toList) = true → chO l t = some k) := hht
      have HNN : Hid ((x.toList == t.toList) = false → ∀ i (h : i < l.length), i < k + 1 → (l[i].toList == t.toList) = false) := hnn
      clear hx hht hnn hcell
      cases hq : (x.toList == t.toList)
      · have hq2 : (t.toList == x.toList) = false := by rw [Bool.beq_comm]; exact hq
        go_wp2_with fail
        exact ⟨⟨k + 1, by go_num, by omega, HNN.out hq, by trivial⟩, by simp [intOf]; omega⟩
      · have hq2 : (t.toList == x.toList) = true := by rw [Bool.beq_comm]; exact hq
        go_wp2_with fail
        go_ret
        exact ⟨by rw [HHT.out hq]; rfl, rfl⟩
    · obtain rfl : k = l.length := by omega
      have hkn' : ¬ ((l.length : Int) < (l.length : Int)) := by omega
      go_wp2_with fail
      go_ret
      exact ⟨by rw [ch_miss (fun i hi => HN.out i hi hi)]; rfl, rfl⟩
/-- What a demand's number answers. -/
def numN (r : Rule) (t : ByteArray) : Int := if r.kind = 4 then ruleN (chO r.choices t) else (formO r t).getD 0
def dVal (r : Rule) (cv : Value) : Value := .agg #[.string r.path, .string r.path, .int .i64 r.kind, .int .i64 r.min', .int .i64 r.max', cv, .bool r.must, .string r.default']
set_option maxRecDepth 100000 in
set_option maxHeartbeats 4000000 in
theorem implForm {S : Nat → Prop} (r : Rule) (cv : Value) (w : World) (hS : ∀ b, S b → b < w.heap.size) (hch : TxtsAt S w cv r.choices) (t : ByteArray) (ht : t.size ≤ 65536) :
    Calls Tryz.prog 80 #[dVal r cv, .string t] w fun e w' => e = .returned (.tuple #[.int .i64 (numN r t), .bool (formO r t).isSome]) ∧ Below w.heap.size w w' := by
  have hw1 : ∀ o, Below w.heap.size w (w.alloc o) := fun o => (Below.refl _ w).alloc (Nat.le_refl _) _
  have cN := fun w => implNumber t ht w
  have cS := fun w => implSpan t ht w
  have cO := fun b w => implOne b w
  have cI := fun o => implIndexT (w := w.alloc o) (fun b hb => Nat.lt_of_lt_of_le (hS b hb) (hw1 o).size) (hch.keep (cells_below hS (hw1 o))) t
  have hts : (t.size : Int) ≤ 65536 := by omega
  have hnn : numN r t = if r.kind = 4 then ruleN (chO r.choices t) else (formO r t).getD 0 := rfl
  have hfo : formO r t = if r.kind = 1 then (if numB t then some (numV t) else none) else if r.kind = 2 then (if yesB t then some 1 else if noB t then some 0 else none) else if r.kind = 3 then some (t.size : Int) else if r.kind = 4 then Option.map (fun (i : Nat) => (i : Int)) (chO r.choices t) else (if spanB t then some (spanV t) else none) := rfl
  have hbk : Blk (w.alloc (.cells #[.string r.path, .string r.path, .int .i64 r.kind, .int .i64 r.min', .int .i64 r.max', cv, .bool r.must, .string r.default'] 102)) w.heap.size 102 #[.string r.path, .string r.path, .int .i64 r.kind, .int .i64 r.min', .int .i64 r.max', cv, .bool r.must, .string r.default'] := heap_alloc_last w _
  unfold dVal
  obtain ⟨NN, hNN⟩ : ∃ NN, numN r t = NN := ⟨_, rfl⟩
  obtain ⟨FO, hFO⟩ : ∃ FO, formO r t = FO := ⟨_, rfl⟩
  rw [hNN, hFO] at hnn
  rw [hFO] at hfo
  rw [hNN, hFO]
  clear hNN hFO
  obtain ⟨rp, rk, rmi, rma, rc, rm, rd⟩ := r
  dsimp only at hnn hfo hch hbk cI ⊢
  have q2 := hbk.cell 2
  have q5 := hbk.cell 5
  simp at q2 q5
  clear hS hch hbk
  by_cases k1 : rk = 1
  · subst k1
    rw [if_pos rfl] at hfo
    rw [if_neg (by decide)] at hnn
    have hv : numB t = false → numV t = 0 := fun h => by unfold numV; rw [h]; rfl
    obtain ⟨V, hV⟩ : ∃ V, numV t = V := ⟨_, rfl⟩
    obtain ⟨B, hB⟩ : ∃ B, numB t = B := ⟨_, rfl⟩
    rw [hV, hB] at cN hfo hv
    clear hV hB cS cO cI q5
    cases B
    · have hv0 := hv rfl
      rw [if_neg (by simp)] at hfo
      subst hfo
      subst hnn
      subst hv0
      clear hv
      go_enter Tryz.func80, Tryz.ntmps80
      go_wp2_with (go_at_call 97; go_must (refine (cN _).mono ?_; rintro e w2 ⟨rfl, hb2⟩))
      go_ret2
      exact ⟨rfl, good_below (hw1 _) hb2⟩
    · rw [if_pos rfl] at hfo
      subst hfo
      subst hnn
      clear hv
      go_enter Tryz.func80, Tryz.ntmps80
      go_wp2_with (go_at_call 97; go_must (refine (cN _).mono ?_; rintro e w2 ⟨rfl, hb2⟩))
      go_ret2
      exact ⟨rfl, good_below (hw1 _) hb2⟩
  have b1 : ((rk : Int) == 1) = false := by rw [beq_eq_false_iff_ne]; exact k1
  rw [if_neg k1] at hfo
  by_cases k2 : rk = 2
  · subst k2
    rw [if_pos rfl] at hfo
    rw [if_neg (by decide)] at hnn
    unfold yesB noB at hfo
    clear cN cS cI q5
    cases y1 : (t.toList == [121, 101, 115])
    case true =>
      rw [y1, if_pos rfl] at hfo
      subst hfo
      subst hnn
      go_enter Tryz.func80, Tryz.ntmps80
      go_wp2_with (go_at_call 98; go_must (refine (cO _ _).mono ?_; rintro e w2 ⟨rfl, rfl⟩))
      go_ret2
      exact ⟨rfl, hw1 _⟩
    rw [y1, if_neg (by simp)] at hfo
    cases y2 : (t.toList == [110, 111])
    case true =>
      rw [y2, if_pos rfl] at hfo
      subst hfo
      subst hnn
      go_enter Tryz.func80, Tryz.ntmps80
      go_wp2_with (go_at_call 98; go_must (refine (cO _ _).mono ?_; rintro e w2 ⟨rfl, rfl⟩))
      go_ret2
      exact ⟨rfl, hw1 _⟩
    rw [y2, if_neg (by simp)] at hfo
    subst hfo
    subst hnn
    go_enter Tryz.func80, Tryz.ntmps80
    go_wp2_with (go_at_call 98; go_must (refine (cO _ _).mono ?_; rintro e w2 ⟨rfl, rfl⟩))
    go_ret2
    exact ⟨rfl, hw1 _⟩
  have b2 : ((rk : Int) == 2) = false := by rw [beq_eq_false_iff_ne]; exact k2
  rw [if_neg k2] at hfo
  by_cases k3 : rk = 3
  · subst k3
    rw [if_pos rfl] at hfo
    rw [if_neg (by decide)] at hnn
    subst hfo
    subst hnn
    clear cN cS cI q5 cO
    go_enter Tryz.func80, Tryz.ntmps80
    go_wp2_with fail
    go_ret2
    exact ⟨rfl, hw1 _⟩
  have b3 : ((rk : Int) == 3) = false := by rw [beq_eq_false_iff_ne]; exact k3
  rw [if_neg k3] at hfo
  by_cases k4 : rk = 4
  · subst k4
    rw [if_pos rfl] at hfo
    rw [if_pos rfl] at hnn
    obtain ⟨CO, hCO⟩ : ∃ CO, chO rc t = CO := ⟨_, rfl⟩
    rw [hCO] at hfo hnn cI
    clear cN cS cO hCO
    cases CO with
    | none =>
      subst hfo
      subst hnn
      unfold ruleN at cI
      go_enter Tryz.func80, Tryz.ntmps80
      go_wp2_with (go_at_call 99; go_must (refine (cI _).mono ?_; rintro e w2 ⟨rfl, rfl⟩))
      go_ret2
      exact ⟨rfl, hw1 _⟩
    | some i =>
      subst hfo
      subst hnn
      unfold ruleN at cI
      go_enter Tryz.func80, Tryz.ntmps80
      go_wp2_with (go_at_call 99; go_must (refine (cI _).mono ?_; rintro e w2 ⟨rfl, rfl⟩))
      go_ret2
      exact ⟨by simp [ruleN], hw1 _⟩
  have b4 : ((rk : Int) == 4) = false := by rw [beq_eq_false_iff_ne]; exact k4
  rw [if_neg k4] at hfo hnn
  have hv : spanB t = false → spanV t = 0 := fun h => by
    unfold spanB at h
    unfold spanV
    cases hs : spanO t with
    | none => rfl
    | some x => rw [hs] at h; cases h
  obtain ⟨V, hV⟩ : ∃ V, spanV t = V := ⟨_, rfl⟩
  obtain ⟨B, hB⟩ : ∃ B, spanB t = B := ⟨_, rfl⟩
  rw [hV, hB] at cS hfo hv
  clear hV hB cN cO cI q5
  cases B
  · have hv0 := hv rfl
    rw [if_neg (by simp)] at hfo
    subst hfo
    subst hnn
    subst hv0
    clear hv
    go_enter Tryz.func80, Tryz.ntmps80
    go_wp2_with (go_at_call 100; go_must (refine (cS _).mono ?_; rintro e w2 ⟨rfl, hb2⟩))
    go_ret2
    exact ⟨rfl, good_below (hw1 _) hb2⟩
  · rw [if_pos rfl] at hfo
    subst hfo
    subst hnn
    clear hv
    go_enter Tryz.func80, Tryz.ntmps80
    go_wp2_with (go_at_call 100; go_must (refine (cS _).mono ?_; rintro e w2 ⟨rfl, hb2⟩))
    go_ret2
    exact ⟨rfl, good_below (hw1 _) hb2⟩
set_option maxRecDepth 100000 in
set_option maxHeartbeats 4000000 in
theorem implFit {S : Nat → Prop} (r : Rule) (cv : Value) (w : World) (hS : ∀ b, S b → b < w.heap.size) (hch : TxtsAt S w cv r.choices) (t : ByteArray) (ht : t.size ≤ 65536) :
    Calls Tryz.prog 51 #[dVal r cv, .string t] w fun e w' => e = .returned (.tuple #[.int .i64 (fitP r t).1, .int .i64 (fitP r t).2]) ∧ Below w.heap.size w w' := by
  have hw1 : ∀ o, Below w.heap.size w (w.alloc o) := fun o => (Below.refl _ w).alloc (Nat.le_refl _) _
  have cF := fun o => implForm r cv (w.alloc o) (fun b hb => Nat.lt_of_lt_of_le (hS b hb) (hw1 o).size) (hch.keep (cells_below hS (hw1 o))) t ht
  have hbk : Blk (w.alloc (.cells #[.string r.path, .string r.path, .int .i64 r.kind, .int .i64 r.min', .int .i64 r.max', cv, .bool r.must, .string r.default'] 102)) w.heap.size 102 #[.string r.path, .string r.path, .int .i64 r.kind, .int .i64 r.min', .int .i64 r.max', cv, .bool r.must, .string r.default'] := heap_alloc_last w _
  have hfp : fitP r t = fitO (boundB r) r.min' r.max' (formO r t) := rfl
  have hnn : numN r t = if r.kind = 4 then ruleN (chO r.choices t) else (formO r t).getD 0 := rfl
  have hf4 : r.kind = 4 → formO r t = Option.map (fun (i : Nat) => (i : Int)) (chO r.choices t) := fun h => by
    unfold formO
    rw [h]
    rfl
  have hns : ∀ v, formO r t = some v → numN r t = v := fun v hv => by
    rw [hnn]
    by_cases h4 : r.kind = 4
    · rw [if_pos h4]
      rw [hf4 h4] at hv
      cases hc : chO r.choices t with
      | none => rw [hc] at hv; cases hv
      | some i => rw [hc] at hv; cases hv; rfl
    · rw [if_neg h4, hv]; rfl
  have hbb : boundB r = (!(r.kind == 2) && !(r.kind == 4)) := rfl
  unfold dVal at cF ⊢
  obtain ⟨NN, hNN⟩ : ∃ NN, numN r t = NN := ⟨_, rfl⟩
  obtain ⟨FO, hFO⟩ : ∃ FO, formO r t = FO := ⟨_, rfl⟩
  obtain ⟨PV, hPV⟩ : ∃ PV, fitP r t = PV := ⟨_, rfl⟩
  obtain ⟨BB, hBB⟩ : ∃ BB, boundB r = BB := ⟨_, rfl⟩
  rw [hNN, hFO] at cF
  rw [hPV, hFO, hBB] at hfp
  rw [hNN, hFO] at hns
  rw [hBB] at hbb
  rw [hPV]
  clear hNN hFO hPV hBB hnn hf4
  obtain ⟨rp, rk, rmi, rma, rc, rm, rd⟩ := r
  dsimp only at hfp hns hbb hch hbk cF ⊢
  have HBB : Hid (BB = (!(rk == 2) && !(rk == 4))) := hbb
  have HFP : Hid (PV = fitO BB rmi rma FO) := hfp
  have HNS : Hid (∀ v, FO = some v → NN = v) := hns
  have q0 := hbk.cell 0
  have q1 := hbk.cell 1
  have q2 := hbk.cell 2
  have q3 := hbk.cell 3
  have q4 := hbk.cell 4
  have q5 := hbk.cell 5
  have q6 := hbk.cell 6
  have q7 := hbk.cell 7
  simp at q0 q1 q2 q3 q4 q5 q6 q7
  have hkp : ∀ w2, Below (w.alloc (.cells #[.string rp, .string rp, .int .i64 rk, .int .i64 rmi, .int .i64 rma, cv, .bool rm, .string rd] 102)).heap.size (w.alloc (.cells #[.string rp, .string rp, .int .i64 rk, .int .i64 rmi, .int .i64 rma, cv, .bool rm, .string rd] 102)) w2 → w2.cell? ⟨w.heap.size, 2, none⟩ = some (.int .i64 rk) ∧ w2.cell? ⟨w.heap.size, 3, none⟩ = some (.int .i64 rmi) ∧ w2.cell? ⟨w.heap.size, 4, none⟩ = some (.int .i64 rma) := fun w2 hb2 => by
    have h := Blk.below hbk hb2
    exact ⟨h.cell 2, h.cell 3, h.cell 4⟩
  have HKP : Hid (∀ w2, Below (w.alloc (.cells #[.string rp, .string rp, .int .i64 rk, .int .i64 rmi, .int .i64 rma, cv, .bool rm, .string rd] 102)).heap.size (w.alloc (.cells #[.string rp, .string rp, .int .i64 rk, .int .i64 rmi, .int .i64 rma, cv, .bool rm, .string rd] 102)) w2 → w2.cell? ⟨w.heap.size, 2, none⟩ = some (.int .i64 rk) ∧ w2.cell? ⟨w.heap.size, 3, none⟩ = some (.int .i64 rmi) ∧ w2.cell? ⟨w.heap.size, 4, none⟩ = some (.int .i64 rma)) := hkp
  have cB := fun w => implBtw NN rmi rma w
  obtain ⟨BT, hBT⟩ : ∃ BT, (decide (rmi ≤ NN) && decide (NN ≤ rma)) = BT := ⟨_, rfl⟩
  rw [hBT] at cB
  have HBT : Hid ((decide (rmi ≤ NN) && decide (NN ≤ rma)) = BT) := hBT
  clear hS hch hbk hkp hfp hns hbb hBT
  have hk2 : rk = 2 ∨ ((rk == 2) = false ∧ (rk != 2) = true) := by
    by_cases h : rk = 2
    · exact .inl h
    · exact .inr ⟨by rw [beq_eq_false_iff_ne]; exact h, by simpa using h⟩
  have hk4 : rk = 4 ∨ ((rk == 4) = false ∧ (rk != 4) = true) := by
    by_cases h : rk = 4
    · exact .inl h
    · exact .inr ⟨by rw [beq_eq_false_iff_ne]; exact h, by simpa using h⟩
  cases FO with
  | none =>
    have hp := HFP.out
    rw [fitO_none] at hp
    subst hp
    rcases hk2 with rfl | ⟨k2, n2⟩
    · go_enter Tryz.func51, Tryz.ntmps51
      go_wp2_with (first | (go_at_call 80; go_must (refine (cF _).mono ?_; rintro e w2 ⟨rfl, hb2⟩; have p2 := (HKP.out _ hb2).1; have p3 := (HKP.out _ hb2).2.1; have p4 := (HKP.out _ hb2).2.2)) | (go_at_call 81; go_must (refine (cB _).mono ?_; rintro e w3 ⟨rfl, rfl⟩)))
      go_ret2
      exact ⟨rfl, good_below (hw1 _) hb2⟩
    · rcases hk4 with rfl | ⟨k4, n4⟩
      · go_enter Tryz.func51, Tryz.ntmps51
        go_wp2_with (first | (go_at_call 80; go_must (refine (cF _).mono ?_; rintro e w2 ⟨rfl, hb2⟩; have p2 := (HKP.out _ hb2).1; have p3 := (HKP.out _ hb2).2.1; have p4 := (HKP.out _ hb2).2.2)) | (go_at_call 81; go_must (refine (cB _).mono ?_; rintro e w3 ⟨rfl, rfl⟩)))
        go_ret2
        exact ⟨rfl, good_below (hw1 _) hb2⟩
      · go_enter Tryz.func51, Tryz.ntmps51
        go_wp2_with (first | (go_at_call 80; go_must (refine (cF _).mono ?_; rintro e w2 ⟨rfl, hb2⟩; have p2 := (HKP.out _ hb2).1; have p3 := (HKP.out _ hb2).2.1; have p4 := (HKP.out _ hb2).2.2)) | (go_at_call 81; go_must (refine (cB _).mono ?_; rintro e w3 ⟨rfl, rfl⟩)))
        go_ret2
        exact ⟨rfl, good_below (hw1 _) hb2⟩
  | some v =>
    have hv := HNS.out v rfl
    subst hv
    have hp := HFP.out
    rw [fitO_some] at hp
    rcases hk2 with rfl | ⟨k2, n2⟩
    · have hb : BB = false := by rw [HBB.out]; rfl
      rw [hb, Bool.false_and, if_neg (by simp)] at hp
      subst hp
      go_enter Tryz.func51, Tryz.ntmps51
      go_wp2_with (first | (go_at_call 80; go_must (refine (cF _).mono ?_; rintro e w2 ⟨rfl, hb2⟩; have p2 := (HKP.out _ hb2).1; have p3 := (HKP.out _ hb2).2.1; have p4 := (HKP.out _ hb2).2.2)) | (go_at_call 81; go_must (refine (cB _).mono ?_; rintro e w3 ⟨rfl, rfl⟩)))
      go_ret2
      exact ⟨rfl, good_below (hw1 _) hb2⟩
    rcases hk4 with rfl | ⟨k4, n4⟩
    · have hb : BB = false := by rw [HBB.out]; simp
      rw [hb, Bool.false_and, if_neg (by simp)] at hp
      subst hp
      go_enter Tryz.func51, Tryz.ntmps51
      go_wp2_with (first | (go_at_call 80; go_must (refine (cF _).mono ?_; rintro e w2 ⟨rfl, hb2⟩; have p2 := (HKP.out _ hb2).1; have p3 := (HKP.out _ hb2).2.1; have p4 := (HKP.out _ hb2).2.2)) | (go_at_call 81; go_must (refine (cB _).mono ?_; rintro e w3 ⟨rfl, rfl⟩)))
      go_ret2
      exact ⟨rfl, good_below (hw1 _) hb2⟩
    have hb : BB = true := by rw [HBB.out, k2, k4]; rfl
    rw [hb, Bool.true_and] at hp
    have hbt : (decide (NN < rmi) || decide (rma < NN)) = !BT := by
      rw [← HBT.out, Bool.eq_iff_iff]
      simp only [Bool.or_eq_true, decide_eq_true_eq, Bool.not_eq_true', Bool.and_eq_false_iff, decide_eq_false_iff_not]
      omega
    rw [hbt] at hp
    clear hb hbt
    cases BT
    · rw [if_pos (by rfl)] at hp
      subst hp
      go_enter Tryz.func51, Tryz.ntmps51
      go_wp2_with (first | (go_at_call 80; go_must (refine (cF _).mono ?_; rintro e w2 ⟨rfl, hb2⟩; have p2 := (HKP.out _ hb2).1; have p3 := (HKP.out _ hb2).2.1; have p4 := (HKP.out _ hb2).2.2)) | (go_at_call 81; go_must (refine (cB _).mono ?_; rintro e w3 ⟨rfl, rfl⟩)))
      go_ret2
      exact ⟨rfl, good_below (hw1 _) hb2⟩
    · rw [if_neg (by simp)] at hp
      subst hp
      go_enter Tryz.func51, Tryz.ntmps51
      go_wp2_with (first | (go_at_call 80; go_must (refine (cF _).mono ?_; rintro e w2 ⟨rfl, hb2⟩; have p2 := (HKP.out _ hb2).1; have p3 := (HKP.out _ hb2).2.1; have p4 := (HKP.out _ hb2).2.2)) | (go_at_call 81; go_must (refine (cB _).mono ?_; rintro e w3 ⟨rfl, rfl⟩)))
      go_ret2
      exact ⟨rfl, good_below (hw1 _) hb2⟩
end Go.Proofs.YtphocibgfdihoaaGreatDoor
