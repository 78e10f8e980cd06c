/-
  What Watch's helpers in impl answer: the longest of three, a path within one of a row, a map copied and laid over. No statement of the seat is proved here.
-/
import Derived.Test.YtoopdcbgnccmiaaGreatDoorY1
import Derived.Test.YtoopdcbgnccmiaaGreatDoorI10
import Derived.Test.YtoopdcbgnccmiaaGreatDoorShelf3
namespace Go.Proofs.YtoopdcbgnccmiaaGreatDoor
open Go.ChangeShapes Go.WideShapes Go.ChangeAt Go.RowKit Go.Maps
set_option linter.unusedVariables false

set_option maxRecDepth 100000 in
theorem implMax3 (a b c : Int) (g : Nat) (w : World) (h0 : w.cell? ⟨g, 0, none⟩ = some (.int .i64 a)) (h1 : w.cell? ⟨g, 1, none⟩ = some (.int .i64 b)) (h2 : w.cell? ⟨g, 2, none⟩ = some (.int .i64 c)) : Calls Tryz.prog 95 #[.slice (some ⟨g, 0, none⟩) 3 3] w fun e w' => (∃ m : Int, e = .returned (.int .i64 m) ∧ decide (4096 < m) = (decide (4096 < a) || decide (4096 < b) || decide (4096 < c))) ∧ w' = w := by
  go_enter Tryz.func95, Tryz.ntmps95
  go_wp2
  refine wp_loop_rounds 3 ?_
  rw [rounds_succ]
  go_wp2
  rw [rounds_succ]
  go_wp2
  rw [rounds_succ]
  go_wp2
  go_ret
  refine ⟨⟨_, rfl, ?_⟩, rfl⟩
  rw [Bool.eq_iff_iff]
  simp only [decide_eq_true_eq, Bool.or_eq_true]
  omega
set_option maxRecDepth 100000 in
theorem implLong3 (a b c : Int) (g : Nat) (w : World) (h0 : w.cell? ⟨g, 0, none⟩ = some (.int .i64 a)) (h1 : w.cell? ⟨g, 1, none⟩ = some (.int .i64 b)) (h2 : w.cell? ⟨g, 2, none⟩ = some (.int .i64 c)) : Calls Tryz.prog 63 #[.slice (some ⟨g, 0, none⟩) 3 3] w fun e w' => e = .returned (.bool (decide (4096 < a) || decide (4096 < b) || decide (4096 < c))) ∧ w' = w := by
  have cm := implMax3 a b c g w h0 h1 h2
  go_enter Tryz.func63, Tryz.ntmps63
  go_wp2_with (go_at_call 95; go_must (refine cm.mono ?_; rintro e w1 ⟨⟨m, rfl, hm⟩, rfl⟩))
  go_ret
  exact ⟨rfl, rfl⟩
theorem three_new (w : World) (a b c : Int) (g : Nat) (hg : g = w.heap.size) : (w.alloc (.cells #[.int .i64 a, .int .i64 b, .int .i64 c] 3)).cell? ⟨g, 0, none⟩ = some (.int .i64 a) ∧ (w.alloc (.cells #[.int .i64 a, .int .i64 b, .int .i64 c] 3)).cell? ⟨g, 1, none⟩ = some (.int .i64 b) ∧ (w.alloc (.cells #[.int .i64 a, .int .i64 b, .int .i64 c] 3)).cell? ⟨g, 2, none⟩ = some (.int .i64 c) := by
  subst hg
  have h : Blk (w.alloc (.cells #[.int .i64 a, .int .i64 b, .int .i64 c] 3)) w.heap.size 3 #[.int .i64 a, .int .i64 b, .int .i64 c] := heap_alloc_last w _
  exact ⟨h.cell 0, h.cell 1, h.cell 2⟩
set_option maxRecDepth 100000 in
theorem implCloneT (s : ByteArray) (hz : s.size ≤ 1048576) (w : World) : Calls Tryz.prog 59 #[.string s] w fun e w' => e = .returned (.string s) ∧ Below w.heap.size w w' := by
  have c := Tryz.stringslite_Clone s w (by omega)
  go_enter Tryz.func59, Tryz.ntmps59
  go_wp2_with (go_at_call 93; go_must (refine c.mono ?_; rintro e w1 ⟨rfl, hb1⟩))
  go_ret
  exact ⟨rfl, hb1⟩
/-- q is one that p is within. -/
def inB (p q : ByteArray) : Bool := withinB p q
set_option maxRecDepth 100000 in
set_option maxHeartbeats 1000000 in
theorem implIndexW (p : ByteArray) (hp : p.size ≤ 1048576) (ss : List ByteArray) (a : Option Addr) (cap : Nat) (w : World) (hlen : ss.length ≤ 1000000) (hz : ∀ s ∈ ss, s.size ≤ 1048576) (hc : 0 < ss.length → ∃ g o, a = some ⟨g, o, none⟩ ∧ g < w.heap.size ∧ ∀ j (hj : j < ss.length), w.cell? ⟨g, o + j, none⟩ = some (.string ss[j])) :
    Calls Tryz.prog 108 #[.slice a ss.length cap, .func (.func 71) #[.agg #[.string p]] #[]] w fun e w' => (∃ r : Int, e = .returned (.int .i64 r) ∧ decide (0 ≤ r) = ss.any (inB p)) ∧ Below w.heap.size w w' := by
  have HC : Hid (0 < ss.length → ∃ g o, a = some ⟨g, o, none⟩ ∧ g < w.heap.size ∧ ∀ j (hj : j < ss.length), w.cell? ⟨g, o + j, none⟩ = some (.string ss[j])) := hc
  have HZ : Hid (∀ s ∈ ss, s.size ≤ 1048576) := hz
  have hlen' : (ss.length : Int) ≤ 1000000 := by omega
  clear hc hz
  go_enter Tryz.func108, Tryz.ntmps108
  go_wp2_with fail
  go_loopw [8] (fun i8 wr => ∃ (k : Nat), i8 = .int .i64 (k : Int) ∧ k ≤ ss.length ∧ (ss.take k).any (inB p) = false ∧ Below w.heap.size w wr) (fun i8 _ => ss.length - (intOf i8).toNat)
  case atStart => exact ⟨0, rfl, by omega, by simp, Below.refl _ _⟩
  case round =>
    obtain ⟨k, rfl, hk, hany, hb⟩ := hrel
    have HA : Hid ((ss.take k).any (inB p) = false) := hany
    clear hany
    by_cases hkn : k < ss.length
    · have hkn' : (k : Int) < (ss.length : Int) := by omega
      obtain ⟨g, o, rfl, hg, hcell⟩ := HC.out (by omega)
      have x1 := hcell k hkn
      have z1 := HZ.out ss[k] (List.getElem_mem hkn)
      obtain ⟨x, hx⟩ : ∃ x, ss[k] = x := ⟨_, rfl⟩
      have HX : Hid (ss[k] = x) := hx
      rw [hx] at x1 z1
      clear hx hcell
      have d1 := (hb.cell (p := ⟨g, o + k, none⟩) hg).trans x1
      have cn := implWithin p x hp z1 wr
      obtain ⟨B1, hB1⟩ : ∃ B1, inB p x = B1 := ⟨_, rfl⟩
      change Calls _ _ _ _ (fun e w' => e = .returned (.bool (inB p x)) ∧ _) at cn
      rw [hB1] at cn
      have HB1 : Hid (inB p x = B1) := hB1
      clear hB1
      cases B1
      · go_wp2_with (go_at_call 71; go_must (refine cn.mono ?_; rintro e w1 ⟨rfl, hb1⟩))
        exact ⟨⟨k + 1, rfl, by omega, any_takeW ss _ k hkn HA.out (by rw [HX.out]; exact HB1.out), good_below hb hb1⟩, by simp [intOf]; omega⟩
      · go_wp2_with (go_at_call 71; go_must (refine cn.mono ?_; rintro e w1 ⟨rfl, hb1⟩))
        go_ret
        refine ⟨⟨_, rfl, ?_⟩, good_below hb hb1⟩
        rw [List.any_eq_true.2 ⟨ss[k], List.getElem_mem hkn, by rw [HX.out]; exact HB1.out⟩]
        simp
    · have hkn' : ¬ ((k : Int) < (ss.length : Int)) := by omega
      have hA := HA.out
      rw [List.take_of_length_le (by omega)] at hA
      go_wp2_with fail
      go_ret
      refine ⟨⟨_, rfl, ?_⟩, hb⟩
      first
        | (rw [hA]; rfl)
        | omega
set_option maxRecDepth 100000 in
theorem implContainsW (p : ByteArray) (hp : p.size ≤ 1048576) (ss : List ByteArray) (a : Option Addr) (cap : Nat) (w : World) (hlen : ss.length ≤ 1000000) (hz : ∀ s ∈ ss, s.size ≤ 1048576) (hc : 0 < ss.length → ∃ g o, a = some ⟨g, o, none⟩ ∧ g < w.heap.size ∧ ∀ j (hj : j < ss.length), w.cell? ⟨g, o + j, none⟩ = some (.string ss[j])) :
    Calls Tryz.prog 70 #[.slice a ss.length cap, .func (.func 71) #[.agg #[.string p]] #[]] w fun e w' => e = .returned (.bool (seenB ss p)) ∧ Below w.heap.size w w' := by
  have c := implIndexW p hp ss a cap w hlen hz hc
  clear hc hz
  go_enter Tryz.func70, Tryz.ntmps70
  go_wp2_with (go_at_call 108; go_must (refine c.mono ?_; rintro e w1 ⟨⟨r, rfl, hr⟩, hb1⟩))
  go_ret
  refine ⟨congrArg (fun b => Ending.returned (Value.bool b)) ?_, hb1⟩
  rfl
/-- What a path's entry in a map of settings reads as. -/
def setOf (l : List Setting) (p : ByteArray) : Setting := match lookS l p with
  | some s => s
  | none => ⟨⟨#[]⟩, ⟨#[]⟩, ⟨#[]⟩⟩
theorem setOf_text (l : List Setting) (p : ByteArray) : (setOf l p).text = textOf l p := by
  unfold setOf textOf
  cases lookS l p <;> rfl
theorem MapS.look {w : World} {b n : Nat} {out : List Setting} (h : MapS w b n out) {p : ByteArray} (hp : p.size ≤ 1048576) :
    (Instr.lookup 92 (.map (some b)) (.string p) false).run Tryz.prog w = .ok (.agg #[.string (setOf out p).path, .string (textOf out p), .string (setOf out p).from']) w := by
  obtain ⟨D, f, hown, hrep, hof⟩ := h
  have hkey : keyOf Tryz.prog 9 (.string p) = some (textKey p) := key9 (by simp [maxLen]; omega)
  obtain ⟨v, ps, hrun, hRv⟩ := hown.lookup law9 Tryz.underlying92 (Tryz.zeroValue105 w) (heldS_mk ⟨⟨#[]⟩, ⟨#[]⟩, ⟨#[]⟩⟩) hkey
  obtain ⟨s, rfl, hs⟩ := heldS_inv hRv
  simp only [Prod.mk.injEq] at hs
  have hsl := lookS_is hof p
  have : setOf out p = s := by
    unfold setOf
    rw [hsl]
    cases hf : f p with
    | none =>
      rw [atKey_of_not_has ((hrep p).2 hf)] at hs
      exact sVal_inj (DataW.held.inj hs.1)
    | some t =>
      rw [(hrep p).1 t hf] at hs
      exact sVal_inj (DataW.held.inj hs.1)
  rw [← setOf_text, this]
  exact hrun
theorem implCloneM {w : World} {b n : Nat} {out : List Setting} (h : MapS w b n out) : Calls Tryz.prog 67 #[.map (some b)] w fun e w' => e = .returned (.map (some w.heap.size)) ∧ MapS w' w.heap.size n out ∧ Below w.heap.size w w' := by
  obtain ⟨D, f, hown, hr⟩ := h
  have := AnyW.maps_Clone_owns Tryz.cloneM 9 heldS b n D w hown
  change Calls Tryz.prog 67 _ _ _ at this
  exact this.mono fun e w' ⟨h1, h2, _, h4⟩ => ⟨h1, ⟨D, f, h2, hr⟩, h4⟩
/-- What has been laid over so far. -/
def overS (Ds : DataW Value) (fd fs : ByteArray → Option Setting) (left : Lit → Bool) (p : ByteArray) : Option Setting := if has Ds (textKey p) && !left (textKey p) then fs p else fd p
theorem overS_start {D Ds : DataW Value} {fd fs : ByteArray → Option Setting} (h : Rep D fd) : Rep D (overS Ds fd fs (has Ds)) :=
  h.congr (fun p => by unfold overS; cases has Ds (textKey p) <;> rfl)
theorem overS_step {D Ds : DataW Value} {fd fs : ByteArray → Option Setting} {left : Lit → Bool} {x : ByteArray} {c : Setting} (h : Rep D (overS Ds fd fs left)) (hm : IsMap D) (hs : Rep Ds fs) (hat : ∀ z, Ds.atKey (textKey x) z = .held (sVal c)) :
    Rep (D.put (textKey x) (.held (sVal c))) (overS Ds fd fs (fun z => left z && !z.sameKey (textKey x))) := by
  refine (h.put hm x c).congr (fun p => ?_)
  by_cases e : p = x
  · subst e
    simp only [if_true]
    unfold overS
    rw [has_true_of_atKey hat, hs.some hat]
    simp [same_text]
  · simp only [if_neg e]
    unfold overS
    simp [same_text, e]
theorem overS_end {D Ds : DataW Value} {a b : List Setting} {fd fs : ByteArray → Option Setting} {left : Lit → Bool} (h : Rep D (overS Ds fd fs left)) (hl : ∀ k, left k = false) (hs : Rep Ds fs) (ha : IsOf fd a) (hb : IsOf fs b) : Rep D (eitherS a b) := by
  refine h.congr (fun p => ?_)
  unfold overS eitherS
  rw [hl, hs.has, lookS_is ha, lookS_is hb]
  cases fs p <;> rfl
set_option maxRecDepth 100000 in
set_option maxHeartbeats 4000000 in
theorem implCopy {w : World} {bd bs nd ns : Nat} {a b : List Setting} (h : MapS w bd nd a) (h2 : MapS w bs ns b) (hne : bd ≠ bs) (ha : SRises a) (hb : SRises b) (hn : nd + ns ≤ 100000) (hps : ∀ o ∈ b, o.path.size ≤ 1048576) :
    Calls Tryz.prog 68 #[.map (some bd), .map (some bs)] w fun e w' => e = .returned (.tuple #[]) ∧ MapS w' bd (nd + ns) (unionS a b) ∧ w.grownBy w' (some bd) := by
  have hltd := h.lt
  have hlts := h2.lt
  obtain ⟨D0, fd, hown, hrep, hof⟩ := h
  obtain ⟨Ds, fs, howns, hreps, hofs⟩ := h2
  have hsize := howns.size_le
  have HST : Hid (Rep D0 (overS Ds fd fs (has Ds))) := overS_start hrep
  have HOFD : Hid (IsOf fd a) := hof
  have HOFS : Hid (IsOf fs b) := hofs
  have HRS : Hid (Rep Ds fs) := hreps
  have HUN : Hid (IsOf (eitherS a b) (unionS a b)) := union_of ha hb
  have HOD : Hid (w.ownsMap Tryz.prog 9 heldS bd nd D0) := hown
  clear hrep hof hofs hreps ha hb hown
  go_enter Tryz.func68, Tryz.ntmps68
  go_wp2_with (first
    | (at_range; refine wpList_range_own _ rfl _ 92 rfl 9 105 law9 Tryz.underlying92 _ bs ns _ rfl howns ?_; intro w1 hrg0 hg0 hs0)
    | go_in)
  go_frame
  go_loopw [4] (fun _ wr => ∃ (left : Lit → Bool) (cnt m : Nat) (D : DataW Value), wr.ranges Tryz.prog 9 heldS bs w.heap.size ns Ds left cnt ∧ wr.ownsMap Tryz.prog 9 heldS bd (nd + m) D ∧ m + cnt ≤ ns ∧ Rep D (overS Ds fd fs left) ∧ w.grownBy wr (some bd)) (fun _ wr => wr.rangeLeft bs w.heap.size)
  case atStart => exact ⟨_, _, 0, _, hrg0, HOD.out.kept hg0 (by simp), by omega, HST.out, hg0.but _⟩
  case round =>
    obtain ⟨left, cnt, m, D, hrg, hod, hmc, hrp, hgw⟩ := hrel
    have HRP : Hid (Rep D (overS Ds fd fs left)) := hrp
    have HGW : Hid (w.grownBy wr (some bd)) := hgw
    have HOW : Hid (wr.ownsMap Tryz.prog 9 heldS bd (nd + m) D) := hod
    clear hrp hgw hg0 hrg0 hod
    go_wp2_with (first
      | (at_next; refine wpList_nextS _ rfl _ rfl bs w.heap.size ns _ _ _ rfl hrg ?_ ?_)
      | go_in)
    · intro _ hl0
      go_wp2_with fail
      go_end0
      exact ⟨rfl, ⟨_, _, HOW.out.mono (by omega), overS_end HRP.out hl0 HRS.out HOFD.out HOFS.out, HUN.out⟩, HGW.out⟩
    · intro x cp ct cf w2 cnt1 hlx hat hkey hrg1 hlt1 hg1 hs1 hen
      have hod2 := (HOW.out.kept hg1 (by simp; omega)).alloc (.cells #[.string cp, .string ct, .string cf] 105)
      have HRP2 := overS_step HRP.out HOW.out.isMap HRS.out hat
      have HG1 : Hid (w.grownBy w2 (some bd)) := HGW.out.andThen hg1 (fun j hj => by cases hj; exact .inl (Nat.le_refl _))
      have HRG1 : Hid (w2.ranges Tryz.prog 9 heldS bs w.heap.size ns Ds (fun z => left z && !z.sameKey (textKey x)) cnt1) := hrg1
      clear hat hrg1 hs1
      go_wp2_with (first
        | (at_mapUpdate; go_must (refine wpList_mapUpdate_own _ rfl _ _ _ 92 rfl 9 105 law9 Tryz.underlying92 _ bd (nd + m) _ rfl hod2 (by simp [maxLen]; omega) _ _ (textKey x) rfl rfl hkey (.held (sVal ⟨cp, ct, cf⟩)) [] (heldS_mk ⟨cp, ct, cf⟩) ?_; intro w3 hown3 hg3; go_frame)))
      have hrg3 := (HRG1.out.alloc (.cells #[.string cp, .string ct, .string cf] 105)).kept hg3 (by simp; omega) (by simp; omega)
      go_roundw
      case rel =>
        refine ⟨_, cnt1, m + 1, _, hrg3, hown3, by omega, HRP2, ?_⟩
        exact (HG1.out.andThen (World.grownBy_alloc w2 _ none) (fun j hj => by cases hj)).andThen hg3 (fun j hj => .inr hj)
      case measure => rw [hrg3.left_eq, hrg.left_eq]; exact hlt1
set_option maxRecDepth 100000 in
set_option maxHeartbeats 1000000 in
theorem implIndexPO (ss : List ByteArray) (a : Option Addr) (cap : Nat) (w : World) (hlen : ss.length ≤ 1000000) (hz : ∀ s ∈ ss, s.size ≤ 1048576) (hc : 0 < ss.length → ∃ g o, a = some ⟨g, o, none⟩ ∧ g < w.heap.size ∧ ∀ j (hj : j < ss.length), w.cell? ⟨g, o + j, none⟩ = some (.string ss[j])) (hT : Lib.Utf8Tabs 1 2 w) :
    Calls Tryz.prog 108 #[.slice a ss.length cap, .func (.func 97) #[] #[]] w fun e w' => (∃ r : Int, e = .returned (.int .i64 r) ∧ decide (0 ≤ r) = ss.any noPath) ∧ Below w.heap.size w w' := by
  have HC : Hid (0 < ss.length → ∃ g o, a = some ⟨g, o, none⟩ ∧ g < w.heap.size ∧ ∀ j (hj : j < ss.length), w.cell? ⟨g, o + j, none⟩ = some (.string ss[j])) := hc
  have HZ : Hid (∀ s ∈ ss, s.size ≤ 1048576) := hz
  have HT : Hid (Lib.Utf8Tabs 1 2 w) := hT
  have hlen' : (ss.length : Int) ≤ 1000000 := by omega
  clear hc hT hz
  go_enter Tryz.func108, Tryz.ntmps108
  go_wp2_with fail
  go_loopw [8] (fun i8 wr => ∃ (k : Nat), i8 = .int .i64 (k : Int) ∧ k ≤ ss.length ∧ (ss.take k).any noPath = false ∧ Below w.heap.size w wr) (fun i8 _ => ss.length - (intOf i8).toNat)
  case atStart => exact ⟨0, rfl, by omega, by simp, Below.refl _ _⟩
  case round =>
    obtain ⟨k, rfl, hk, hany, hb⟩ := hrel
    have HA : Hid ((ss.take k).any noPath = false) := hany
    clear hany
    by_cases hkn : k < ss.length
    · have hkn' : (k : Int) < (ss.length : Int) := by omega
      obtain ⟨g, o, rfl, hg, hcell⟩ := HC.out (by omega)
      have x1 := hcell k hkn
      have z1 := HZ.out ss[k] (List.getElem_mem hkn)
      obtain ⟨x, hx⟩ : ∃ x, ss[k] = x := ⟨_, rfl⟩
      have HX : Hid (ss[k] = x) := hx
      rw [hx] at x1 z1
      clear hx hcell
      have d1 := (hb.cell (p := ⟨g, o + k, none⟩) hg).trans x1
      have cn := implNoPath x z1 wr (Utf8Tabs_below HT.out hb)
      obtain ⟨B1, hB1⟩ : ∃ B1, noPath x = B1 := ⟨_, rfl⟩
      rw [hB1] at cn
      have HB1 : Hid (noPath x = B1) := hB1
      clear hB1
      cases B1
      · go_wp2_with (go_at_call 97; go_must (refine cn.mono ?_; rintro e w1 ⟨rfl, hb1⟩))
        exact ⟨⟨k + 1, rfl, by omega, any_takeW ss _ k hkn HA.out (by rw [HX.out]; exact HB1.out), good_below hb hb1⟩, by simp [intOf]; omega⟩
      · go_wp2_with (go_at_call 97; go_must (refine cn.mono ?_; rintro e w1 ⟨rfl, hb1⟩))
        go_ret
        refine ⟨⟨_, rfl, ?_⟩, good_below hb hb1⟩
        rw [List.any_eq_true.2 ⟨ss[k], List.getElem_mem hkn, by rw [HX.out]; exact HB1.out⟩]
        simp
    · have hkn' : ¬ ((k : Int) < (ss.length : Int)) := by omega
      have hA := HA.out
      rw [List.take_of_length_le (by omega)] at hA
      go_wp2_with fail
      go_ret
      refine ⟨⟨_, rfl, ?_⟩, hb⟩
      first
        | (rw [hA]; rfl)
        | omega
set_option maxRecDepth 100000 in
theorem implContainsPO (ss : List ByteArray) (a : Option Addr) (cap : Nat) (w : World) (hlen : ss.length ≤ 1000000) (hz : ∀ s ∈ ss, s.size ≤ 1048576) (hc : 0 < ss.length → ∃ g o, a = some ⟨g, o, none⟩ ∧ g < w.heap.size ∧ ∀ j (hj : j < ss.length), w.cell? ⟨g, o + j, none⟩ = some (.string ss[j])) (hT : Lib.Utf8Tabs 1 2 w) :
    Calls Tryz.prog 70 #[.slice a ss.length cap, .func (.func 97) #[] #[]] w fun e w' => e = .returned (.bool (ss.any noPath)) ∧ Below w.heap.size w w' := by
  have c := implIndexPO ss a cap w hlen hz hc hT
  clear hc hT hz
  go_enter Tryz.func70, Tryz.ntmps70
  go_wp2_with (go_at_call 108; go_must (refine c.mono ?_; rintro e w1 ⟨⟨r, rfl, hr⟩, hb1⟩))
  go_ret
  refine ⟨congrArg (fun b => Ending.returned (Value.bool b)) ?_, hb1⟩
  rw [← hr]

set_option maxRecDepth 100000 in
theorem implPathsO (ss : List ByteArray) (a : Option Addr) (cap : Nat) (w : World) (hlen : ss.length ≤ 1000000) (hz : ∀ s ∈ ss, s.size ≤ 1048576) (hc : 0 < ss.length → ∃ g o, a = some ⟨g, o, none⟩ ∧ g < w.heap.size ∧ ∀ j (hj : j < ss.length), w.cell? ⟨g, o + j, none⟩ = some (.string ss[j])) (hT : Lib.Utf8Tabs 1 2 w) :
    Calls Tryz.prog 65 #[.slice a ss.length cap] w fun e w' => e = .returned (.bool (ss.all (pathB nameOK))) ∧ Below w.heap.size w w' := by
  have c := implContainsPO ss a cap w hlen hz hc hT
  have hn : ss.all (pathB nameOK) = !(ss.any noPath) := by rw [List.all_eq_not_any_not]; rfl
  rw [hn]
  obtain ⟨b, hb⟩ : ∃ b, ss.any noPath = b := ⟨_, rfl⟩
  rw [hb] at c ⊢
  clear hb hn hT hc hz
  go_enter Tryz.func65, Tryz.ntmps65
  go_wp2_with (go_at_call 70; go_must (refine c.mono ?_; rintro e w1 ⟨rfl, hb1⟩))
  go_ret
  exact ⟨by simp, hb1⟩

/-- Settings whose texts are of some length. -/
def Fair (out : List Setting) : Prop := ∀ o ∈ out, o.path.size ≤ 1048576 ∧ o.text.size ≤ 1048576 ∧ o.from'.size ≤ 1048576
theorem laySteps_fair (nm : ByteArray) (hn : nm.size ≤ 1048576) : ∀ (es : List Entry) (out : List Setting), (∀ e ∈ es, EntrysOK 1048576 e) → Fair out → Fair (es.foldl (layStep nm) out)
  | [], out, _, h => h
  | e :: es, out, he, h => by
    rw [List.foldl_cons]
    refine laySteps_fair nm hn es _ (fun y hy => he y (List.mem_cons_of_mem _ hy)) ?_
    have h1 := he e (List.mem_cons_self ..)
    unfold EntrysOK at h1
    exact layStep_mem (P := fun o => o.path.size ≤ 1048576 ∧ o.text.size ≤ 1048576 ∧ o.from'.size ≤ 1048576) h ⟨by have := h1.1; simp [newS]; omega, by have := h1.2; simp [newS]; omega, hn⟩
theorem laidFold_fair : ∀ (l : List Layer) (out : List Setting), (∀ x ∈ l, LayersOK 1048576 x) → Fair out → Fair (l.foldl layLayer out)
  | [], out, _, h => h
  | x :: l, out, hx, h => by
    rw [List.foldl_cons]
    refine laidFold_fair l _ (fun y hy => hx y (List.mem_cons_of_mem _ hy)) ?_
    have h1 := hx x (List.mem_cons_self ..)
    unfold LayersOK at h1
    exact laySteps_fair x.name (by have := h1.1; omega) x.entries out h1.2.2 h
theorem laid_fair {l : List Layer} (hok : ∀ x ∈ l, LayersOK 1048576 x) : Fair (laidF (overP l)) := laidFold_fair (overP l) [] (fun x hx => hok x (overP_mem hx)) (fun o ho => by cases ho)
theorem textOf_fair {l : List Setting} (h : Fair l) (p : ByteArray) : (textOf l p).size ≤ 1048576 := by
  unfold textOf
  cases hl : lookS l p with
  | none => exact Nat.zero_le _
  | some s => exact (h s (look_path hl).2).2.1
/-- What impl's mergedOf makes of right layers. -/
theorem implMergedR {S : Nat → Prop} {l : List Layer} {v : Value} {w : World} (hS : ∀ b, S b → b < w.heap.size) (h : LayersAt S w v l) (hB : layersB nameOK l = true) :
    Calls Tryz.prog 66 #[v] w fun e w' => (∃ b n, e = .returned (.map (some b)) ∧ MapS w' b n (laidF (overP l)) ∧ w.heap.size ≤ b ∧ n ≤ 2000) ∧ Below w.heap.size w w' := by
  obtain ⟨f1, f2, f3⟩ := layers_fine hB
  obtain ⟨lv, hlv, hat, hen⟩ := layers_lv h
  have hone : LayVsOne lv := fun y hy => by
    obtain ⟨ya, yc, hq⟩ := (hen y hy).shape
    rw [hq]; rfl
  have hsl : Slices lv := fun y hy => by
    obtain ⟨ya, yc, hq⟩ := (hen y hy).shape
    exact ⟨ya, _, yc, hq⟩
  have hsm : ∀ y ∈ lv, LaySm S w y := fun y hy => by
    have := f3 y.x (by rw [← hlv]; exact List.mem_map.2 ⟨y, hy, rfl⟩)
    exact ⟨hen y hy, this.1, this.2⟩
  have hnm : Named lv := by
    rw [← hlv, List.map_map, List.pairwise_map] at f2
    exact f2
  have hl20 : lv.length ≤ 20 := by rw [← hlv, List.length_map] at f1; exact f1
  have cm := implMerged hS hat hone hsl hsm hnm hl20
  have hpl := over_plain lv
  rw [hlv] at hpl
  rw [hpl] at cm
  exact cm
end Go.Proofs.YtoopdcbgnccmiaaGreatDoor
