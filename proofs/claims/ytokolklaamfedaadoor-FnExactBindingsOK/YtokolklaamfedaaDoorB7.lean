/-
  What impl's helpers of BindingsOK answer. No statement of the seat is proved here.
-/
import Derived.Test.YtokolklaamfedaaDoorB6
namespace Go.Proofs.YtokolklaamfedaaDoor
open Go.ChangeShapes Go.WideShapes Go.ChangeAt Go.RowKit
set_option linter.unusedVariables false

set_option maxRecDepth 100000 in
theorem implBetween (r lo hi : Int) (w : World) : Calls Tryd.prog 24 #[.int .i64 r, .int .i64 lo, .int .i64 hi] w fun e w' => e = .returned (.bool (decide (lo ≤ r) && decide (r ≤ hi))) ∧ w' = w := by
  go_enter Tryd.func24, Tryd.ntmps24
  go_wp2_with fail
  all_goals
    go_ret
    refine ⟨congrArg (fun b => Ending.returned (Value.bool b)) ?_, rfl⟩
    simp
    try omega
set_option maxRecDepth 100000 in
theorem implTag (t : ByteArray) (w : World) (hT : Lib.Utf8Tabs 0 1 w) : Calls Tryd.prog 23 #[.string t] w fun e w' => e = .returned (.bool (tagB nameOK t)) ∧ Below w.heap.size w w' := by
  have cn := implNameOK t w hT
  clear hT
  unfold tagB
  cases h : (t.toList == [])
  · obtain ⟨b, hb⟩ : ∃ b, nameOK t = b := ⟨_, rfl⟩
    rw [hb] at cn ⊢
    clear hb
    go_enter Tryd.func23, Tryd.ntmps23
    go_wp2_with (go_at_call 35; go_must (refine cn.mono ?_; rintro e w1 ⟨rfl, hb1⟩))
    go_ret
    exact ⟨by simp, hb1⟩
  · go_enter Tryd.func23, Tryd.ntmps23
    go_wp2_with (go_at_call 35; go_must (refine cn.mono ?_; rintro e w1 ⟨rfl, hb1⟩))
    go_ret
    exact ⟨by simp, Below.refl _ _⟩
set_option maxRecDepth 100000 in
theorem implWant (ky tg : ByteArray) (md : Int) (w : World) (hT : Lib.Utf8Tabs 0 1 w) :
    Calls Tryd.prog 38 #[.agg #[.string ky, .string tg, .int .i64 md]] w fun e w' => e = .returned (.bool (wantB nameOK ⟨ky, tg, md⟩)) ∧ Below w.heap.size w w' := by
  have hw1 : ∀ o, Below w.heap.size w (w.alloc o) := fun o => (Below.refl _ w).alloc (Nat.le_refl _) _
  have cn := fun w' (hb : Below w.heap.size w w') => implNameOK ky w' (Utf8Tabs_below hT hb)
  have ct := fun w' (hb : Below w.heap.size w w') => implTag tg w' (Utf8Tabs_below hT hb)
  have cb := fun w' => implBetween md 1 4 w'
  clear hT
  unfold wantB
  dsimp only
  rw [Bool.and_assoc (nameOK ky && tagB nameOK tg)]
  obtain ⟨b, hb⟩ : ∃ b, nameOK ky = b := ⟨_, rfl⟩
  obtain ⟨c, hc⟩ : ∃ c, tagB nameOK tg = c := ⟨_, rfl⟩
  obtain ⟨d, hd⟩ : ∃ d, (decide (1 ≤ md) && decide (md ≤ 4)) = d := ⟨_, rfl⟩
  rw [hb] at cn ⊢
  rw [hc] at ct ⊢
  rw [hd] at cb ⊢
  clear hb hc hd
  cases b
  · go_enter Tryd.func38, Tryd.ntmps38
    go_wp2_with (go_at_call 35; go_must (refine (cn _ (hw1 _)).mono ?_; rintro e w1 ⟨rfl, hb1⟩))
    go_ret
    exact ⟨by simp, good_below (hw1 _) hb1⟩
  cases c
  · go_enter Tryd.func38, Tryd.ntmps38
    go_wp2_with (first
      | (go_at_call 35; go_must (refine (cn _ (hw1 _)).mono ?_; rintro e w1 ⟨rfl, hb1⟩; have hk : Blk w1 w.heap.size 39 #[.string ky, .string tg, .int .i64 md] := Blk.below (heap_alloc_last w _) hb1; have e1 := hk.cell 1; simp at e1))
      | (go_at_call 23; go_must (refine (ct _ (good_below (hw1 _) hb1)).mono ?_; rintro e w2 ⟨rfl, hb2⟩)))
    go_ret
    exact ⟨by simp, good_below (good_below (hw1 _) hb1) hb2⟩
  · go_enter Tryd.func38, Tryd.ntmps38
    go_wp2_with (first
      | (go_at_call 35; go_must (refine (cn _ (hw1 _)).mono ?_; rintro e w1 ⟨rfl, hb1⟩; have hk : Blk w1 w.heap.size 39 #[.string ky, .string tg, .int .i64 md] := Blk.below (heap_alloc_last w _) hb1; have e1 := hk.cell 1; simp at e1))
      | (go_at_call 23; go_must (refine (ct _ (good_below (hw1 _) hb1)).mono ?_; rintro e w2 ⟨rfl, hb2⟩; have hk2 := hk.below hb2; have e2 := hk2.cell 2; simp at e2))
      | (go_at_call 24; go_must (refine (cb _).mono ?_; rintro e w3 ⟨rfl, rfl⟩)))
    go_ret
    exact ⟨by simp, good_below (good_below (hw1 _) hb1) hb2⟩
def noWant (x : Wnt) : Bool := !wantB nameOK x
set_option maxRecDepth 100000 in
theorem implNoWant (ky tg : ByteArray) (md : Int) (w : World) (hT : Lib.Utf8Tabs 0 1 w) :
    Calls Tryd.prog 37 #[.agg #[.string ky, .string tg, .int .i64 md]] w fun e w' => e = .returned (.bool (noWant ⟨ky, tg, md⟩)) ∧ Below w.heap.size w w' := by
  have hw1 : ∀ o, Below w.heap.size w (w.alloc o) := fun o => (Below.refl _ w).alloc (Nat.le_refl _) _
  have cn := fun w' (hb : Below w.heap.size w w') => implWant ky tg md w' (Utf8Tabs_below hT hb)
  clear hT
  unfold noWant
  obtain ⟨b, hb⟩ : ∃ b, wantB nameOK ⟨ky, tg, md⟩ = b := ⟨_, rfl⟩
  rw [hb] at cn ⊢
  clear hb
  go_enter Tryd.func37, Tryd.ntmps37
  go_wp2_with (go_at_call 38; go_must (refine (cn _ (hw1 _)).mono ?_; rintro e w1 ⟨rfl, hb1⟩))
  go_ret
  exact ⟨by simp, good_below (hw1 _) hb1⟩
theorem any_takeW {α : Type} (l : List α) (f : α → Bool) (k : Nat) (h : k < l.length) (h0 : (l.take k).any f = false) (h1 : f l[k] = false) : (l.take (k + 1)).any f = false := by
  rw [List.take_succ_eq_append_getElem h, List.any_append, h0]
  simp [h1]
set_option maxRecDepth 100000 in
set_option maxHeartbeats 1000000 in
theorem implIndexW {S : Nat → Prop} {l : List Wnt} {v : Value} {w : World} (hS : ∀ b, S b → b < w.heap.size) (h : WntsAt S w v l) (hT : Lib.Utf8Tabs 0 1 w) :
    Calls Tryd.prog 49 #[v, .func (.func 37) #[] #[]] w fun e w' => (∃ r : Int, e = .returned (.int .i64 r) ∧ decide (0 ≤ r) = l.any noWant) ∧ Below w.heap.size w w' := by
  obtain ⟨hlm, a, cap, rfl, hcs⟩ := h
  have HC : Hid _ := hcs
  have HT : Hid (Lib.Utf8Tabs 0 1 w) := hT
  have hlm' : (l.length : Int) ≤ 9223372036854775807 := by simp [maxLen] at hlm; omega
  clear hcs hlm hT
  go_enter Tryd.func49, Tryd.ntmps49
  go_wp2_with fail
  go_loopw [8] (fun i8 wr => ∃ (k : Nat), i8 = .int .i64 (k : Int) ∧ k ≤ l.length ∧ (l.take k).any noWant = false ∧ Below w.heap.size w wr) (fun i8 _ => l.length - (intOf i8).toNat)
  case atStart => exact ⟨0, rfl, by omega, by simp, Below.refl _ _⟩
  case round =>
    obtain ⟨k, rfl, hk, hany, hb⟩ := hrel
    have HA : Hid _ := hany
    clear hany
    by_cases hkn : k < l.length
    · have hkn' : (k : Int) < (l.length : Int) := by omega
      obtain ⟨b, off, rfl, hbB, hcell⟩ := HC.out (by omega)
      obtain ⟨x1, x2, x3⟩ := hcell k hkn
      have hbw := hS b hbB
      obtain ⟨x, hx⟩ : ∃ x, l[k] = x := ⟨_, rfl⟩
      have HX : Hid (l[k] = x) := hx
      rw [hx] at x1 x2 x3
      clear hx hcell
      obtain ⟨nm, mn, mx⟩ := x
      dsimp only at x1 x2 x3
      have d1 := (hb.cell (p := ⟨b, off + k * 3, none⟩) hbw).trans x1
      have d2 := (hb.cell (p := ⟨b, off + k * 3 + 1, none⟩) hbw).trans x2
      have d3 := (hb.cell (p := ⟨b, off + k * 3 + 2, none⟩) hbw).trans x3
      have cn := implNoWant nm mn mx wr (Utf8Tabs_below HT.out hb)
      obtain ⟨B1, hB1⟩ : ∃ B1, noWant ⟨nm, mn, mx⟩ = B1 := ⟨_, rfl⟩
      rw [hB1] at cn
      have HB1 : Hid _ := hB1
      clear hB1
      cases B1
      · go_wp2_with (go_at_call 37; go_must (refine cn.mono ?_; rintro e w1 ⟨rfl, hb1⟩))
        exact ⟨⟨k + 1, rfl, by omega, any_takeW l _ k hkn HA.out (by rw [HX.out]; exact HB1.out), good_below hb hb1⟩, by simp [intOf]; omega⟩
      · go_wp2_with (go_at_call 37; go_must (refine cn.mono ?_; rintro e w1 ⟨rfl, hb1⟩))
        go_ret
        refine ⟨⟨_, rfl, ?_⟩, good_below hb hb1⟩
        rw [List.any_eq_true.2 ⟨l[k], List.getElem_mem hkn, by rw [HX.out]; exact HB1.out⟩]
        simp
    · have hkn' : ¬ ((k : Int) < (l.length : Int)) := by omega
      have hA := HA.out
      rw [List.take_of_length_le (by omega)] at hA
      go_wp2_with fail
      go_ret
      refine ⟨⟨_, rfl, ?_⟩, hb⟩
      first
        | (rw [hA]; rfl)
        | omega
set_option maxRecDepth 100000 in
theorem implContainsW {S : Nat → Prop} {l : List Wnt} {v : Value} {w : World} (hS : ∀ b, S b → b < w.heap.size) (h : WntsAt S w v l) (hT : Lib.Utf8Tabs 0 1 w) :
    Calls Tryd.prog 39 #[v, .func (.func 37) #[] #[]] w fun e w' => e = .returned (.bool (l.any noWant)) ∧ Below w.heap.size w w' := by
  have c := implIndexW hS h hT
  clear h hT
  go_enter Tryd.func39, Tryd.ntmps39
  go_wp2_with (go_at_call 49; go_must (refine c.mono ?_; rintro e w1 ⟨⟨r, rfl, hr⟩, hb1⟩))
  go_ret
  refine ⟨congrArg (fun b => Ending.returned (Value.bool b)) ?_, hb1⟩
  rw [← hr]
set_option maxRecDepth 100000 in
theorem implWants {S : Nat → Prop} {l : List Wnt} {v : Value} {w : World} (hS : ∀ b, S b → b < w.heap.size) (h : WntsAt S w v l) (hT : Lib.Utf8Tabs 0 1 w) :
    Calls Tryd.prog 25 #[v] w fun e w' => e = .returned (.bool (decide (l.length ≤ 8) && l.all (wantB nameOK))) ∧ Below w.heap.size w w' := by
  have c := implContainsW hS h hT
  have hna : l.all (wantB nameOK) = !l.any noWant := by
    rw [List.all_eq_not_any_not]; rfl
  rw [hna]
  have hlm := h.1
  have hlm' : (l.length : Int) ≤ 9223372036854775807 := by simp [maxLen] at hlm; omega
  obtain ⟨a, cp, rfl⟩ := h.shape
  obtain ⟨b, hb⟩ : ∃ b, l.any noWant = b := ⟨_, rfl⟩
  rw [hb] at c ⊢
  clear h hT hna hb hlm
  by_cases h8 : l.length ≤ 8
  · have h8' : (l.length : Int) ≤ 8 := by omega
    rw [decide_eq_true h8]
    go_enter Tryd.func25, Tryd.ntmps25
    go_wp2_with (go_at_call 39; go_must (refine c.mono ?_; rintro e w1 ⟨rfl, hb1⟩))
    go_ret
    exact ⟨by simp, hb1⟩
  · have h8' : ¬ ((l.length : Int) ≤ 8) := by omega
    rw [decide_eq_false h8]
    go_enter Tryd.func25, Tryd.ntmps25
    go_wp2_with (go_at_call 39; go_must (refine c.mono ?_; rintro e w1 ⟨rfl, hb1⟩))
    go_ret
    exact ⟨by simp, Below.refl _ _⟩
theorem mark_pre {t : ByteArray} (h1 : 1 ≤ t.size) : ((t.extract 0 1).toList == [33]) = markB t := by
  have h0 : 0 < t.size := h1
  unfold markB
  rw [dif_pos h0]
  have hd : 0 < t.data.size := h0
  have hx : (t.extract 0 1).toList = [t[0]] := by
    rw [ByteArray.toList_eq, ByteArray.data_extract]
    apply List.ext_getElem
    · simp; omega
    · intro i h2 h3
      have : i = 0 := by simpa using h3
      subst this
      simp
      rfl
  rw [hx, Bool.eq_iff_iff]
  simp only [beq_iff_eq, List.cons.injEq, and_true]
  constructor
  · intro h; rw [h]; rfl
  · intro h
    have : t[0].toNat = 33 := by omega
    exact UInt8.toNat_inj.1 this
set_option maxRecDepth 100000 in
theorem implHasPrefix (t : ByteArray) (hz : t.size ≤ 1048576) (w : World) : Calls Tryd.prog 53 #[.string t, .string ⟨#[33]⟩] w fun e w' => e = .returned (.bool (markB t)) ∧ w' = w := by
  have hz' : (t.size : Int) ≤ 1048576 := by omega
  have hs1 : ((⟨#[33]⟩ : ByteArray).size : Int) = 1 := rfl
  by_cases h1 : 1 ≤ t.size
  · have h1' : (1 : Int) ≤ (t.size : Int) := by omega
    have hpre := mark_pre h1
    go_enter Tryd.func53, Tryd.ntmps53
    go_wp2_with fail
    go_ret
    exact ⟨rfl, rfl⟩
  · have h1' : ¬ ((1 : Int) ≤ (t.size : Int)) := by omega
    have hm : markB t = false := by unfold markB; rw [dif_neg (by omega)]
    rw [hm]
    go_enter Tryd.func53, Tryd.ntmps53
    go_wp2_with fail
    go_ret
    exact ⟨by simp, rfl⟩
/-- What is left when a mark has been taken off. -/
def trimB (t : ByteArray) : ByteArray := if markB t then t.extract 1 t.size else t
set_option maxRecDepth 100000 in
theorem implTrim0 (t : ByteArray) (hz : t.size ≤ 1048576) (w : World) : Calls Tryd.prog 50 #[.string t, .string ⟨#[33]⟩] w fun e w' => e = .returned (.string (trimB t)) ∧ w' = w := by
  have hz' : (t.size : Int) ≤ 1048576 := by omega
  have hs1 : ((⟨#[33]⟩ : ByteArray).size : Int) = 1 := rfl
  have c := implHasPrefix t hz w
  unfold trimB
  cases hm : markB t
  · rw [hm] at c
    clear hm
    go_enter Tryd.func50, Tryd.ntmps50
    go_wp2_with (go_at_call 53; go_must (refine c.mono ?_; rintro e w1 ⟨rfl, rfl⟩))
    go_ret
    exact ⟨rfl, rfl⟩
  · rw [hm] at c
    have h1 : 1 ≤ t.size := by
      unfold markB at hm
      split at hm
      · assumption
      · cases hm
    have h1' : (1 : Int) ≤ (t.size : Int) := by omega
    clear hm
    go_enter Tryd.func50, Tryd.ntmps50
    go_wp2_with (go_at_call 53; go_must (refine c.mono ?_; rintro e w1 ⟨rfl, rfl⟩))
    go_ret
    exact ⟨rfl, rfl⟩
set_option maxRecDepth 100000 in
theorem implTrim (t : ByteArray) (hz : t.size ≤ 1048576) (w : World) : Calls Tryd.prog 40 #[.string t, .string ⟨#[33]⟩] w fun e w' => e = .returned (.string (trimB t)) ∧ w' = w := by
  have c := implTrim0 t hz w
  go_enter Tryd.func40, Tryd.ntmps40
  go_wp2_with (go_at_call 50; go_must (refine c.mono ?_; rintro e w1 ⟨rfl, rfl⟩))
  go_ret
  exact ⟨rfl, rfl⟩
theorem when_trim (t : ByteArray) : whenB nameOK t = (t.toList == [] || nameOK (trimB t)) := by
  unfold whenB trimB
  cases hm : markB t
  · simp
  · rw [mark_name hm]; simp
set_option maxRecDepth 100000 in
theorem implWhen (t : ByteArray) (hz : t.size ≤ 1048576) (w : World) (hT : Lib.Utf8Tabs 0 1 w) : Calls Tryd.prog 26 #[.string t] w fun e w' => e = .returned (.bool (whenB nameOK t)) ∧ Below w.heap.size w w' := by
  have ct := implTrim t hz w
  have cn := implNameOK (trimB t) w hT
  rw [when_trim]
  obtain ⟨b, hb⟩ : ∃ b, nameOK (trimB t) = b := ⟨_, rfl⟩
  obtain ⟨u, hu⟩ : ∃ u, trimB t = u := ⟨_, rfl⟩
  rw [hb] at cn ⊢
  rw [hu] at ct cn
  clear hT hb hu
  cases h : (t.toList == [])
  · go_enter Tryd.func26, Tryd.ntmps26
    go_wp2_with (first
      | (go_at_call 40; go_must (refine ct.mono ?_; rintro e w1 ⟨rfl, rfl⟩))
      | (go_at_call 35; go_must (refine cn.mono ?_; rintro e w2 ⟨rfl, hb2⟩)))
    go_ret
    exact ⟨by simp, hb2⟩
  · go_enter Tryd.func26, Tryd.ntmps26
    go_wp2_with (first
      | (go_at_call 40; go_must (refine ct.mono ?_; rintro e w1 ⟨rfl, rfl⟩))
      | (go_at_call 35; go_must (refine cn.mono ?_; rintro e w2 ⟨rfl, hb2⟩)))
    go_ret
    exact ⟨by simp, Below.refl _ _⟩
def noName (s : ByteArray) : Bool := !nameOK s
set_option maxRecDepth 100000 in
theorem implNoName (s : ByteArray) (w : World) (hT : Lib.Utf8Tabs 0 1 w) : Calls Tryd.prog 34 #[.string s] w fun e w' => e = .returned (.bool (noName s)) ∧ Below w.heap.size w w' := by
  have cn := implNameOK s w hT
  clear hT
  unfold noName
  obtain ⟨b, hb⟩ : ∃ b, nameOK s = b := ⟨_, rfl⟩
  rw [hb] at cn ⊢
  clear hb
  go_enter Tryd.func34, Tryd.ntmps34
  go_wp2_with (go_at_call 35; go_must (refine cn.mono ?_; rintro e w1 ⟨rfl, hb1⟩))
  go_ret
  exact ⟨by simp, hb1⟩
set_option maxRecDepth 100000 in
set_option maxHeartbeats 1000000 in
theorem implIndexN (ss : List ByteArray) (g : Nat) (cap : Nat) (w : World) (hlen : ss.length ≤ 1000) (hg : g < w.heap.size) (hc : ∀ j (hj : j < ss.length), w.cell? ⟨g, j, none⟩ = some (.string ss[j])) (hT : Lib.Utf8Tabs 0 1 w) :
    Calls Tryd.prog 48 #[.slice (some ⟨g, 0, none⟩) ss.length cap, .func (.func 34) #[] #[]] w fun e w' => (∃ r : Int, e = .returned (.int .i64 r) ∧ decide (0 ≤ r) = ss.any noName) ∧ Below w.heap.size w w' := by
  have HC : Hid _ := hc
  have HT : Hid (Lib.Utf8Tabs 0 1 w) := hT
  have hlen' : (ss.length : Int) ≤ 1000 := by omega
  clear hc hT
  go_enter Tryd.func48, Tryd.ntmps48
  go_wp2_with fail
  go_loopw [8] (fun i8 wr => ∃ (k : Nat), i8 = .int .i64 (k : Int) ∧ k ≤ ss.length ∧ (ss.take k).any noName = false ∧ Below w.heap.size w wr) (fun i8 _ => ss.length - (intOf i8).toNat)
  case atStart => exact ⟨0, rfl, by omega, by simp, Below.refl _ _⟩
  case round =>
    obtain ⟨k, rfl, hk, hany, hb⟩ := hrel
    have HA : Hid _ := hany
    clear hany
    by_cases hkn : k < ss.length
    · have hkn' : (k : Int) < (ss.length : Int) := by omega
      have x1 := HC.out k hkn
      obtain ⟨x, hx⟩ : ∃ x, ss[k] = x := ⟨_, rfl⟩
      have HX : Hid (ss[k] = x) := hx
      rw [hx] at x1
      clear hx
      have d1 := (hb.cell (p := ⟨g, k, none⟩) hg).trans x1
      have cn := implNoName x wr (Utf8Tabs_below HT.out hb)
      obtain ⟨B1, hB1⟩ : ∃ B1, noName x = B1 := ⟨_, rfl⟩
      rw [hB1] at cn
      have HB1 : Hid _ := hB1
      clear hB1
      cases B1
      · go_wp2_with (go_at_call 34; go_must (refine cn.mono ?_; rintro e w1 ⟨rfl, hb1⟩))
        exact ⟨⟨k + 1, rfl, by omega, any_takeW ss _ k hkn HA.out (by rw [HX.out]; exact HB1.out), good_below hb hb1⟩, by simp [intOf]; omega⟩
      · go_wp2_with (go_at_call 34; go_must (refine cn.mono ?_; rintro e w1 ⟨rfl, hb1⟩))
        go_ret
        refine ⟨⟨_, rfl, ?_⟩, good_below hb hb1⟩
        rw [List.any_eq_true.2 ⟨ss[k], List.getElem_mem hkn, by rw [HX.out]; exact HB1.out⟩]
        simp
    · have hkn' : ¬ ((k : Int) < (ss.length : Int)) := by omega
      have hA := HA.out
      rw [List.take_of_length_le (by omega)] at hA
      go_wp2_with fail
      go_ret
      refine ⟨⟨_, rfl, ?_⟩, hb⟩
      first
        | (rw [hA]; rfl)
        | omega
set_option maxRecDepth 100000 in
theorem implContainsN (ss : List ByteArray) (g : Nat) (cap : Nat) (w : World) (hlen : ss.length ≤ 1000) (hg : g < w.heap.size) (hc : ∀ j (hj : j < ss.length), w.cell? ⟨g, j, none⟩ = some (.string ss[j])) (hT : Lib.Utf8Tabs 0 1 w) :
    Calls Tryd.prog 36 #[.slice (some ⟨g, 0, none⟩) ss.length cap, .func (.func 34) #[] #[]] w fun e w' => e = .returned (.bool (ss.any noName)) ∧ Below w.heap.size w w' := by
  have c := implIndexN ss g cap w hlen hg hc hT
  clear hc hT
  go_enter Tryd.func36, Tryd.ntmps36
  go_wp2_with (go_at_call 48; go_must (refine c.mono ?_; rintro e w1 ⟨⟨r, rfl, hr⟩, hb1⟩))
  go_ret
  refine ⟨congrArg (fun b => Ending.returned (Value.bool b)) ?_, hb1⟩
  rw [← hr]
set_option maxRecDepth 100000 in
theorem implNames (x y : ByteArray) (g : Nat) (w : World) (hg : g < w.heap.size) (h0 : w.cell? ⟨g, 0, none⟩ = some (.string x)) (h1 : w.cell? ⟨g, 1, none⟩ = some (.string y)) (hT : Lib.Utf8Tabs 0 1 w) :
    Calls Tryd.prog 22 #[.slice (some ⟨g, 0, none⟩) 2 2] w fun e w' => e = .returned (.bool (nameOK x && nameOK y)) ∧ Below w.heap.size w w' := by
  have c := implContainsN [x, y] g 2 w (by simp) hg (fun j hj => by
    simp at hj
    rcases (show j = 0 ∨ j = 1 by omega) with rfl | rfl
    · exact h0
    · exact h1) hT
  have hn : (nameOK x && nameOK y) = !([x, y].any noName) := by
    simp only [List.any_cons, List.any_nil, noName, Bool.or_false]
    cases nameOK x <;> cases nameOK y <;> rfl
  rw [hn]
  obtain ⟨b, hb⟩ : ∃ b, [x, y].any noName = b := ⟨_, rfl⟩
  rw [hb] at c ⊢
  clear hb hn hT h0 h1
  have c' : Calls Tryd.prog 36 #[.slice (some ⟨g, 0, none⟩) 2 2, .func (.func 34) #[] #[]] w fun e w' => e = .returned (.bool b) ∧ Below w.heap.size w w' := c
  clear c
  go_enter Tryd.func22, Tryd.ntmps22
  go_wp2_with (go_at_call 36; go_must (refine c'.mono ?_; rintro e w1 ⟨rfl, hb1⟩))
  go_ret
  exact ⟨by simp, hb1⟩
end Go.Proofs.YtokolklaamfedaaDoor
