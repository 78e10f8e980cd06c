/-
  What impl.isNeed, isBetween, the question whether a need is of a release's own name, slices.IndexFunc and slices.ContainsFunc with it answer. No statement of the seat is proved here.
-/
import Derived.Test.YtmgboljcdhegiaaDoorSt3
import Derived.Test.YtmgboljcdhegiaaDoorNameWalks
namespace Go.Proofs.YtmgboljcdhegiaaDoor
open Go.ChangeShapes Go.WideShapes Go.ChangeAt Go.RowKit
set_option linter.unusedVariables false

theorem specName : NameSpec nameOK := fun s w => specNameOK s w

set_option maxRecDepth 100000 in
theorem implNeed (nm : ByteArray) (mn mx : Int) (w : World) (hT : Lib.Utf8Tabs 0 1 w) :
    Calls Tryd.prog 37 #[.agg #[.string nm, .int .i64 mn, .int .i64 mx]] w fun e w' => e = .returned (.bool (needB nameOK ⟨nm, mn, mx⟩)) ∧ Below w.heap.size w w' := by
  have hw1 : ∀ o, Below w.heap.size w (w.alloc o) := fun o => (Below.refl _ w).alloc (Nat.le_refl _) _
  have cn := fun w' (hb : Below w.heap.size w w') => implNameOK nm w' (Utf8Tabs_below hT hb)
  clear hT
  unfold needB
  dsimp only
  obtain ⟨b, hb⟩ : ∃ b, nameOK nm = b := ⟨_, rfl⟩
  rw [hb] at cn ⊢
  clear hb
  cases b
  · go_enter Tryd.func37, Tryd.ntmps37
    go_wp2_with (go_at_call 22; go_must (refine (cn _ (hw1 _)).mono ?_; rintro e w1 ⟨rfl, hb1⟩))
    go_ret
    exact ⟨by simp, good_below (hw1 _) hb1⟩
  · go_enter Tryd.func37, Tryd.ntmps37
    go_wp2_with (go_at_call 22; go_must (refine (cn _ (hw1 _)).mono ?_; rintro e w1 ⟨rfl, hb1⟩; have hk : Blk w1 w.heap.size 39 #[.string nm, .int .i64 mn, .int .i64 mx] := Blk.below (heap_alloc_last w _) hb1; have e1 := hk.cell 1; have e2 := hk.cell 2; simp at e1 e2))
    all_goals
      go_ret
      refine ⟨congrArg (fun b => Ending.returned (Value.bool b)) ?_, good_below (hw1 _) hb1⟩
      simp
      try omega

set_option maxRecDepth 100000 in
theorem implBetween (r lo hi : Int) (w : World) : Calls Tryd.prog 23 #[.int .i64 r, .int .i64 lo, .int .i64 hi] w fun e w' => e = .returned (.bool (decide (lo ≤ r) && decide (r ≤ hi))) ∧ w' = w := by
  go_enter Tryd.func23, Tryd.ntmps23
  go_wp2_with fail
  all_goals
    go_ret
    refine ⟨congrArg (fun b => Ending.returned (Value.bool b)) ?_, rfl⟩
    simp
    try omega

/-- A need is of that name. -/
def ownB (rn : ByteArray) (x : Imp) : Bool := x.name.toList == rn.toList
set_option maxRecDepth 100000 in
theorem implOwn (nm : ByteArray) (mn mx : Int) (g : Nat) (rn : ByteArray) (w : World) (hc : w.cell? ⟨g, 0, none⟩ = some (.string rn)) (hg : g < w.heap.size) :
    Calls Tryd.prog 21 #[.agg #[.string nm, .int .i64 mn, .int .i64 mx], .pointer (some ⟨g, 0, none⟩)] w fun e w' => e = .returned (.bool (ownB rn ⟨nm, mn, mx⟩)) ∧ Below w.heap.size w w' := by
  have hw1 : ∀ o, Below w.heap.size w (w.alloc o) := fun o => (Below.refl _ w).alloc (Nat.le_refl _) _
  have hc1 : ∀ o, (w.alloc o).cell? ⟨g, 0, none⟩ = some (.string rn) := fun o => ((hw1 o).cell (p := ⟨g, 0, none⟩) hg).trans hc
  go_enter Tryd.func21, Tryd.ntmps21
  go_wp2_with fail
  go_ret
  refine ⟨congrArg (fun b => Ending.returned (Value.bool b)) ?_, hw1 _⟩
  simp [ownB]

theorem any_take (l : List Imp) (f : Imp → Bool) (k : Nat) (h : k < l.length) (h0 : (l.take k).any f = false) (h1 : f l[k] = false) : (l.take (k + 1)).any f = false := by
  rw [List.take_succ_eq_append_getElem h, List.any_append, h0]
  simp [h1]

set_option maxRecDepth 100000 in
set_option maxHeartbeats 1000000 in
theorem implIndex {S : Nat → Prop} {l : List Imp} {v : Value} {w : World} (hS : ∀ b, S b → b < w.heap.size) (h : ImpsAt S w v l) (g : Nat) (rn : ByteArray) (hc : w.cell? ⟨g, 0, none⟩ = some (.string rn)) (hg : g < w.heap.size) :
    Calls Tryd.prog 39 #[v, .func (.func 21) #[] #[.pointer (some ⟨g, 0, none⟩)]] w fun e w' => (∃ r : Int, e = .returned (.int .i64 r) ∧ decide (0 ≤ r) = l.any (ownB rn)) ∧ Below w.heap.size w w' := by
  obtain ⟨hlm, a, cap, rfl, hcs⟩ := h
  have HC : Hid _ := hcs
  have hlm' : (l.length : Int) ≤ 9223372036854775807 := by simp [maxLen] at hlm; omega
  clear hcs hlm
  go_enter Tryd.func39, Tryd.ntmps39
  go_wp2_with fail
  go_loopw [8] (fun i8 wr => ∃ (k : Nat), i8 = .int .i64 (k : Int) ∧ k ≤ l.length ∧ (l.take k).any (ownB rn) = false ∧ Below w.heap.size w wr) (fun i8 _ => l.length - (intOf i8).toNat)
  case atStart => exact ⟨0, rfl, by omega, by simp, Below.refl _ _⟩
  case round =>
    obtain ⟨k, rfl, hk, hany, hb⟩ := hrel
    have HA : Hid _ := hany
    clear hany
    by_cases hkn : k < l.length
    · have hkn' : (k : Int) < (l.length : Int) := by omega
      obtain ⟨b, off, rfl, hbB, hcell⟩ := HC.out (by omega)
      obtain ⟨x1, x2, x3⟩ := hcell k hkn
      have hbw := hS b hbB
      obtain ⟨x, hx⟩ : ∃ x, l[k] = x := ⟨_, rfl⟩
      have HX : Hid (l[k] = x) := hx
      rw [hx] at x1 x2 x3
      clear hx hcell
      obtain ⟨nm, mn, mx⟩ := x
      dsimp only at x1 x2 x3
      have d1 := (hb.cell (p := ⟨b, off + k * 3, none⟩) hbw).trans x1
      have d2 := (hb.cell (p := ⟨b, off + k * 3 + 1, none⟩) hbw).trans x2
      have d3 := (hb.cell (p := ⟨b, off + k * 3 + 2, none⟩) hbw).trans x3
      have cn := implOwn nm mn mx g rn wr ((hb.cell (p := ⟨g, 0, none⟩) hg).trans hc) (Nat.lt_of_lt_of_le hg hb.size)
      obtain ⟨B1, hB1⟩ : ∃ B1, ownB rn ⟨nm, mn, mx⟩ = B1 := ⟨_, rfl⟩
      rw [hB1] at cn
      have HB1 : Hid _ := hB1
      clear hB1
      cases B1
      · go_wp2_with (go_at_call 21; go_must (refine cn.mono ?_; rintro e w1 ⟨rfl, hb1⟩))
        exact ⟨⟨k + 1, rfl, by omega, any_take l _ k hkn HA.out (by rw [HX.out]; exact HB1.out), good_below hb hb1⟩, by simp [intOf]; omega⟩
      · go_wp2_with (go_at_call 21; go_must (refine cn.mono ?_; rintro e w1 ⟨rfl, hb1⟩))
        go_ret
        refine ⟨⟨_, rfl, ?_⟩, good_below hb hb1⟩
        rw [List.any_eq_true.2 ⟨l[k], List.getElem_mem hkn, by rw [HX.out]; exact HB1.out⟩]
        simp
    · have hkn' : ¬ ((k : Int) < (l.length : Int)) := by omega
      have hA := HA.out
      rw [List.take_of_length_le (by omega)] at hA
      go_wp2_with fail
      go_ret
      refine ⟨⟨_, rfl, ?_⟩, hb⟩
      first
        | (rw [hA]; rfl)
        | omega

set_option maxRecDepth 100000 in
theorem implContains {S : Nat → Prop} {l : List Imp} {v : Value} {w : World} (hS : ∀ b, S b → b < w.heap.size) (h : ImpsAt S w v l) (g : Nat) (rn : ByteArray) (hc : w.cell? ⟨g, 0, none⟩ = some (.string rn)) (hg : g < w.heap.size) :
    Calls Tryd.prog 25 #[v, .func (.func 21) #[] #[.pointer (some ⟨g, 0, none⟩)]] w fun e w' => e = .returned (.bool (l.any (ownB rn))) ∧ Below w.heap.size w w' := by
  have c := implIndex hS h g rn hc hg
  clear h hc
  go_enter Tryd.func25, Tryd.ntmps25
  go_wp2_with (go_at_call 39; go_must (refine c.mono ?_; rintro e w1 ⟨⟨r, rfl, hr⟩, hb1⟩))
  go_ret
  refine ⟨congrArg (fun b => Ending.returned (Value.bool b)) ?_, hb1⟩
  rw [← hr]
end Go.Proofs.YtmgboljcdhegiaaDoor
