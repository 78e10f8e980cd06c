/-
  The law on Match: its walk. No statement of the seat is proved here.
-/
import Derived.Test.YtbfgabldioknfaaDoorP4
namespace Go.Proofs.YtbfgabldioknfaaDoor
open Go.ChangeShapes Go.WideShapes Go.ChangeAt Go.RowKit
set_option linter.unusedVariables false
set_option linter.unusedSimpArgs false

theorem specNames : NameSpec nameOK := fun s w => specNameOK s w
set_option maxRecDepth 100000 in
set_option maxHeartbeats 2000000 in
theorem matchWalk (w : World) (p t : ByteArray) (hp : p.size ≤ maxLen) (ht : t.size ≤ maxLen) (hT : Lib.Utf8Tabs 0 1 w) :
    Calls Tryd.prog 3 #[.string p, .string t] w fun e w' => e = .returned (.bool true) ∧ Below w.heap.size w w' := by
  have hm : (p.size : Int) ≤ 9223372036854775807 := by simp [maxLen] at hp; omega
  have hm2 : (t.size : Int) ≤ 9223372036854775807 := by simp [maxLen] at ht; omega
  have c1 := specMatch p t hp ht w specNames
  have c2 := fun h1 h2 W (hW : Below w.heap.size w W) => implMatch p t h1 h2 W (fun W' hW' => Utf8Tabs_below hT (good_below hW hW'))
  obtain ⟨R, hR⟩ : ∃ R, matchF p t = R := ⟨_, rfl⟩
  simp only [hR] at c1 c2
  clear hR hT
  by_cases l1 : p.size ≤ 1048576
  case neg =>
    have l1' : (1048576 : Int) < (p.size : Int) := by omega
    clear c1 c2
    go_enter Tryd.func3, Tryd.ntmps3
    go_wp2_with fail
    go_ret
    exact ⟨rfl, Below.refl _ _⟩
  have l1' : ¬ ((1048576 : Int) < (p.size : Int)) := by omega
  by_cases l2 : t.size ≤ 1048576
  case neg =>
    have l2' : (1048576 : Int) < (t.size : Int) := by omega
    clear c1 c2
    go_enter Tryd.func3, Tryd.ntmps3
    go_wp2_with fail
    go_ret
    exact ⟨rfl, Below.refl _ _⟩
  have l2' : ¬ ((1048576 : Int) < (t.size : Int)) := by omega
  have c3 := c2 l1 l2
  clear c2
  cases R
  · go_enter Tryd.func3, Tryd.ntmps3
    go_wp2_with (first
      | (go_at_call 4; go_must (refine c1.mono ?_; rintro e w1 ⟨rfl, hb1⟩))
      | (go_at_call 5; go_must (refine (c3 _ hb1).mono ?_; rintro e w2 ⟨rfl, hb2⟩)))
    go_ret
    exact ⟨rfl, good_below hb1 hb2⟩
  · go_enter Tryd.func3, Tryd.ntmps3
    go_wp2_with (first
      | (go_at_call 4; go_must (refine c1.mono ?_; rintro e w1 ⟨rfl, hb1⟩))
      | (go_at_call 5; go_must (refine (c3 _ hb1).mono ?_; rintro e w2 ⟨rfl, hb2⟩)))
    go_ret
    exact ⟨rfl, good_below hb1 hb2⟩
end Go.Proofs.YtbfgabldioknfaaDoor
