/-
  The contract of impl.Tokens. No statement of the seat is proved here.
-/
import Derived.Test.YtbfoijeboaebdaaDoorScan8
import Derived.Test.YtbfoijeboaebdaaDoorPlain3
import Derived.BigQuiet
import Derived.BigRegion
namespace Go.Proofs.YtbfoijeboaebdaaDoor
open Go.ChangeShapes Go.WideShapes Go.ChangeAt Go.RowKit
set_option linter.unusedVariables false
theorem bad_toks (F : Res) (h : F.code ≠ 0) : F.toks = [] := by cases F <;> simp_all [Res.code, Res.toks]
set_option maxRecDepth 100000 in
set_option maxHeartbeats 1000000 in
theorem implTokens (s : ByteArray) (w : World) (hT : ∀ W, Below w.heap.size w W → Lib.Utf8Tabs 0 1 W) :
    Calls Tryd.prog 9 #[.string s] w fun e w' => ∃ v, e = .returned (.tuple #[v, .int .i64 (tokF s).code, .int .i64 (tokF s).place]) ∧ OwnT w.heap.size w' v (tokF s).toks ∧ Below w.heap.size w w' := by
  unfold tokF
  by_cases hbig : 65536 < s.size
  · rw [if_pos hbig]
    have hbig' : (65536 : Int) < (s.size : Int) := by omega
    clear hT
    go_enter Tryd.func9, Tryd.ntmps9
    go_wp2_with fail
    go_ret3
    exact ⟨_, rfl, ⟨rfl, .inl ⟨rfl, rfl⟩⟩, Below.refl _ _⟩
  · rw [if_neg hbig]
    have hbig' : ¬ ((65536 : Int) < (s.size : Int)) := by omega
    have hs : s.size ≤ 65536 := by omega
    clear hbig
    have HT : Hid (∀ W, Below w.heap.size w W → Lib.Utf8Tabs 0 1 W) := hT
    clear hT
    have cs : ∀ w', Im w.heap.size w.heap.size s 0 1 1 [] (.slice none 0 0) w w' → _ := fun w' => implScan (B := w.heap.size) (g := w.heap.size) (w0 := w) (w := w') (v := .slice none 0 0) hs HT.out
    obtain ⟨F, hF⟩ : ∃ F, scan s 0 false 1 1 [] = F := ⟨_, rfl⟩
    rw [hF] at cs ⊢
    clear hF
    obtain ⟨c, hc⟩ : ∃ c, F.code = c := ⟨_, rfl⟩
    obtain ⟨q, hq⟩ : ∃ q, F.place = q := ⟨_, rfl⟩
    obtain ⟨L, hL⟩ : ∃ L, F.toks = L := ⟨_, rfl⟩
    have hbt : c ≠ 0 → L = [] := fun h => by rw [← hL]; exact bad_toks F (by rw [hc]; exact h)
    unfold ScanEnd at cs
    rw [hc, hq, hL] at cs
    rw [hc, hq, hL]
    have HBT : Hid (c ≠ 0 → L = []) := hbt
    clear hc hq hL hbt
    have HIM : Hid (Im w.heap.size w.heap.size s 0 1 1 [] (.slice none 0 0) w (w.alloc (.cells #[.string s, .int .i64 0, .int .i64 1, .int .i64 1, .slice none 0 0] 48))) := ⟨heap_alloc_last w _, ⟨rfl, .inl ⟨rfl, rfl⟩⟩, Nat.le_refl _, (Below.refl _ w).alloc (Nat.le_refl _) _⟩
    by_cases h0 : c = 0
    · subst h0
      go_enter Tryd.func9, Tryd.ntmps9
      go_wp2_with (go_at_call 25; go_must (refine (cs _ HIM.out).mono ?_; rintro e w1 ⟨rfl, hB1, hE⟩; obtain ⟨hq0, p, ln, cl, v, h1⟩ := hE rfl; subst hq0; have d4 := h1.blk.cell 4; simp at d4))
      go_ret3
      exact ⟨_, rfl, h1.own, hB1⟩
    · have h0' : ((c : Int) != 0) = true := by simp; omega
      go_enter Tryd.func9, Tryd.ntmps9
      go_wp2_with (go_at_call 25; go_must (refine (cs _ HIM.out).mono ?_; rintro e w1 ⟨rfl, hB1, hE⟩; clear hE))
      go_ret3
      refine ⟨_, rfl, ?_, hB1⟩
      rw [HBT.out h0]
      exact ⟨rfl, .inl ⟨rfl, rfl⟩⟩
end Go.Proofs.YtbfoijeboaebdaaDoor
