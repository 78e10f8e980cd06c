/-
  The contracts of spec's draws of texts. No statement of the seat is proved here.
-/
import Derived.Test.YtbfoijeboaebdaaDoorDraws
namespace Go.Proofs.YtbfoijeboaebdaaDoor
open Go.ChangeShapes Go.WideShapes Go.ChangeAt Go.RowKit
set_option linter.unusedVariables false


set_option maxRecDepth 100000 in
set_option maxHeartbeats 1000000 in
theorem drawWords {B g : Nat} {a : Option Addr} {len cap A : Nat} {w0 w : World} (n : Nat) (hn : n ≤ 40) (hA : A ≤ 1000) (hl : len ≤ 1048576) (h : Src B g a len cap A w0 w) :
    Calls Tryd.prog 17 #[.pointer (some ⟨g, 0, none⟩), .int .i64 n] w fun e w' => ∃ t : ByteArray, t.size ≤ 5500 ∧ e = .returned (.string t) ∧ Src B g a len cap (A + 400) w0 w' ∧ Only g w w' := by
  have c := drawNext (n + 1) (by omega) (by omega) hl h
  rw [show ((n + 1 : Nat) : Int) = (n : Int) + 1 from rfl] at c
  clear h
  go_enter Tryd.func17, Tryd.ntmps17
  go_wp2_with (go_at_call 32; go_must (refine c.mono ?_; rintro e w1 ⟨b, hb, rfl, hs1, ho1⟩))
  go_loopw [5, 6] (fun i5 i6 wr => ∃ (k : Nat) (out : ByteArray), i6 = .int .i64 (k : Int) ∧ i5 = .string out ∧ k ≤ 40 ∧ out.size + 130 * k ≤ 5200 ∧ Src B g a len cap (A + 3 + 9 * (40 - k)) w0 wr ∧ Only g w wr) (fun _ i6 _ => (intOf i6).toNat)
  case atStart => exact ⟨b, ⟨#[]⟩, rfl, rfl, by omega, by show 0 + 130 * b ≤ 5200; omega, hs1.mono (by omega), ho1⟩
  case round =>
    obtain ⟨k, out, rfl, rfl, hk, hsz, hs, ho⟩ := hrel
    by_cases hk0 : k = 0
    · subst hk0
      have HS : Hid (Src B g a len cap (A + 3 + 9 * (40 - 0)) w0 wr) := hs
      clear hs hs1 c
      go_wp2_with (go_at_call 34; go_must (refine (drawChance 40 (by omega) (by omega) hl HS.out).mono ?_; rintro e w2 ⟨d, rfl, hs2, ho2⟩))
      · go_loopw [5, 7] (fun i5 i7 wr => ∃ (k : Nat) (out : ByteArray), i7 = .int .i64 (k : Int) ∧ i5 = .string out ∧ k ≤ 42 ∧ out.size ≤ 5200 + k ∧ Src B g a len cap (A + 400) w0 wr ∧ Only g w wr) (fun _ i7 _ => 42 - (intOf i7).toNat)
        case atStart => exact ⟨0, out, rfl, rfl, by omega, by omega, hs2.mono (by omega), ho.trans ho2⟩
        case round =>
          obtain ⟨k, out, rfl, rfl, hk, hsz, hs, ho⟩ := hrel
          by_cases hk42 : k < 42
          · have hk1 : (k : Int) < 42 := by omega
            have hsum : out.size + 1 ≤ 5300 := by omega
            go_wp2_with fail
            exact ⟨⟨k + 1, out ++ ⟨#[110]⟩, rfl, rfl, by omega, by rw [ByteArray.size_append]; show out.size + 1 ≤ _; omega, hs, ho⟩, by simp [intOf]; omega⟩
          · have hk1 : ¬ ((k : Int) < 42) := by omega
            go_wp2_with fail
            go_ret
            exact ⟨out, by omega, rfl, hs, ho⟩
      · go_ret
        exact ⟨out, by omega, rfl, hs2.mono (by omega), ho.trans ho2⟩
    · have hk1 : (0 : Int) < (k : Int) := by omega
      have HS : Hid (Src B g a len cap (A + 3 + 9 * (40 - k)) w0 wr) := hs
      clear hs hs1 c
      go_wp2_with (go_at_call 33; go_must (refine (drawPiece (by omega) hl HS.out).mono ?_; rintro e w2 ⟨t, ht, rfl, hs2, ho2⟩; have hsum : out.size + t.size ≤ 5300 := (by omega)))
      exact ⟨⟨k - 1, out ++ t, by congr 1; omega, rfl, by omega, by rw [ByteArray.size_append]; omega, hs2.mono (by omega), ho.trans ho2⟩, by simp [intOf]; omega⟩

theorem drawSource (a : Option Addr) (len cap : Nat) (w : World) (hl : len ≤ 1048576) (hc : ∀ i, i < len → ∃ cb co, a = some ⟨cb, co, none⟩ ∧ cb < w.heap.size ∧ ∃ b : Nat, b < 256 ∧ w.cell? ⟨cb, co + i, none⟩ = some (.int .u8 b)) :
    Calls Tryd.prog 16 #[.slice a len cap] w fun e w' => e = .returned (.pointer (some ⟨w.heap.size, 0, none⟩)) ∧ Src w.heap.size w.heap.size a len cap 0 w w' := by
  go_enter Tryd.func16, Tryd.ntmps16
  go_wp2_with fail
  go_ret
  refine ⟨rfl, ⟨0, len % 1000, ?_, by omega, by omega⟩, Nat.le_refl _, (Below.refl _ w).alloc (Nat.le_refl _) _, hc⟩
  exact heap_alloc_last w _

set_option maxRecDepth 100000 in
set_option maxHeartbeats 1000000 in
theorem drawQuote (a : Option Addr) (len cap : Nat) (w : World) (hl : len ≤ 1048576) (hc : ∀ i, i < len → ∃ cb co, a = some ⟨cb, co, none⟩ ∧ cb < w.heap.size ∧ ∃ b : Nat, b < 256 ∧ w.cell? ⟨cb, co + i, none⟩ = some (.int .u8 b)) :
    Calls Tryd.prog 5 #[.slice a len cap] w fun e w' => ∃ t : ByteArray, t.size ≤ 6000 ∧ e = .returned (.string t) ∧ Below w.heap.size w w' := by
  have cs := drawSource a len cap w hl hc
  clear hc
  go_enter Tryd.func5, Tryd.ntmps5
  go_wp2_with (first
    | (go_at_call 16; go_must (refine cs.mono ?_; rintro e w1 ⟨rfl, hs1⟩; have HS1 : Hid _ := hs1; clear hs1))
    | (go_at_call 18; go_must (refine (drawSize 12 (by omega) hl HS1.out).mono ?_; rintro e w2 ⟨n, hn, rfl, rfl⟩))
    | (go_at_call 17; go_must (refine (drawWords n (by omega) (by omega) hl HS1.out).mono ?_; rintro e w2 ⟨t, ht, rfl, hs2, ho2⟩; have hgl2 : w.heap.size < w2.heap.size := (by obtain ⟨_, _, hb, _⟩ := hs2.blk; exact hb.lt)))
    | (go_at_call 19; go_must (refine (drawPick _ 4 (by omega) (by omega) (by omega) hl (hs2.bel ((Below.refl _ w2).alloc (Nat.le_refl _) _)) (texts_new _ _ _ rfl (by decide)) (by simp) (Nat.ne_of_gt hgl2)).mono ?_; rintro e w3 ⟨t3, ht3, rfl, hs3, ho3⟩; have hsum : t.size + t3.size ≤ 6000 := (by omega))))
  go_ret
  exact ⟨t ++ t3, by rw [ByteArray.size_append]; omega, rfl, hs3.below⟩

set_option maxRecDepth 100000 in
set_option maxHeartbeats 1000000 in
theorem drawTokens (a : Option Addr) (len cap : Nat) (w : World) (hl : len ≤ 1048576) (hc : ∀ i, i < len → ∃ cb co, a = some ⟨cb, co, none⟩ ∧ cb < w.heap.size ∧ ∃ b : Nat, b < 256 ∧ w.cell? ⟨cb, co + i, none⟩ = some (.int .u8 b)) :
    Calls Tryd.prog 14 #[.slice a len cap] w fun e w' => ∃ t : ByteArray, t.size ≤ 6000 ∧ e = .returned (.string t) ∧ Below w.heap.size w w' := by
  have cs := drawSource a len cap w hl hc
  clear hc
  go_enter Tryd.func14, Tryd.ntmps14
  go_wp2_with (first
    | (go_at_call 16; refine (drawSource a len cap w1 hl (fun i hi => by obtain ⟨cb, co, h1, h2, h3⟩ := HS1.out.codeAt i hi; exact ⟨cb, co, h1, Nat.lt_of_lt_of_le h2 HS1.out.below.size, h3⟩)).mono ?_; rintro e w2 ⟨rfl, hs2⟩; have HS2 : Hid _ := hs2; have HS3 : Hid _ := HS1.out.bel hs2.below; clear hs2)
    | (go_at_call 16; go_must (refine cs.mono ?_; rintro e w1 ⟨rfl, hs1⟩; have HS1 : Hid _ := hs1; clear hs1))
    | (go_at_call 18; go_must (refine (drawSize 40 (by omega) hl HS2.out).mono ?_; rintro e w3 ⟨n, hn, rfl, rfl⟩))
    | (go_at_call 17; go_must (refine (drawWords n (by omega) (by omega) hl HS3.out).mono ?_; rintro e w3 ⟨t, ht, rfl, hs3, ho3⟩)))
  go_ret
  exact ⟨t, by omega, rfl, hs3.below⟩
end Go.Proofs.YtbfoijeboaebdaaDoor
