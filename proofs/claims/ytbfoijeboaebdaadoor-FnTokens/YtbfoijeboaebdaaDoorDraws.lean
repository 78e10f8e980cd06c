/-
  The contracts of spec's draws of texts. No statement of the seat is proved here.
-/
import Derived.Test.YtbfoijeboaebdaaDoorDraw
import Derived.Test.YtbfoijeboaebdaaDoorBack
import Derived.Deep.Cut
import Derived.Deep.CutRange
namespace Go.Proofs.YtbfoijeboaebdaaDoor
open Go.ChangeShapes Go.WideShapes Go.ChangeAt Go.RowKit
set_option linter.unusedVariables false


theorem specQuoteS (s : ByteArray) (hs : s.size ≤ 30) (w : World) :
    Calls Tryd.prog 8 #[.string s] w fun e w' => ∃ t : ByteArray, t.size ≤ 130 ∧ e = .returned (.string t) ∧ Below w.heap.size w w' := by
  refine (specQuote s (by omega) w).mono ?_
  rintro e w1 ⟨rfl, hb⟩
  refine ⟨_, ?_, rfl, hb⟩
  have := qFrom_len s _ 0 rfl
  show ([b8 34] ++ qFrom s 0 ++ [b8 34]).toArray.size ≤ 130
  simp
  omega

set_option maxRecDepth 100000 in
set_option maxHeartbeats 1000000 in
theorem drawPiece {B g : Nat} {a : Option Addr} {len cap A : Nat} {w0 w : World} (hA : A ≤ 90000) (hl : len ≤ 1048576) (h : Src B g a len cap A w0 w) :
    Calls Tryd.prog 33 #[.pointer (some ⟨g, 0, none⟩)] w fun e w' => ∃ t : ByteArray, t.size ≤ 130 ∧ e = .returned (.string t) ∧ Src B g a len cap (A + 9) w0 w' ∧ Only g w w' := by
  have c := drawNext 12 (by omega) (by omega) hl h
  have cn := fun (A' : Nat) (hA' : A' ≤ 100000) (w : World) (h : Src B g a len cap A' w0 w) => drawName hA' hl h
  have cx := fun (A' : Nat) (n : Nat) (hn : n ≤ 1000000) (hA' : A' ≤ 100000) (w : World) (h : Src B g a len cap A' w0 w) => drawNext n hn hA' hl h
  have cp := fun (A' lb n : Nat) (hn : 0 < n) (hn2 : n ≤ 1000) (hA' : A' ≤ 100000) (w : World) (h : Src B g a len cap A' w0 w) (ht : Texts w lb n) (hlb : lb < w.heap.size) (hg : lb ≠ g) => drawPick lb n hn hn2 hA' hl h ht hlb hg
  clear h
  go_enter Tryd.func33, Tryd.ntmps33
  go_upto_region 1 with fail
  go_cut [4] from 5 (fun s4 wx => ∃ b : Nat, b < 12 ∧ s4 = .int .i64 (b : Int) ∧ Src B g a len cap (A + 3) w0 wx ∧ Only g w wx)
  case first =>
    go_wp2_with (go_at_call 32; go_must (refine c.mono ?_; rintro e w1 ⟨b, hb, rfl, hs1, ho1⟩))
    go_meet
    exact ⟨b, by omega, rfl, hs1, ho1⟩
  case rest =>
    obtain ⟨b, hb, rfl, hs1, ho1⟩ := hcut
    have hgl : g < wc.heap.size := by obtain ⟨_, _, hb, _⟩ := hs1.blk; exact hb.lt
    have HS : Hid (Src B g a len cap (A + 3) w0 wc) := hs1
    clear hs1 c
    obtain rfl | rfl | rfl | rfl | rfl | rfl | rfl | rfl | hb8 : b = 0 ∨ b = 1 ∨ b = 2 ∨ b = 3 ∨ b = 4 ∨ b = 5 ∨ b = 6 ∨ b = 7 ∨ 8 ≤ b := by omega
    · go_wp2_with (go_at_call 62; go_must (refine (cn _ (by omega) _ HS.out).mono ?_; rintro e w2 ⟨t, ht, rfl, hs2, ho2⟩))
      go_ret
      exact ⟨t, by omega, rfl, hs2.mono (by omega), ho1.trans ho2⟩
    · go_wp2_with (go_at_call 19; go_must (refine (cp _ _ 4 (by omega) (by omega) (by omega) _ (HS.out.bel ((Below.refl _ wc).alloc (Nat.le_refl _) _)) (texts_new _ _ _ rfl (by decide)) (by simp) (Nat.ne_of_gt hgl)).mono ?_; rintro e w2 ⟨t, ht, rfl, hs2, ho2⟩))
      go_ret
      exact ⟨t, by omega, rfl, hs2.mono (by omega), (ho1.bel ((Below.refl _ wc).alloc (Nat.le_refl _) _)).trans ho2⟩
    · go_wp2_with (first
        | (go_at_call 32; go_must (refine (cx _ 2000 (by omega) (by omega) _ HS.out).mono ?_; rintro e w2 ⟨n, hn, rfl, hs2, ho2⟩; have hnn : n < 10 ^ (3 + 1) := (by omega)))
        | (go_at_call 63; go_must (refine (drawDigits 3 (by omega) n hnn (by omega) _).mono ?_; rintro e w3 ⟨t, ht, rfl, hb3⟩)))
      go_ret
      exact ⟨t, by omega, rfl, (hs2.bel hb3).mono (by omega), (ho1.trans ho2).bel hb3⟩
    · go_wp2_with (first
        | (go_at_call 19; go_must (refine (cp _ _ 5 (by omega) (by omega) (by omega) _ (HS.out.bel ((Below.refl _ wc).alloc (Nat.le_refl _) _)) (texts_new _ _ _ rfl (by decide)) (by simp) (Nat.ne_of_gt hgl)).mono ?_; rintro e w2 ⟨t, ht, rfl, hs2, ho2⟩))
        | (go_at_call 8; go_must (refine (specQuoteS t ht _).mono ?_; rintro e w3 ⟨t3, ht3, rfl, hb3⟩)))
      go_ret
      exact ⟨t3, ht3, rfl, (hs2.bel hb3).mono (by omega), ((ho1.bel ((Below.refl _ wc).alloc (Nat.le_refl _) _)).trans ho2).bel hb3⟩
    · go_wp2_with (go_at_call 19; go_must (refine (cp _ _ 18 (by omega) (by omega) (by omega) _ (HS.out.bel ((Below.refl _ wc).alloc (Nat.le_refl _) _)) (texts_new _ _ _ rfl (by decide)) (by simp) (Nat.ne_of_gt hgl)).mono ?_; rintro e w2 ⟨t, ht, rfl, hs2, ho2⟩))
      go_ret
      exact ⟨t, by omega, rfl, hs2.mono (by omega), (ho1.bel ((Below.refl _ wc).alloc (Nat.le_refl _) _)).trans ho2⟩
    · go_wp2_with (go_at_call 19; go_must (refine (cp _ _ 18 (by omega) (by omega) (by omega) _ (HS.out.bel ((Below.refl _ wc).alloc (Nat.le_refl _) _)) (texts_new _ _ _ rfl (by decide)) (by simp) (Nat.ne_of_gt hgl)).mono ?_; rintro e w2 ⟨t, ht, rfl, hs2, ho2⟩))
      go_ret
      exact ⟨t, by omega, rfl, hs2.mono (by omega), (ho1.bel ((Below.refl _ wc).alloc (Nat.le_refl _) _)).trans ho2⟩
    · go_wp2_with (go_at_call 19; go_must (refine (cp _ _ 6 (by omega) (by omega) (by omega) _ (HS.out.bel ((Below.refl _ wc).alloc (Nat.le_refl _) _)) (texts_new _ _ _ rfl (by decide)) (by simp) (Nat.ne_of_gt hgl)).mono ?_; rintro e w2 ⟨t, ht, rfl, hs2, ho2⟩))
      go_ret
      exact ⟨t, by omega, rfl, hs2.mono (by omega), (ho1.bel ((Below.refl _ wc).alloc (Nat.le_refl _) _)).trans ho2⟩
    · go_wp2_with (go_at_call 19; go_must (refine (cp _ _ 14 (by omega) (by omega) (by omega) _ (HS.out.bel ((Below.refl _ wc).alloc (Nat.le_refl _) _)) (texts_new _ _ _ rfl (by decide)) (by simp) (Nat.ne_of_gt hgl)).mono ?_; rintro e w2 ⟨t, ht, rfl, hs2, ho2⟩))
      go_ret
      exact ⟨t, by omega, rfl, hs2.mono (by omega), (ho1.bel ((Below.refl _ wc).alloc (Nat.le_refl _) _)).trans ho2⟩
    · have b0 : ((b : Int) == 0) = false := by rw [beq_eq_false_iff_ne]; omega
      have b1 : ((b : Int) == 1) = false := by rw [beq_eq_false_iff_ne]; omega
      have b2 : ((b : Int) == 2) = false := by rw [beq_eq_false_iff_ne]; omega
      have b3 : ((b : Int) == 3) = false := by rw [beq_eq_false_iff_ne]; omega
      have b4 : ((b : Int) == 4) = false := by rw [beq_eq_false_iff_ne]; omega
      have b5 : ((b : Int) == 5) = false := by rw [beq_eq_false_iff_ne]; omega
      have b6 : ((b : Int) == 6) = false := by rw [beq_eq_false_iff_ne]; omega
      have b7 : ((b : Int) == 7) = false := by rw [beq_eq_false_iff_ne]; omega
      go_wp2_with (first
        | (go_at_call 62; go_must (refine (cn _ (by omega) _ HS.out).mono ?_; rintro e w2 ⟨t, ht, rfl, hs2, ho2⟩; have hgl2 : g < w2.heap.size := (Nat.lt_of_lt_of_le hgl ho2.1)))
        | (go_at_call 19; go_must (refine (cp _ _ 4 (by omega) (by omega) (by omega) _ (hs2.bel ((Below.refl _ w2).alloc (Nat.le_refl _) _)) (texts_new _ _ _ rfl (by decide)) (by simp) (Nat.ne_of_gt hgl2)).mono ?_; rintro e w3 ⟨t3, ht3, rfl, hs3, ho3⟩; have hsum : t.size + t3.size ≤ 100 := (by omega))))
      go_ret
      exact ⟨t ++ t3, by rw [ByteArray.size_append]; omega, rfl, hs3.mono (by omega), (ho1.trans (ho2.bel ((Below.refl _ w2).alloc (Nat.le_refl _) _))).trans ho3⟩
end Go.Proofs.YtbfoijeboaebdaaDoor
