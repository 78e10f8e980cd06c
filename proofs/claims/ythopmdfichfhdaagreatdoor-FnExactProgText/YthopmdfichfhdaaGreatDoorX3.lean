/-
  The shelf once more. Numbers, values and words, written by the program: strconv.Itoa, Val.text, wordAt. A field of an instruction, written by the program: fieldText. An order or a condition, written by the program: fieldText. No statement of the seat is proved here.
-/
import Derived.Test.YthopmdfichfhdaaGreatDoorShelf
import Derived.Test.YthopmdfichfhdaaGreatDoorT3
import Derived.Lib.LaidTab
import Derived.Lib.ItoaLen
import Derived.Test.YthopmdfichfhdaaGreatDoorI5
import Derived.Test.YthopmdfichfhdaaGreatDoorT4
namespace Go.Proofs.YthopmdfichfhdaaGreatDoor
open Go.ChangeShapes Go.WideShapes Go.ChangeAt Go.RowKit
set_option linter.unusedVariables false
set_option linter.unusedSimpArgs false

/-- The library's table of powers of ten reads as it is. -/
def PowT (w : World) : Prop := Lib.TabIs Tryz.prog w "internal/strconv.uint64pow10" .u64 Lib.pow10Tab
theorem PowT.below {w w' : World} (h : PowT w) (hb : Below w.heap.size w w') : PowT w' := by
  unfold PowT Lib.TabIs World.var? at h ⊢
  generalize Tryz.prog.globalNamed "internal/strconv.uint64pow10" = q at h ⊢
  cases q with
  | none => cases h
  | some g =>
    simp only [Option.bind_some] at h ⊢
    have h0 : g < w.heap.size := by
      by_cases h0 : g < w.heap.size
      · exact h0
      · rw [Array.getElem?_eq_none (by omega)] at h
        cases h
    rw [hb.block g h0]
    exact h
def i64B (n : Int) : Prop := -9223372036854775808 ≤ n ∧ n ≤ 9223372036854775807
theorem implItoa {n : Int} (hn : i64B n) (w : World) (hT : PowT w) : Calls Tryz.prog 50 #[.int .i64 n] w fun e w' => e = .returned (.string (itoaT n)) ∧ Below w.heap.size w w' := by
  refine (Tryz.strconv_Itoa n hn.1 hn.2 w hT).mono ?_
  rintro e w' ⟨rfl, k, os, rfl⟩
  exact ⟨rfl, rfl, rfl, rfl, by simp [Sort.grow, World.drewN], fun j hj => by simp [Sort.grow, World.drewN, Array.getElem?_append, hj]⟩
theorem itoa_size {n : Int} (hn : i64B n) : (itoaT n).size ≤ 21 := Lib.itoa_length_le n hn.1 hn.2
/-- What is written behind a letter. -/
theorem lett_add (c : UInt8) (l : List UInt8) : (⟨#[c]⟩ : ByteArray) ++ mkT l = mkT (c :: l) := by
  apply ByteArray.ext
  simp [mkT]
set_option maxRecDepth 100000 in
set_option maxHeartbeats 2000000 in
theorem implValText {r n : Int} (hr : i64B r) (hn : i64B n) (w : World) (hT : PowT w) : Calls Tryz.prog 68 #[.agg #[.int .i64 r, .int .i64 n]] w fun e w' => e = .returned (.string (mkT (valT r n))) ∧ Below w.heap.size w w' := by
  have hb0 : Below w.heap.size w (w.alloc (.cells #[.int .i64 r, .int .i64 n] 41)) := (Below.refl _ w).alloc (Nat.le_refl _) _
  have k : Blk (w.alloc (.cells #[.int .i64 r, .int .i64 n] 41)) w.heap.size 41 #[.int .i64 r, .int .i64 n] := heap_alloc_last w _
  have c0 := k.cell 0
  have c1 := k.cell 1
  simp at c0 c1
  have hT1 := hT.below hb0
  have ct := implItoa hr _ hT1
  have cn := implItoa hn _ hT1
  have HB : Hid (Below w.heap.size w (w.alloc (.cells #[.int .i64 r, .int .i64 n] 41))) := hb0
  clear hb0 hT1
  unfold valT
  by_cases h : r = 0
  · subst h
    rw [if_neg (by simp)]
    go_enter Tryz.func68, Tryz.ntmps68
    go_wp2_with (go_at_call 50; go_must (refine cn.mono ?_; rintro e w2 ⟨rfl, hb2⟩))
    go_ret
    exact ⟨rfl, HB.out.trans (hb2.mono HB.out.size)⟩
  · rw [if_pos h]
    go_enter Tryz.func68, Tryz.ntmps68
    have hsz := itoa_size hr
    go_wp2_with (go_at_call 50; go_must (refine ct.mono ?_; rintro e w2 ⟨rfl, hb2⟩))
    go_ret
    refine ⟨?_, HB.out.trans (hb2.mono HB.out.size)⟩
    rw [← lett_add]
    rfl
set_option maxRecDepth 100000 in
set_option maxHeartbeats 2000000 in
theorem implWordAt {l : List ByteArray} {cs : Array Value} {b ty : Nat} {i : Int} (hi : i64B i) (w : World) (hl : l.length ≤ 100) (hc : ∀ j x, l[j]? = some x → w.cell? ⟨b, j, none⟩ = some (.string x)) :
    Calls Tryz.prog 70 #[.slice (some ⟨b, 0, none⟩) l.length l.length, .int .i64 i] w fun e w' => e = .returned (.string (wordAt l i)) ∧ w' = w := by
  have cb := fun w' => implBetween i 0 ((l.length : Int) - 1) w'
  unfold wordAt
  by_cases h : 0 ≤ i ∧ i ≤ (l.length : Int) - 1
  · rw [if_pos h]
    obtain ⟨k, hk⟩ := Int.eq_ofNat_of_zero_le h.1
    subst hk
    have hkl : k < l.length := by omega
    have hx := hc k l[k] (List.getElem?_eq_getElem hkl)
    rw [decide_eq_true h.1, decide_eq_true h.2] at cb
    rw [Int.toNat_natCast, List.getD_eq_getElem?_getD, List.getElem?_eq_getElem hkl, Option.getD_some]
    obtain ⟨X, hX⟩ : ∃ X, l[k] = X := ⟨_, rfl⟩
    rw [hX] at hx ⊢
    go_enter Tryz.func70, Tryz.ntmps70
    go_wp2_with (go_at_call 54; go_must (refine (cb _).mono ?_; rintro e w2 ⟨rfl, hq⟩; subst w2))
    go_ret
    exact ⟨rfl, rfl⟩
  · rw [if_neg h]
    have hB : (decide (0 ≤ i) && decide (i ≤ (l.length : Int) - 1)) = false := by
      rw [Bool.and_eq_false_iff, decide_eq_false_iff_not, decide_eq_false_iff_not]
      omega
    rw [hB] at cb
    go_enter Tryz.func70, Tryz.ntmps70
    go_wp2_with (go_at_call 54; go_must (refine (cb _).mono ?_; rintro e w2 ⟨rfl, hq⟩; subst w2))
    go_ret
    exact ⟨rfl, rfl⟩
end Go.Proofs.YthopmdfichfhdaaGreatDoor

namespace Go.Proofs.YthopmdfichfhdaaGreatDoor
open Go.ChangeShapes Go.WideShapes Go.ChangeAt Go.RowKit
set_option linter.unusedVariables false
set_option linter.unusedSimpArgs false

/-- All numbers of an instruction are numbers of 64 bits. -/
structure Ins64 (x : Ins) : Prop where
  op : i64B x.op
  ce : i64B x.cell
  rg : i64B x.reg
  ar : i64B x.ar
  an : i64B x.an
  br : i64B x.br
  bn : i64B x.bn
  od : i64B x.ord
  cq : i64B x.cnd
  tg : i64B x.tgt
def FieldW (f c : Nat) : Prop := ∀ (x : Ins) (w : World), Ins64 x → PowT w → Calls Tryz.prog f #[insV x, .int .i32 (c : Int)] w fun e w' => e = .returned (.string (mkT (fieldT x c))) ∧ Below w.heap.size w w'
set_option maxRecDepth 100000 in
set_option maxHeartbeats 4000000 in
theorem wordR : FieldW 56 82 := by
  intro x w hx hT
  have hb0 : Below w.heap.size w (w.alloc (.cells (insC x) 43)) := (Below.refl _ w).alloc (Nat.le_refl _) _
  have ct := implItoa hx.rg _ (hT.below hb0)
  have hsz := itoa_size hx.rg
  obtain ⟨op, ce, rg, ar, an, br, bn, od, cq, tg⟩ := x
  have HB : Hid (Below w.heap.size w (w.alloc (.cells (insC ⟨op, ce, rg, ar, an, br, bn, od, cq, tg⟩) 43))) := hb0
  clear hb0 hT hx
  unfold insV
  unfold insC at HB ct
  dsimp only at HB ct hsz ⊢
  show Calls _ _ _ _ (fun e w' => e = .returned (.string (mkT (114 :: Lib.itoa rg))) ∧ Below w.heap.size w w')
  go_enter Tryz.func56, Tryz.ntmps56
  go_wp2_with (go_at_call 50; go_must (refine ct.mono ?_; rintro e w2 ⟨rfl, hb2⟩))
  go_ret
  refine ⟨?_, HB.out.trans (hb2.mono HB.out.size)⟩
  rw [← lett_add]
  rfl
set_option maxRecDepth 100000 in
set_option maxHeartbeats 4000000 in
theorem wordC : FieldW 56 67 := by
  intro x w hx hT
  have hb0 : Below w.heap.size w (w.alloc (.cells (insC x) 43)) := (Below.refl _ w).alloc (Nat.le_refl _) _
  have ct := implItoa hx.ce _ (hT.below hb0)
  have hsz := itoa_size hx.ce
  obtain ⟨op, ce, rg, ar, an, br, bn, od, cq, tg⟩ := x
  have HB : Hid (Below w.heap.size w (w.alloc (.cells (insC ⟨op, ce, rg, ar, an, br, bn, od, cq, tg⟩) 43))) := hb0
  clear hb0 hT hx
  unfold insV
  unfold insC at HB ct
  dsimp only at HB ct hsz ⊢
  show Calls _ _ _ _ (fun e w' => e = .returned (.string (mkT (99 :: Lib.itoa ce))) ∧ Below w.heap.size w w')
  go_enter Tryz.func56, Tryz.ntmps56
  go_wp2_with (go_at_call 50; go_must (refine ct.mono ?_; rintro e w2 ⟨rfl, hb2⟩))
  go_ret
  refine ⟨?_, HB.out.trans (hb2.mono HB.out.size)⟩
  rw [← lett_add]
  rfl
set_option maxRecDepth 100000 in
set_option maxHeartbeats 4000000 in
theorem wordN : FieldW 56 78 := by
  intro x w hx hT
  have hb0 : Below w.heap.size w (w.alloc (.cells (insC x) 43)) := (Below.refl _ w).alloc (Nat.le_refl _) _
  have ct := implItoa hx.tg _ (hT.below hb0)
  obtain ⟨op, ce, rg, ar, an, br, bn, od, cq, tg⟩ := x
  have HB : Hid (Below w.heap.size w (w.alloc (.cells (insC ⟨op, ce, rg, ar, an, br, bn, od, cq, tg⟩) 43))) := hb0
  clear hb0 hT hx
  unfold insV
  unfold insC at HB ct
  dsimp only at HB ct ⊢
  show Calls _ _ _ _ (fun e w' => e = .returned (.string (itoaT tg)) ∧ Below w.heap.size w w')
  go_enter Tryz.func56, Tryz.ntmps56
  go_wp2_with (go_at_call 50; go_must (refine ct.mono ?_; rintro e w2 ⟨rfl, hb2⟩))
  go_ret
  exact ⟨rfl, HB.out.trans (hb2.mono HB.out.size)⟩
set_option maxRecDepth 100000 in
set_option maxHeartbeats 4000000 in
theorem wordA : FieldW 56 65 := by
  intro x w hx hT
  have hb0 : Below w.heap.size w (w.alloc (.cells (insC x) 43)) := (Below.refl _ w).alloc (Nat.le_refl _) _
  have ct := implValText hx.ar hx.an _ (hT.below hb0)
  obtain ⟨op, ce, rg, ar, an, br, bn, od, cq, tg⟩ := x
  have HB : Hid (Below w.heap.size w (w.alloc (.cells (insC ⟨op, ce, rg, ar, an, br, bn, od, cq, tg⟩) 43))) := hb0
  clear hb0 hT hx
  unfold insV
  unfold insC at HB ct
  dsimp only at HB ct ⊢
  show Calls _ _ _ _ (fun e w' => e = .returned (.string (mkT (valT ar an))) ∧ Below w.heap.size w w')
  go_enter Tryz.func56, Tryz.ntmps56
  go_wp2_with (go_at_call 68; go_must (refine ct.mono ?_; rintro e w2 ⟨rfl, hb2⟩))
  go_ret
  exact ⟨rfl, HB.out.trans (hb2.mono HB.out.size)⟩
set_option maxRecDepth 100000 in
set_option maxHeartbeats 4000000 in
theorem wordB : FieldW 56 66 := by
  intro x w hx hT
  have hb0 : Below w.heap.size w (w.alloc (.cells (insC x) 43)) := (Below.refl _ w).alloc (Nat.le_refl _) _
  have ct := implValText hx.br hx.bn _ (hT.below hb0)
  obtain ⟨op, ce, rg, ar, an, br, bn, od, cq, tg⟩ := x
  have HB : Hid (Below w.heap.size w (w.alloc (.cells (insC ⟨op, ce, rg, ar, an, br, bn, od, cq, tg⟩) 43))) := hb0
  clear hb0 hT hx
  unfold insV
  unfold insC at HB ct
  dsimp only at HB ct ⊢
  show Calls _ _ _ _ (fun e w' => e = .returned (.string (mkT (valT br bn))) ∧ Below w.heap.size w w')
  go_enter Tryz.func56, Tryz.ntmps56
  go_wp2_with (go_at_call 68; go_must (refine ct.mono ?_; rintro e w2 ⟨rfl, hb2⟩))
  go_ret
  exact ⟨rfl, HB.out.trans (hb2.mono HB.out.size)⟩
end Go.Proofs.YthopmdfichfhdaaGreatDoor

namespace Go.Proofs.YthopmdfichfhdaaGreatDoor
open Go.ChangeShapes Go.WideShapes Go.ChangeAt Go.RowKit
set_option linter.unusedVariables false
set_option linter.unusedSimpArgs false

set_option maxRecDepth 100000 in
set_option maxHeartbeats 4000000 in
theorem wordO : FieldW 56 79 := by
  intro x w hx hT
  have hb0 : Below w.heap.size w (w.alloc (.cells (insC x) 43)) := (Below.refl _ w).alloc (Nat.le_refl _) _
  have k0 : Blk (w.alloc (.cells (insC x) 43)) w.heap.size 43 (insC x) := heap_alloc_last w _
  have cw := implOrderWords (w.alloc (.cells (insC x) 43))
  have hi := hx.od
  obtain ⟨op, ce, rg, ar, an, br, bn, od, cq, tg⟩ := x
  clear hT hx
  dsimp only at hi
  have HI : Hid (∀ (b : Nat) (W : World), Blk W b 116 ordV → Calls Tryz.prog 70 #[.slice (some ⟨b, 0, none⟩) 6 6, .int .i64 od] W fun e w' => e = .returned (.string (wordAt ordL od)) ∧ W = w') := fun b W hb => by
    have := implWordAt (l := ordL) (b := b) (cs := #[]) (ty := 0) hi W (by decide) (fun j t hj => by
      have hlt : j < ordL.length := by
        rcases Nat.lt_or_ge j ordL.length with h | h
        · exact h
        · rw [List.getElem?_eq_none h] at hj; cases hj
      have hlt : j < 6 := hlt
      have hh : j = 0 ∨ j = 1 ∨ j = 2 ∨ j = 3 ∨ j = 4 ∨ j = 5 := by omega
      rcases hh with rfl | rfl | rfl | rfl | rfl | rfl
      all_goals (cases hj; exact hb.cell _))
    exact this.mono fun e w' h => ⟨h.1, h.2.symm⟩
  have HB : Hid (Below w.heap.size w (w.alloc (.cells (insC ⟨op, ce, rg, ar, an, br, bn, od, cq, tg⟩) 43))) := hb0
  have HK : Hid (Blk (w.alloc (.cells (insC ⟨op, ce, rg, ar, an, br, bn, od, cq, tg⟩) 43)) w.heap.size 43 (insC ⟨op, ce, rg, ar, an, br, bn, od, cq, tg⟩)) := k0
  clear hb0 k0 hi
  unfold insV
  unfold insC at HB HK cw
  unfold ordV at cw HI
  dsimp only at HB HK cw ⊢
  show Calls _ _ _ _ (fun e w' => e = .returned (.string (mkT (wordAt ordL od).data.toList)) ∧ Below w.heap.size w w')
  rw [mkT_self]
  obtain ⟨X, hX⟩ : ∃ X, wordAt ordL od = X := ⟨_, rfl⟩
  rw [hX] at HI ⊢
  clear hX
  go_enter Tryz.func56, Tryz.ntmps56
  go_upto_region 12 with (go_at_call 69; go_must (refine cw.mono ?_; rintro e w1 ⟨rfl, hb1⟩))
  have bA : Below w1.heap.size w1 (w1.alloc (.cells #[.string ⟨#[]⟩, .string ⟨#[114, 101, 108, 97, 120, 101, 100]⟩, .string ⟨#[97, 99, 113, 117, 105, 114, 101]⟩, .string ⟨#[114, 101, 108, 101, 97, 115, 101]⟩, .string ⟨#[98, 111, 116, 104]⟩, .string ⟨#[115, 101, 113]⟩] 116)) := (Below.refl _ w1).alloc (Nat.le_refl _) _
  have kB : Blk (w1.alloc (.cells #[.string ⟨#[]⟩, .string ⟨#[114, 101, 108, 97, 120, 101, 100]⟩, .string ⟨#[97, 99, 113, 117, 105, 114, 101]⟩, .string ⟨#[114, 101, 108, 101, 97, 115, 101]⟩, .string ⟨#[98, 111, 116, 104]⟩, .string ⟨#[115, 101, 113]⟩] 116)) w1.heap.size 116 #[.string ⟨#[]⟩, .string ⟨#[114, 101, 108, 97, 120, 101, 100]⟩, .string ⟨#[97, 99, 113, 117, 105, 114, 101]⟩, .string ⟨#[114, 101, 108, 101, 97, 115, 101]⟩, .string ⟨#[98, 111, 116, 104]⟩, .string ⟨#[115, 101, 113]⟩] := heap_alloc_last w1 _
  have ci := HI.out w1.heap.size
  have k1 := (HK.out.below hb1).below bA
  have hbA := HB.out.trans ((hb1.trans (bA.mono hb1.size)).mono HB.out.size)
  obtain ⟨wS, hwS⟩ : ∃ W, w1.alloc (.cells #[.string ⟨#[]⟩, .string ⟨#[114, 101, 108, 97, 120, 101, 100]⟩, .string ⟨#[97, 99, 113, 117, 105, 114, 101]⟩, .string ⟨#[114, 101, 108, 101, 97, 115, 101]⟩, .string ⟨#[98, 111, 116, 104]⟩, .string ⟨#[115, 101, 113]⟩] 116) = W := ⟨_, rfl⟩
  rw [hwS] at bA kB k1 hbA ⊢
  clear hwS HI HK HB cw hb1 bA
  have cq : ∀ N : GoodW (fun W => Below wS.heap.size wS W), Calls Tryz.prog 70 #[.slice (some ⟨w1.heap.size, 0, none⟩) 6 6, .int .i64 od] N.W fun e w' => e = .returned (.string X) ∧ N.W = w' := fun N => ci _ (kB.below N.ok)
  have d0 : ∀ N : GoodW (fun W => Below wS.heap.size wS W), N.W.cell? ⟨w.heap.size, 7, none⟩ = some (.int .i64 od) := fun N => (k1.below N.ok).cell 7
  haveI ne1 : Nonempty (GoodW (fun W => Below wS.heap.size wS W)) := ⟨⟨_, Below.refl _ wS⟩⟩
  clear ci kB k1
  refine wp_region_calm (fun W => Below wS.heap.size wS W) (by kernel_rfl) (by kernel_rfl) (Below.refl _ wS).drew ?_
  repeat (go_big_quiet_step ((go_at_call 70; exact Calls.calm_same _ (cq _))))
  refine wpQuiet_nil ?_
  rintro WX ⟨⟨XA, hXA⟩, hEA⟩
  have hWX : Below wS.heap.size wS WX := by rw [hEA]; exact hXA
  clear hEA hXA XA d0 ne1 cq
  go_wp2_with fail
  go_ret
  exact ⟨rfl, hbA.trans (hWX.mono hbA.size)⟩
set_option maxRecDepth 100000 in
set_option maxHeartbeats 4000000 in
theorem wordQ : FieldW 56 63 := by
  intro x w hx hT
  have hb0 : Below w.heap.size w (w.alloc (.cells (insC x) 43)) := (Below.refl _ w).alloc (Nat.le_refl _) _
  have k0 : Blk (w.alloc (.cells (insC x) 43)) w.heap.size 43 (insC x) := heap_alloc_last w _
  have cw := implCondWords (w.alloc (.cells (insC x) 43))
  have hi := hx.cq
  obtain ⟨op, ce, rg, ar, an, br, bn, od, cq, tg⟩ := x
  clear hT hx
  dsimp only at hi
  have HI : Hid (∀ (b : Nat) (W : World), Blk W b 119 cndV → Calls Tryz.prog 70 #[.slice (some ⟨b, 0, none⟩) 5 5, .int .i64 cq] W fun e w' => e = .returned (.string (wordAt cndL cq)) ∧ W = w') := fun b W hb => by
    have := implWordAt (l := cndL) (b := b) (cs := #[]) (ty := 0) hi W (by decide) (fun j t hj => by
      have hlt : j < cndL.length := by
        rcases Nat.lt_or_ge j cndL.length with h | h
        · exact h
        · rw [List.getElem?_eq_none h] at hj; cases hj
      have hlt : j < 5 := hlt
      have hh : j = 0 ∨ j = 1 ∨ j = 2 ∨ j = 3 ∨ j = 4 := by omega
      rcases hh with rfl | rfl | rfl | rfl | rfl
      all_goals (cases hj; exact hb.cell _))
    exact this.mono fun e w' h => ⟨h.1, h.2.symm⟩
  have HB : Hid (Below w.heap.size w (w.alloc (.cells (insC ⟨op, ce, rg, ar, an, br, bn, od, cq, tg⟩) 43))) := hb0
  have HK : Hid (Blk (w.alloc (.cells (insC ⟨op, ce, rg, ar, an, br, bn, od, cq, tg⟩) 43)) w.heap.size 43 (insC ⟨op, ce, rg, ar, an, br, bn, od, cq, tg⟩)) := k0
  clear hb0 k0 hi
  unfold insV
  unfold insC at HB HK cw
  unfold cndV at cw HI
  dsimp only at HB HK cw ⊢
  show Calls _ _ _ _ (fun e w' => e = .returned (.string (mkT (wordAt cndL cq).data.toList)) ∧ Below w.heap.size w w')
  rw [mkT_self]
  obtain ⟨X, hX⟩ : ∃ X, wordAt cndL cq = X := ⟨_, rfl⟩
  rw [hX] at HI ⊢
  clear hX
  go_enter Tryz.func56, Tryz.ntmps56
  go_upto_region 15 with (go_at_call 71; go_must (refine cw.mono ?_; rintro e w1 ⟨rfl, hb1⟩))
  have bA : Below w1.heap.size w1 (w1.alloc (.cells #[.string ⟨#[]⟩, .string ⟨#[61, 61]⟩, .string ⟨#[33, 61]⟩, .string ⟨#[60]⟩, .string ⟨#[60, 61]⟩] 119)) := (Below.refl _ w1).alloc (Nat.le_refl _) _
  have kB : Blk (w1.alloc (.cells #[.string ⟨#[]⟩, .string ⟨#[61, 61]⟩, .string ⟨#[33, 61]⟩, .string ⟨#[60]⟩, .string ⟨#[60, 61]⟩] 119)) w1.heap.size 119 #[.string ⟨#[]⟩, .string ⟨#[61, 61]⟩, .string ⟨#[33, 61]⟩, .string ⟨#[60]⟩, .string ⟨#[60, 61]⟩] := heap_alloc_last w1 _
  have ci := HI.out w1.heap.size
  have k1 := (HK.out.below hb1).below bA
  have hbA := HB.out.trans ((hb1.trans (bA.mono hb1.size)).mono HB.out.size)
  obtain ⟨wS, hwS⟩ : ∃ W, w1.alloc (.cells #[.string ⟨#[]⟩, .string ⟨#[61, 61]⟩, .string ⟨#[33, 61]⟩, .string ⟨#[60]⟩, .string ⟨#[60, 61]⟩] 119) = W := ⟨_, rfl⟩
  rw [hwS] at bA kB k1 hbA ⊢
  clear hwS HI HK HB cw hb1 bA
  have cqq : ∀ N : GoodW (fun W => Below wS.heap.size wS W), Calls Tryz.prog 70 #[.slice (some ⟨w1.heap.size, 0, none⟩) 5 5, .int .i64 cq] N.W fun e w' => e = .returned (.string X) ∧ N.W = w' := fun N => ci _ (kB.below N.ok)
  have d0 : ∀ N : GoodW (fun W => Below wS.heap.size wS W), N.W.cell? ⟨w.heap.size, 8, none⟩ = some (.int .i64 cq) := fun N => (k1.below N.ok).cell 8
  haveI ne1 : Nonempty (GoodW (fun W => Below wS.heap.size wS W)) := ⟨⟨_, Below.refl _ wS⟩⟩
  clear ci kB k1
  refine wp_region_calm (fun W => Below wS.heap.size wS W) (by kernel_rfl) (by kernel_rfl) (Below.refl _ wS).drew ?_
  repeat (go_big_quiet_step ((go_at_call 70; exact Calls.calm_same _ (cqq _))))
  refine wpQuiet_nil ?_
  rintro WX ⟨⟨XA, hXA⟩, hEA⟩
  have hWX : Below wS.heap.size wS WX := by rw [hEA]; exact hXA
  clear hEA hXA XA d0 ne1 cqq
  go_wp2_with fail
  go_ret
  exact ⟨rfl, hbA.trans (hWX.mono hbA.size)⟩
theorem implFieldText {c : Nat} (hc : c = 82 ∨ c = 67 ∨ c = 65 ∨ c = 66 ∨ c = 79 ∨ c = 63 ∨ c = 78) : FieldW 56 c := by
  rcases hc with rfl | rfl | rfl | rfl | rfl | rfl | rfl
  · exact wordR
  · exact wordC
  · exact wordA
  · exact wordB
  · exact wordO
  · exact wordQ
  · exact wordN
end Go.Proofs.YthopmdfichfhdaaGreatDoor
