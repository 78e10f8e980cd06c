/-
  One field of an instruction, as the program reads it: (*progReader).field. No statement of the seat is proved here.
-/
import Derived.Test.YthopmdfichfhdaaGreatDoorI2
namespace Go.Proofs.YthopmdfichfhdaaGreatDoor
open Go.ChangeShapes Go.WideShapes Go.ChangeAt Go.RowKit
set_option linter.unusedVariables false
set_option linter.unusedSimpArgs false

/-- Of the blocks that were there only g may have turned. -/
def Sole (g : Nat) (w w' : World) : Prop := Below 0 w w' ∧ ∀ k, k < w.heap.size → k ≠ g → w'.heap[k]? = w.heap[k]?
theorem Sole.refl (g : Nat) (w : World) : Sole g w w := ⟨Below.refl 0 w, fun _ _ _ => rfl⟩
theorem Sole.trans {g : Nat} {w w1 w2 : World} (h1 : Sole g w w1) (h2 : Sole g w1 w2) : Sole g w w2 :=
  ⟨h1.1.trans h2.1, fun k hk hg => (h2.2 k (Nat.lt_of_lt_of_le hk h1.1.size) hg).trans (h1.2 k hk hg)⟩
theorem Sole.bel {g : Nat} {w w1 w2 : World} (h1 : Sole g w w1) (h2 : Below w1.heap.size w1 w2) : Sole g w w2 :=
  h1.trans ⟨h2.mono (Nat.zero_le _), fun k hk _ => h2.block k hk⟩
theorem Sole.set {g : Nat} {w w1 : World} (h : Sole g w w1) (i : Nat) (v : Value) : Sole g w (w1.setCell ⟨g, i, none⟩ v) :=
  h.trans ⟨(Below.refl 0 w1).setCell (Nat.zero_le _) _, fun k _ hg => Below.heap_setCell _ _ _ _ hg⟩
theorem Sole.cell {g : Nat} {w w1 : World} (h : Sole g w w1) {b i : Nat} (hb : b < w.heap.size) (hg : b ≠ g) : w1.cell? ⟨b, i, none⟩ = w.cell? ⟨b, i, none⟩ := by
  simp only [World.cell?, h.2 b hb hg]
theorem Sole.below {g B : Nat} {w w1 : World} (h : Sole g w w1) (hg : B ≤ g) (hB : B ≤ w.heap.size) : Below B w w1 :=
  ⟨h.1.os, h.1.tape, h.1.output, h.1.size, fun k hk => h.2 k (Nat.lt_of_lt_of_le hk hB) (fun e => by omega)⟩
theorem beq_bytes (a b : ByteArray) : (a.toList == b.toList) = decide (a = b) := by
  rw [toList_data, toList_data]
  by_cases h : a = b
  · subst h; simp
  · rw [decide_eq_false h, beq_eq_false_iff_ne]
    exact fun e => h (bytes_inj e)
theorem idx_of (t : ByteArray) : ∀ (l : List ByteArray) (i : Nat), Lib.idxFromS l t i = match idxO l t with | some k => ((i + k : Nat) : Int) | none => -1
  | [], i => by simp [Lib.idxFromS, idxO]
  | z :: l, i => by
    have ih := idx_of t l (i + 1)
    unfold Lib.idxFromS idxO
    rw [List.findIdx?_cons, beq_bytes]
    by_cases h : z = t
    · rw [decide_eq_true h]; simp [h]
    · rw [decide_eq_false h]
      simp only [h, if_false, Bool.false_eq_true]
      rw [ih]
      unfold idxO
      cases List.findIdx? (fun c => c.toList == t.toList) l with
      | none => rfl
      | some k =>
        show ((i + 1 + k : Nat) : Int) = ((i + (k + 1) : Nat) : Int)
        congr 1; omega
theorem idx_eq (l : List ByteArray) (t : ByteArray) : Lib.idxOfS l t = idxV l t := by
  unfold Lib.idxOfS idxV
  rw [idx_of]
  cases idxO l t <;> simp
/-- What a field becomes, and whether it is right. -/
def fldX (c : Nat) (t : ByteArray) (x : Ins) : Ins :=
  if c = 82 then { x with reg := numV (restT t 114) } else if c = 67 then { x with cell := numV (restT t 99) } else if c = 65 then { x with ar := voR t, an := voN t } else if c = 66 then { x with br := voR t, bn := voN t } else if c = 79 then { x with ord := idxV ordL t } else if c = 63 then { x with cnd := idxV cndL t } else if c = 78 then { x with tgt := numV t } else x
def fldB (c : Nat) (t : ByteArray) (x : Ins) (n : Nat) : Bool :=
  if c = 82 then nbB t 114 1 6 else if c = 67 then nbB t 99 0 ((n : Int) - 1) else if c = 65 then voB t else if c = 66 then voB t else if c = 79 then ordB x.op (idxV ordL t) else if c = 63 then decide (0 < idxV cndL t) else if c = 78 then numB t && (decide (0 ≤ numV t) && decide (numV t ≤ (if x.op = 11 then 99 else 9223372036854775807))) else false
def FieldC (f : Nat) (c : Nat) : Prop := ∀ (t : ByteArray) (x : Ins) (n gr gx : Nat) (ia : Option Addr) (ic : Nat) (w : World), t.size ≤ 65536 → n ≤ 8 → Blk w gx 43 (insC x) → w.cell? ⟨gr, 0, none⟩ = some (.slice ia n ic) → gr ≠ gx →
  Calls Tryz.prog f #[.pointer (some ⟨gr, 0, none⟩), .pointer (some ⟨gx, 0, none⟩), .int .i32 (c : Int), .string t] w fun e w' => e = .returned (.bool (fldB c t x n)) ∧ Blk w' gx 43 (insC (fldX c t x)) ∧ Sole gx w w'
set_option maxRecDepth 100000 in
set_option maxHeartbeats 4000000 in
theorem fieldR : FieldC 89 82 := by
  intro t x n gr gx ia ic w ht hn hk hr hne
  obtain ⟨op, ce, rg, ar, an, br, bn, od, cq, tg⟩ := x
  unfold insC at hk
  dsimp only at hk
  have hgr : gr < w.heap.size := by
    cases hh : w.heap[gr]? with
    | none => simp [World.cell?, hh] at hr
    | some o => exact (Array.getElem?_eq_some_iff.1 hh).1
  have cn := implNumbered t 114 1 6 ht w
  change Calls _ _ _ w (fun e w' => e = .returned (.tuple #[.int .i64 (numV (restT t 114)), .bool (nbB t 114 1 6)]) ∧ _) at cn
  show Calls _ _ _ _ (fun e w' => e = .returned (.bool (nbB t 114 1 6)) ∧ Blk w' gx 43 (insC ⟨op, ce, numV (restT t 114), ar, an, br, bn, od, cq, tg⟩) ∧ Sole gx w w')
  unfold insC
  dsimp only
  obtain ⟨V, hV⟩ : ∃ V, numV (restT t 114) = V := ⟨_, rfl⟩
  obtain ⟨B, hB⟩ : ∃ B, nbB t 114 1 6 = B := ⟨_, rfl⟩
  rw [hV, hB] at cn
  rw [hV, hB]
  have HK : Hid (Blk w gx 43 #[.int .i64 op, .int .i64 ce, .int .i64 rg, .int .i64 ar, .int .i64 an, .int .i64 br, .int .i64 bn, .int .i64 od, .int .i64 cq, .int .i64 tg]) := hk
  clear hV hB hk hr
  go_enter Tryz.func89, Tryz.ntmps89
  go_wp2_with (go_at_call 99; go_must (refine cn.mono ?_; rintro e w1 ⟨rfl, hb1⟩; have k1 := HK.out.below hb1; have c2 := k1.cell 2; have f2 := k1.fro 2; simp at c2))
  go_ret
  exact ⟨rfl, by simpa using k1.set 2 (.int .i64 V), ((Sole.refl gx w).bel hb1).set 2 _⟩
set_option maxRecDepth 100000 in
set_option maxHeartbeats 4000000 in
theorem fieldC : FieldC 89 67 := by
  intro t x n gr gx ia ic w ht hn hk hr hne
  obtain ⟨op, ce, rg, ar, an, br, bn, od, cq, tg⟩ := x
  unfold insC at hk
  dsimp only at hk
  have hgr : gr < w.heap.size := by
    cases hh : w.heap[gr]? with
    | none => simp [World.cell?, hh] at hr
    | some o => exact (Array.getElem?_eq_some_iff.1 hh).1
  have cn := implNumbered t 99 0 ((n : Int) - 1) ht w
  change Calls _ _ _ w (fun e w' => e = .returned (.tuple #[.int .i64 (numV (restT t 99)), .bool (nbB t 99 0 ((n : Int) - 1))]) ∧ _) at cn
  show Calls _ _ _ _ (fun e w' => e = .returned (.bool (nbB t 99 0 ((n : Int) - 1))) ∧ Blk w' gx 43 (insC ⟨op, numV (restT t 99), rg, ar, an, br, bn, od, cq, tg⟩) ∧ Sole gx w w')
  unfold insC
  dsimp only
  have hn' : (n : Int) ≤ 8 := by omega
  obtain ⟨V, hV⟩ : ∃ V, numV (restT t 99) = V := ⟨_, rfl⟩
  obtain ⟨B, hB⟩ : ∃ B, nbB t 99 0 ((n : Int) - 1) = B := ⟨_, rfl⟩
  rw [hV, hB] at cn
  rw [hV, hB]
  have HK : Hid (Blk w gx 43 #[.int .i64 op, .int .i64 ce, .int .i64 rg, .int .i64 ar, .int .i64 an, .int .i64 br, .int .i64 bn, .int .i64 od, .int .i64 cq, .int .i64 tg]) := hk
  clear hV hB hk
  go_enter Tryz.func89, Tryz.ntmps89
  go_wp2_with (go_at_call 99; go_must (refine cn.mono ?_; rintro e w1 ⟨rfl, hb1⟩; have k1 := HK.out.below hb1; have c1 := k1.cell 1; have f1 := k1.fro 1; simp at c1))
  go_ret
  exact ⟨rfl, by simpa using k1.set 1 (.int .i64 V), ((Sole.refl gx w).bel hb1).set 1 _⟩
set_option maxRecDepth 100000 in
set_option maxHeartbeats 4000000 in
theorem fieldA : FieldC 89 65 := by
  intro t x n gr gx ia ic w ht hn hk hr hne
  obtain ⟨op, ce, rg, ar, an, br, bn, od, cq, tg⟩ := x
  unfold insC at hk
  dsimp only at hk
  have hgr : gr < w.heap.size := by
    cases hh : w.heap[gr]? with
    | none => simp [World.cell?, hh] at hr
    | some o => exact (Array.getElem?_eq_some_iff.1 hh).1
  have cn := implValOf t ht w
  show Calls _ _ _ _ (fun e w' => e = .returned (.bool (voB t)) ∧ Blk w' gx 43 (insC ⟨op, ce, rg, voR t, voN t, br, bn, od, cq, tg⟩) ∧ Sole gx w w')
  unfold insC
  dsimp only
  obtain ⟨V, hV⟩ : ∃ V, voR t = V := ⟨_, rfl⟩
  obtain ⟨U, hU⟩ : ∃ V, voN t = V := ⟨_, rfl⟩
  obtain ⟨B, hB⟩ : ∃ B, voB t = B := ⟨_, rfl⟩
  rw [hV, hU, hB] at cn
  rw [hV, hU, hB]
  have HK : Hid (Blk w gx 43 #[.int .i64 op, .int .i64 ce, .int .i64 rg, .int .i64 ar, .int .i64 an, .int .i64 br, .int .i64 bn, .int .i64 od, .int .i64 cq, .int .i64 tg]) := hk
  clear hV hU hB hk hr
  go_enter Tryz.func89, Tryz.ntmps89
  go_wp2_with (go_at_call 100; go_must (refine cn.mono ?_; rintro e w1 ⟨rfl, hb1⟩; have k1 := HK.out.below hb1; have c3 := k1.cell 3; have c4 := k1.cell 4; have f3 := k1.fro 3; have f4 := k1.fro 4; simp at c3 c4))
  go_ret
  exact ⟨rfl, by simpa using (k1.set 3 (.int .i64 V)).set 4 (.int .i64 U), (((Sole.refl gx w).bel hb1).set 3 _).set 4 _⟩
set_option maxRecDepth 100000 in
set_option maxHeartbeats 4000000 in
theorem fieldB : FieldC 89 66 := by
  intro t x n gr gx ia ic w ht hn hk hr hne
  obtain ⟨op, ce, rg, ar, an, br, bn, od, cq, tg⟩ := x
  unfold insC at hk
  dsimp only at hk
  have hgr : gr < w.heap.size := by
    cases hh : w.heap[gr]? with
    | none => simp [World.cell?, hh] at hr
    | some o => exact (Array.getElem?_eq_some_iff.1 hh).1
  have cn := implValOf t ht w
  show Calls _ _ _ _ (fun e w' => e = .returned (.bool (voB t)) ∧ Blk w' gx 43 (insC ⟨op, ce, rg, ar, an, voR t, voN t, od, cq, tg⟩) ∧ Sole gx w w')
  unfold insC
  dsimp only
  obtain ⟨V, hV⟩ : ∃ V, voR t = V := ⟨_, rfl⟩
  obtain ⟨U, hU⟩ : ∃ V, voN t = V := ⟨_, rfl⟩
  obtain ⟨B, hB⟩ : ∃ B, voB t = B := ⟨_, rfl⟩
  rw [hV, hU, hB] at cn
  rw [hV, hU, hB]
  have HK : Hid (Blk w gx 43 #[.int .i64 op, .int .i64 ce, .int .i64 rg, .int .i64 ar, .int .i64 an, .int .i64 br, .int .i64 bn, .int .i64 od, .int .i64 cq, .int .i64 tg]) := hk
  clear hV hU hB hk hr
  go_enter Tryz.func89, Tryz.ntmps89
  go_wp2_with (go_at_call 100; go_must (refine cn.mono ?_; rintro e w1 ⟨rfl, hb1⟩; have k1 := HK.out.below hb1; have c3 := k1.cell 5; have c4 := k1.cell 6; have f3 := k1.fro 5; have f4 := k1.fro 6; simp at c3 c4))
  go_ret
  exact ⟨rfl, by simpa using (k1.set 5 (.int .i64 V)).set 6 (.int .i64 U), (((Sole.refl gx w).bel hb1).set 5 _).set 6 _⟩
set_option maxRecDepth 100000 in
set_option maxHeartbeats 4000000 in
theorem fieldN : FieldC 89 78 := by
  intro t x n gr gx ia ic w ht hn hk hr hne
  obtain ⟨op, ce, rg, ar, an, br, bn, od, cq, tg⟩ := x
  unfold insC at hk
  dsimp only at hk
  have hgr : gr < w.heap.size := by
    cases hh : w.heap[gr]? with
    | none => simp [World.cell?, hh] at hr
    | some o => exact (Array.getElem?_eq_some_iff.1 hh).1
  show Calls _ _ _ _ (fun e w' => e = .returned (.bool (numB t && (decide (0 ≤ numV t) && decide (numV t ≤ (if op = 11 then 99 else 9223372036854775807))))) ∧ Blk w' gx 43 (insC ⟨op, ce, rg, ar, an, br, bn, od, cq, numV t⟩) ∧ Sole gx w w')
  unfold insC
  dsimp only
  have cm := implMostTo op w
  obtain ⟨M, hM⟩ : ∃ M : Int, (if op = 11 then (99 : Int) else 9223372036854775807) = M := ⟨_, rfl⟩
  rw [hM] at cm ⊢
  have cn := implNumberedN t 0 M ht w
  obtain ⟨V, hV⟩ : ∃ V, numV t = V := ⟨_, rfl⟩
  rw [hV] at cn ⊢
  obtain ⟨B, hB⟩ : ∃ B, (numB t && (decide (0 ≤ V) && decide (V ≤ M))) = B := ⟨_, rfl⟩
  rw [hB] at cn ⊢
  have HK : Hid (Blk w gx 43 #[.int .i64 op, .int .i64 ce, .int .i64 rg, .int .i64 ar, .int .i64 an, .int .i64 br, .int .i64 bn, .int .i64 od, .int .i64 cq, .int .i64 tg]) := hk
  have c0 := hk.cell 0
  simp at c0
  clear hM hV hB hk hr
  go_enter Tryz.func89, Tryz.ntmps89
  go_wp2_with (first
    | (go_at_call 103; go_must (refine cm.mono ?_; rintro e w0 ⟨rfl, hq⟩; obtain rfl := hq.symm; clear hq))
    | (go_at_call 99; go_must (refine cn.mono ?_; rintro e w1 ⟨rfl, hb1⟩; have k1 := HK.out.below hb1; have c9 := k1.cell 9; have f9 := k1.fro 9; simp at c9)))
  go_ret
  exact ⟨rfl, by simpa using k1.set 9 (.int .i64 V), ((Sole.refl gx w).bel hb1).set 9 _⟩
set_option maxRecDepth 100000 in
set_option maxHeartbeats 4000000 in
theorem fieldO : FieldC 89 79 := by
  intro t x n gr gx ia ic w ht hn hk hr hne
  obtain ⟨op, ce, rg, ar, an, br, bn, od, cq, tg⟩ := x
  unfold insC at hk
  dsimp only at hk
  have hgr : gr < w.heap.size := by
    cases hh : w.heap[gr]? with
    | none => simp [World.cell?, hh] at hr
    | some o => exact (Array.getElem?_eq_some_iff.1 hh).1
  have cw := implOrderWords w
  show Calls _ _ _ _ (fun e w' => e = .returned (.bool (ordB op (idxV ordL t))) ∧ Blk w' gx 43 (insC ⟨op, ce, rg, ar, an, br, bn, idxV ordL t, cq, tg⟩) ∧ Sole gx w w')
  unfold insC
  dsimp only
  have HIX : Hid (∀ (b : Nat) (W : World), Blk W b 116 ordV → Calls Tryz.prog 101 #[.slice (some ⟨b, 0, none⟩) 6 6, .string t] W fun e w' => e = .returned (.int .i64 (idxV ordL t)) ∧ w' = W) := fun b W hb => by
    have := Tryz.slices_Index_string b 0 6 6 ordL t W (by decide) (by decide) (fun j hj => by
      have hj : j < 6 := hj
      have hh : j = 0 ∨ j = 1 ∨ j = 2 ∨ j = 3 ∨ j = 4 ∨ j = 5 := by omega
      rcases hh with rfl | rfl | rfl | rfl | rfl | rfl
      all_goals exact hb.cell _)
    rw [show ordL.take 6 = ordL from rfl, idx_eq] at this
    exact this
  obtain ⟨V, hV⟩ : ∃ V, idxV ordL t = V := ⟨_, rfl⟩
  simp only [hV] at HIX ⊢
  unfold ordV at cw HIX
  have cm := implMayHave op V
  obtain ⟨B, hB⟩ : ∃ B, ordB op V = B := ⟨_, rfl⟩
  simp only [hB] at cm ⊢
  clear hB
  have HK : Hid (Blk w gx 43 #[.int .i64 op, .int .i64 ce, .int .i64 rg, .int .i64 ar, .int .i64 an, .int .i64 br, .int .i64 bn, .int .i64 od, .int .i64 cq, .int .i64 tg]) := hk
  clear hV hk hr
  go_enter Tryz.func89, Tryz.ntmps89
  go_upto_region 13 with (go_at_call 69; go_must (refine cw.mono ?_; rintro e w1 ⟨rfl, hb1⟩))
  have bA : Below w1.heap.size w1 (w1.alloc (.cells #[.string ⟨#[]⟩, .string ⟨#[114, 101, 108, 97, 120, 101, 100]⟩, .string ⟨#[97, 99, 113, 117, 105, 114, 101]⟩, .string ⟨#[114, 101, 108, 101, 97, 115, 101]⟩, .string ⟨#[98, 111, 116, 104]⟩, .string ⟨#[115, 101, 113]⟩] 116)) := (Below.refl _ w1).alloc (Nat.le_refl _) _
  have kB : Blk (w1.alloc (.cells #[.string ⟨#[]⟩, .string ⟨#[114, 101, 108, 97, 120, 101, 100]⟩, .string ⟨#[97, 99, 113, 117, 105, 114, 101]⟩, .string ⟨#[114, 101, 108, 101, 97, 115, 101]⟩, .string ⟨#[98, 111, 116, 104]⟩, .string ⟨#[115, 101, 113]⟩] 116)) w1.heap.size 116 #[.string ⟨#[]⟩, .string ⟨#[114, 101, 108, 97, 120, 101, 100]⟩, .string ⟨#[97, 99, 113, 117, 105, 114, 101]⟩, .string ⟨#[114, 101, 108, 101, 97, 115, 101]⟩, .string ⟨#[98, 111, 116, 104]⟩, .string ⟨#[115, 101, 113]⟩] := heap_alloc_last w1 _
  have hbA := good_below hb1 bA
  have ci := HIX.out w1.heap.size _ kB
  have k1 := HK.out.below hbA
  have HK1 : Hid (Blk (w1.alloc (.cells #[.string ⟨#[]⟩, .string ⟨#[114, 101, 108, 97, 120, 101, 100]⟩, .string ⟨#[97, 99, 113, 117, 105, 114, 101]⟩, .string ⟨#[114, 101, 108, 101, 97, 115, 101]⟩, .string ⟨#[98, 111, 116, 104]⟩, .string ⟨#[115, 101, 113]⟩] 116)) gx 43 #[.int .i64 op, .int .i64 ce, .int .i64 rg, .int .i64 ar, .int .i64 an, .int .i64 br, .int .i64 bn, .int .i64 od, .int .i64 cq, .int .i64 tg]) := k1
  have HBA : Hid (Below w.heap.size w (w1.alloc (.cells #[.string ⟨#[]⟩, .string ⟨#[114, 101, 108, 97, 120, 101, 100]⟩, .string ⟨#[97, 99, 113, 117, 105, 114, 101]⟩, .string ⟨#[114, 101, 108, 101, 97, 115, 101]⟩, .string ⟨#[98, 111, 116, 104]⟩, .string ⟨#[115, 101, 113]⟩] 116))) := hbA
  have c7 := k1.cell 7
  have f7 := k1.fro 7
  simp at c7
  clear kB bA hbA k1 hb1 HIX cw HK
  go_upto_region 14 with (go_at_call 101; go_must (refine ci.mono ?_; rintro e w2 ⟨rfl, hq⟩; obtain rfl := hq.symm; clear hq))
  have k2 := HK1.out.set 7 (.int .i64 V)
  have s2 := ((Sole.refl gx w).bel HBA.out).set 7 (.int .i64 V)
  clear c7 f7 ci
  obtain ⟨wS, hwS⟩ : ∃ W, (w1.alloc (.cells #[.string ⟨#[]⟩, .string ⟨#[114, 101, 108, 97, 120, 101, 100]⟩, .string ⟨#[97, 99, 113, 117, 105, 114, 101]⟩, .string ⟨#[114, 101, 108, 101, 97, 115, 101]⟩, .string ⟨#[98, 111, 116, 104]⟩, .string ⟨#[115, 101, 113]⟩] 116)).setCell ⟨gx, 7, none⟩ (.int .i64 V) = W := ⟨_, rfl⟩
  rw [hwS] at k2 s2 ⊢
  simp at k2
  have cq : ∀ W, Calls Tryz.prog 102 #[.int .i64 op, .int .i64 V] W fun e w' => e = .returned (.bool B) ∧ W = w' := fun W => (cm W).mono fun e w' h => ⟨h.1, h.2.symm⟩
  have d0 : ∀ N : GoodW (fun W => Below wS.heap.size wS W), N.W.cell? ⟨gx, 0, none⟩ = some (.int .i64 op) := fun N => (k2.below N.ok).cell 0
  have d7 : ∀ N : GoodW (fun W => Below wS.heap.size wS W), N.W.cell? ⟨gx, 7, none⟩ = some (.int .i64 V) := fun N => (k2.below N.ok).cell 7
  clear hwS cm
  haveI ne1 : Nonempty (GoodW (fun W => Below wS.heap.size wS W)) := ⟨⟨_, Below.refl _ wS⟩⟩
  refine wp_region_calm (fun W => Below wS.heap.size wS W) (by kernel_rfl) (by kernel_rfl) (Below.refl _ wS).drew ?_
  repeat (go_big_quiet_step ((go_at_call 102; exact Calls.calm_same _ (cq _))))
  refine wpQuiet_nil ?_
  rintro WX ⟨⟨XA, hXA⟩, hEA⟩
  have hWX : Below wS.heap.size wS WX := by rw [hEA]; exact hXA
  clear hEA hXA XA d0 d7 ne1 cq
  go_wp2_with fail
  go_ret
  exact ⟨rfl, k2.below hWX, s2.bel hWX⟩
set_option maxRecDepth 100000 in
set_option maxHeartbeats 4000000 in
theorem fieldQ : FieldC 89 63 := by
  intro t x n gr gx ia ic w ht hn hk hr hne
  obtain ⟨op, ce, rg, ar, an, br, bn, od, cq, tg⟩ := x
  unfold insC at hk
  dsimp only at hk
  have hgr : gr < w.heap.size := by
    cases hh : w.heap[gr]? with
    | none => simp [World.cell?, hh] at hr
    | some o => exact (Array.getElem?_eq_some_iff.1 hh).1
  have cw := implCondWords w
  show Calls _ _ _ _ (fun e w' => e = .returned (.bool (decide (0 < idxV cndL t))) ∧ Blk w' gx 43 (insC ⟨op, ce, rg, ar, an, br, bn, od, idxV cndL t, tg⟩) ∧ Sole gx w w')
  unfold insC
  dsimp only
  have HIX : Hid (∀ (b : Nat) (W : World), Blk W b 119 cndV → Calls Tryz.prog 101 #[.slice (some ⟨b, 0, none⟩) 5 5, .string t] W fun e w' => e = .returned (.int .i64 (idxV cndL t)) ∧ w' = W) := fun b W hb => by
    have := Tryz.slices_Index_string b 0 5 5 cndL t W (by decide) (by decide) (fun j hj => by
      have hj : j < 5 := hj
      have hh : j = 0 ∨ j = 1 ∨ j = 2 ∨ j = 3 ∨ j = 4 := by omega
      rcases hh with rfl | rfl | rfl | rfl | rfl
      all_goals exact hb.cell _)
    rw [show cndL.take 5 = cndL from rfl, idx_eq] at this
    exact this
  obtain ⟨V, hV⟩ : ∃ V, idxV cndL t = V := ⟨_, rfl⟩
  simp only [hV] at HIX ⊢
  unfold cndV at cw HIX
  have HK : Hid (Blk w gx 43 #[.int .i64 op, .int .i64 ce, .int .i64 rg, .int .i64 ar, .int .i64 an, .int .i64 br, .int .i64 bn, .int .i64 od, .int .i64 cq, .int .i64 tg]) := hk
  clear hV hk hr
  go_enter Tryz.func89, Tryz.ntmps89
  go_upto_region 17 with (go_at_call 71; go_must (refine cw.mono ?_; rintro e w1 ⟨rfl, hb1⟩))
  have bA : Below w1.heap.size w1 (w1.alloc (.cells #[.string ⟨#[]⟩, .string ⟨#[61, 61]⟩, .string ⟨#[33, 61]⟩, .string ⟨#[60]⟩, .string ⟨#[60, 61]⟩] 119)) := (Below.refl _ w1).alloc (Nat.le_refl _) _
  have kB : Blk (w1.alloc (.cells #[.string ⟨#[]⟩, .string ⟨#[61, 61]⟩, .string ⟨#[33, 61]⟩, .string ⟨#[60]⟩, .string ⟨#[60, 61]⟩] 119)) w1.heap.size 119 #[.string ⟨#[]⟩, .string ⟨#[61, 61]⟩, .string ⟨#[33, 61]⟩, .string ⟨#[60]⟩, .string ⟨#[60, 61]⟩] := heap_alloc_last w1 _
  have hbA := good_below hb1 bA
  have ci := HIX.out w1.heap.size _ kB
  have k1 := HK.out.below hbA
  have HK1 : Hid (Blk (w1.alloc (.cells #[.string ⟨#[]⟩, .string ⟨#[61, 61]⟩, .string ⟨#[33, 61]⟩, .string ⟨#[60]⟩, .string ⟨#[60, 61]⟩] 119)) gx 43 #[.int .i64 op, .int .i64 ce, .int .i64 rg, .int .i64 ar, .int .i64 an, .int .i64 br, .int .i64 bn, .int .i64 od, .int .i64 cq, .int .i64 tg]) := k1
  have HBA : Hid (Below w.heap.size w (w1.alloc (.cells #[.string ⟨#[]⟩, .string ⟨#[61, 61]⟩, .string ⟨#[33, 61]⟩, .string ⟨#[60]⟩, .string ⟨#[60, 61]⟩] 119))) := hbA
  have c7 := k1.cell 8
  have f7 := k1.fro 8
  simp at c7
  clear kB bA hbA k1 hb1 HIX cw HK
  go_upto_region 18 with (go_at_call 101; go_must (refine ci.mono ?_; rintro e w2 ⟨rfl, hq⟩; obtain rfl := hq.symm; clear hq))
  have k2 := HK1.out.set 8 (.int .i64 V)
  have s2 := ((Sole.refl gx w).bel HBA.out).set 8 (.int .i64 V)
  clear c7 f7 ci
  obtain ⟨wS, hwS⟩ : ∃ W, (w1.alloc (.cells #[.string ⟨#[]⟩, .string ⟨#[61, 61]⟩, .string ⟨#[33, 61]⟩, .string ⟨#[60]⟩, .string ⟨#[60, 61]⟩] 119)).setCell ⟨gx, 8, none⟩ (.int .i64 V) = W := ⟨_, rfl⟩
  rw [hwS] at k2 s2 ⊢
  simp at k2
  have d8 := k2.cell 8
  simp at d8
  clear hwS
  go_wp2_with fail
  go_ret
  exact ⟨rfl, k2, s2⟩
/-- Each field's contract. -/
theorem implField {c : Nat} (hc : c = 82 ∨ c = 67 ∨ c = 65 ∨ c = 66 ∨ c = 79 ∨ c = 63 ∨ c = 78) : FieldC 89 c := by
  rcases hc with rfl | rfl | rfl | rfl | rfl | rfl | rfl
  · exact fieldR
  · exact fieldC
  · exact fieldA
  · exact fieldB
  · exact fieldO
  · exact fieldQ
  · exact fieldN
end Go.Proofs.YthopmdfichfhdaaGreatDoor
