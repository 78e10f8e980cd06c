/-
  Small functions of the program's reader: impl.isBetween, numbered, valOf, mayHave, mostTo. The words of orders and conditions: impl.orderWords, condWords. No statement of the seat is proved here.
-/
import Derived.Test.YthopmdfichfhdaaGreatDoorZ6
import Derived.Test.YthopmdfichfhdaaGreatDoorQ3
import Derived.Deep.Cut
import Derived.Deep.CutRange
import Derived.Deep.CutBlock
import Derived.Laws.ResultCell
namespace Go.Proofs.YthopmdfichfhdaaGreatDoor
open Go.ChangeShapes Go.WideShapes Go.ChangeAt Go.RowKit
set_option linter.unusedVariables false
set_option linter.unusedSimpArgs false

def begB (t : ByteArray) (c : Nat) : Bool := decide (0 < t.size) && decide (byt t 0 = c)
def restT (t : ByteArray) (c : Nat) : ByteArray := if begB t c then t.extract 1 t.size else t
theorem pre_one (t : ByteArray) (c : UInt8) : preB t ⟨#[c]⟩ = begB t c.toNat := by
  unfold preB begB
  have hl : (⟨#[c]⟩ : ByteArray).toList = [c] := by rw [toList_data]
  rw [hl]
  change (decide (1 ≤ t.size) && ((t.extract 0 1).toList == [c])) = _
  rw [list_byt]
  by_cases h : 0 < t.size
  · have hsz : (t.extract 0 1).size = 1 := by rw [ByteArray.size_extract]; omega
    have hb : byt (t.extract 0 1) 0 = byt t 0 := by
      rw [← byt_eq _ 0 (by omega), ← byt_eq _ 0 h]
      congr 1
      exact ByteArray.getElem_extract ..
    rw [decide_eq_true (show 1 ≤ t.size by omega), decide_eq_true h, decide_eq_true hsz, hb]
    rfl
  · rw [decide_eq_false (show ¬ (1 ≤ t.size) by omega), decide_eq_false h]
    rfl
theorem cutOne (t : ByteArray) (c : UInt8) (w : World) :
    Calls Tryz.prog 83 #[.string t, .string ⟨#[c]⟩] w fun e w' => e = .returned (.tuple #[.string (restT t c.toNat), .bool (begB t c.toNat)]) ∧ w' = w := by
  have cc := Tryz.strings_CutPrefix t ⟨#[c]⟩ w
  have hpn := pre_one t c
  have hpb : preB t ⟨#[c]⟩ = (decide ((⟨#[c]⟩ : ByteArray).size ≤ t.size) && ((t.extract 0 (⟨#[c]⟩ : ByteArray).size).toList == (⟨#[c]⟩ : ByteArray).toList)) := rfl
  rw [← Lib.hasPrefix_raw, ← hpb, hpn] at cc
  rw [hpn] at hpb
  unfold restT
  cases hb : begB t c.toNat
  · rw [hb] at hpb cc
    rw [Lib.trimPrefix_miss t ⟨#[c]⟩ hpb.symm] at cc
    exact cc
  · rw [hb] at hpb cc
    have h2 := hpb.symm
    simp only [Bool.and_eq_true, decide_eq_true_eq] at h2
    rw [Lib.trimPrefix_hit t ⟨#[c]⟩ h2.1 h2.2] at cc
    exact cc
theorem cutNone (t : ByteArray) (w : World) :
    Calls Tryz.prog 83 #[.string t, .string ⟨#[]⟩] w fun e w' => e = .returned (.tuple #[.string t, .bool true]) ∧ w' = w := by
  have cc := Tryz.strings_CutPrefix t ⟨#[]⟩ w
  have hp : (decide ((⟨#[]⟩ : ByteArray).size ≤ t.size) && ((t.extract 0 (⟨#[]⟩ : ByteArray).size).toList == (⟨#[]⟩ : ByteArray).toList)) = true := by
    have e : (t.extract 0 (⟨#[]⟩ : ByteArray).size).toList = [] := by
      have := empty_byt (t.extract 0 (⟨#[]⟩ : ByteArray).size)
      rw [decide_eq_true (by rw [ByteArray.size_extract]; show min 0 t.size - 0 = 0; omega)] at this
      simpa using this
    rw [e]
    have e2 : (⟨#[]⟩ : ByteArray).toList = [] := by rw [toList_data]
    rw [e2]
    simp
    exact Nat.zero_le _
  have h2 := hp
  simp only [Bool.and_eq_true, decide_eq_true_eq] at h2
  rw [← Lib.hasPrefix_raw, hp, Lib.trimPrefix_hit t ⟨#[]⟩ h2.1 h2.2] at cc
  have e3 : t.extract (⟨#[]⟩ : ByteArray).size t.size = t := by
    show t.extract 0 t.size = t
    exact ByteArray.extract_zero_size
  rw [e3] at cc
  exact cc
theorem implBetween (r lo hi : Int) (w : World) : Calls Tryz.prog 54 #[.int .i64 r, .int .i64 lo, .int .i64 hi] w fun e w' => e = .returned (.bool (decide (lo ≤ r) && decide (r ≤ hi))) ∧ w' = w := by
  by_cases h1 : lo ≤ r
  · by_cases h2 : r ≤ hi
    · rw [decide_eq_true h1, decide_eq_true h2]
      go_enter Tryz.func54, Tryz.ntmps54
      go_wp2_with fail
      go_ret
      exact ⟨rfl, rfl⟩
    · rw [decide_eq_true h1, decide_eq_false h2]
      go_enter Tryz.func54, Tryz.ntmps54
      go_wp2_with fail
      go_ret
      exact ⟨rfl, rfl⟩
  · rw [decide_eq_false h1]
    go_enter Tryz.func54, Tryz.ntmps54
    go_wp2_with fail
    go_ret
    exact ⟨rfl, rfl⟩
theorem rest_size (t : ByteArray) (c : Nat) : (restT t c).size ≤ t.size := by
  unfold restT
  split
  · rw [ByteArray.size_extract]; omega
  · exact Nat.le_refl _
set_option maxRecDepth 100000 in
set_option maxHeartbeats 2000000 in
/-- A number behind a letter, which the caller's contract on CutPrefix tells. -/
theorem implNumberedA (t l d : ByteArray) (b : Bool) (lo hi : Int) (hd : d.size ≤ 65536) (w : World)
    (cc : ∀ w, Calls Tryz.prog 83 #[.string t, .string l] w fun e w' => e = .returned (.tuple #[.string d, .bool b]) ∧ w' = w) :
    Calls Tryz.prog 99 #[.string t, .string l, .int .i64 lo, .int .i64 hi] w fun e w' => e = .returned (.tuple #[.int .i64 (numV d), .bool (b && numB d && (decide (lo ≤ numV d) && decide (numV d ≤ hi)))]) ∧ Below w.heap.size w w' := by
  have cn := implNumber d hd w
  obtain ⟨V, hV⟩ : ∃ V, numV d = V := ⟨_, rfl⟩
  obtain ⟨NB, hNB⟩ : ∃ B, numB d = B := ⟨_, rfl⟩
  rw [hV, hNB] at cn
  rw [hV, hNB]
  have cb := implBetween V lo hi
  obtain ⟨BT, hBT⟩ : ∃ B, (decide (lo ≤ V) && decide (V ≤ hi)) = B := ⟨_, rfl⟩
  rw [hBT]
  simp only [hBT] at cb
  clear hV hNB hBT hd
  cases b
  · go_enter Tryz.func99, Tryz.ntmps99
    go_wp2_with (first
      | (go_at_call 83; go_must (refine (cc _).mono ?_; rintro e w1 ⟨rfl, hq⟩; obtain rfl := hq.symm; clear hq))
      | (go_at_call 76; go_must (refine cn.mono ?_; rintro e w2 ⟨rfl, hb2⟩)))
    go_ret2
    exact ⟨rfl, hb2⟩
  · cases NB
    · go_enter Tryz.func99, Tryz.ntmps99
      go_wp2_with (first
        | (go_at_call 83; go_must (refine (cc _).mono ?_; rintro e w1 ⟨rfl, hq⟩; obtain rfl := hq.symm; clear hq))
        | (go_at_call 76; go_must (refine cn.mono ?_; rintro e w2 ⟨rfl, hb2⟩)))
      go_ret2
      exact ⟨rfl, hb2⟩
    · go_enter Tryz.func99, Tryz.ntmps99
      go_wp2_with (first
        | (go_at_call 83; go_must (refine (cc _).mono ?_; rintro e w1 ⟨rfl, hq⟩; obtain rfl := hq.symm; clear hq))
        | (go_at_call 54; go_must (refine (cb _).mono ?_; rintro e w3 ⟨rfl, hq⟩; obtain rfl := hq.symm; clear hq))
        | (go_at_call 76; go_must (refine cn.mono ?_; rintro e w2 ⟨rfl, hb2⟩)))
      go_ret2
      exact ⟨by cases BT <;> rfl, hb2⟩
def nbB (t : ByteArray) (c : Nat) (lo hi : Int) : Bool := begB t c && numB (restT t c) && (decide (lo ≤ numV (restT t c)) && decide (numV (restT t c) ≤ hi))
theorem implNumbered (t : ByteArray) (c : UInt8) (lo hi : Int) (ht : t.size ≤ 65536) (w : World) :
    Calls Tryz.prog 99 #[.string t, .string ⟨#[c]⟩, .int .i64 lo, .int .i64 hi] w fun e w' => e = .returned (.tuple #[.int .i64 (numV (restT t c.toNat)), .bool (nbB t c.toNat lo hi)]) ∧ Below w.heap.size w w' :=
  implNumberedA t ⟨#[c]⟩ (restT t c.toNat) (begB t c.toNat) lo hi (by have := rest_size t c.toNat; omega) w (fun w => cutOne t c w)
theorem implNumberedN (t : ByteArray) (lo hi : Int) (ht : t.size ≤ 65536) (w : World) :
    Calls Tryz.prog 99 #[.string t, .string ⟨#[]⟩, .int .i64 lo, .int .i64 hi] w fun e w' => e = .returned (.tuple #[.int .i64 (numV t), .bool (numB t && (decide (lo ≤ numV t) && decide (numV t ≤ hi)))]) ∧ Below w.heap.size w w' := by
  have := implNumberedA t ⟨#[]⟩ t true lo hi ht w (fun w => cutNone t w)
  simpa using this
/-- A value's word, as the program reads it. -/
def voR (t : ByteArray) : Int := if nbB t 114 1 6 then numV (restT t 114) else 0
def voN (t : ByteArray) : Int := if nbB t 114 1 6 then 0 else numV t
def voB (t : ByteArray) : Bool := if nbB t 114 1 6 then true else numB t
set_option maxRecDepth 100000 in
set_option maxHeartbeats 2000000 in
theorem implValOf (t : ByteArray) (ht : t.size ≤ 65536) (w : World) :
    Calls Tryz.prog 100 #[.string t] w fun e w' => e = .returned (.tuple #[.agg #[.int .i64 (voR t), .int .i64 (voN t)], .bool (voB t)]) ∧ Below w.heap.size w w' := by
  unfold voR voN voB
  obtain ⟨w1, hw1⟩ : ∃ W, w.alloc (.cells #[.int .i64 0, .int .i64 0] 41) = W := ⟨_, rfl⟩
  have b1 : Below w.heap.size w w1 := by rw [← hw1]; exact (Below.refl _ w).alloc (Nat.le_refl _) _
  have k1 : Blk w1 w.heap.size 41 #[.int .i64 0, .int .i64 0] := by rw [← hw1]; exact heap_alloc_last w _
  have cn := implNumbered t 114 1 6 ht w1
  change Calls _ _ _ w1 (fun e w' => e = .returned (.tuple #[.int .i64 (numV (restT t 114)), .bool (nbB t 114 1 6)]) ∧ _) at cn
  obtain ⟨V, hV⟩ : ∃ V, numV (restT t 114) = V := ⟨_, rfl⟩
  obtain ⟨B, hB⟩ : ∃ B, nbB t 114 1 6 = B := ⟨_, rfl⟩
  rw [hV, hB] at cn
  rw [hV, hB]
  have cm := fun W => implNumber t ht W
  obtain ⟨V2, hV2⟩ : ∃ V, numV t = V := ⟨_, rfl⟩
  obtain ⟨B2, hB2⟩ : ∃ B, numB t = B := ⟨_, rfl⟩
  simp only [hV2, hB2] at cm
  rw [hV2, hB2]
  have HK : Hid (Blk w1 w.heap.size 41 #[.int .i64 0, .int .i64 0]) := k1
  have HB : Hid (Below w.heap.size w w1) := b1
  clear hV hB hV2 hB2 k1 b1
  cases B
  · go_enter Tryz.func100, Tryz.ntmps100
    go_upto_region 5 with (first
      | (go_at_call 76; go_must (refine (cm _).mono ?_; rintro e w3 ⟨rfl, hb3⟩; have k3 := (HK.out.below hb2).below hb3; have c0 := k3.cell 0; have c1 := k3.cell 1; have f0 := k3.fro 0; have f1 := k3.fro 1; simp at c0 c1))
      | (go_at_call 99; go_must (refine cn.mono ?_; rintro e w2 ⟨rfl, hb2⟩)))
    go_wp2_with fail
    have hz := (k3.set 0 (.int .i64 0)).set 1 (.int .i64 V2)
    have u0 := hz.cell 0
    have u1 := hz.cell 1
    simp at u0 u1
    have hbb := ((HB.out.trans ((good_below hb2 hb3).mono HB.out.size)).setCell (p := ⟨w.heap.size, 0, none⟩) (Nat.le_refl _) (.int .i64 0)).setCell (p := ⟨w.heap.size, 1, none⟩) (Nat.le_refl _) (.int .i64 V2)
    refine bodyPost_ret (v := .tuple #[.agg #[.int .i64 0, .int .i64 V2], .bool B2]) (by simp [results, Tryz.results100, go_sem, u0, u1]) rfl ⟨rfl, hbb⟩
  · go_enter Tryz.func100, Tryz.ntmps100
    go_wp2_with (go_at_call 99; go_must (refine cn.mono ?_; rintro e w2 ⟨rfl, hb2⟩; have k3 := HK.out.below hb2; have c0 := k3.cell 0; have c1 := k3.cell 1; have f0 := k3.fro 0; have f1 := k3.fro 1; simp at c0 c1))
    have hz := (k3.set 0 (.int .i64 V)).set 1 (.int .i64 0)
    have u0 := hz.cell 0
    have u1 := hz.cell 1
    simp at u0 u1
    have hbb := ((HB.out.trans (hb2.mono HB.out.size)).setCell (p := ⟨w.heap.size, 0, none⟩) (Nat.le_refl _) (.int .i64 V)).setCell (p := ⟨w.heap.size, 1, none⟩) (Nat.le_refl _) (.int .i64 0)
    refine bodyPost_ret (v := .tuple #[.agg #[.int .i64 V, .int .i64 0], .bool true]) (by simp [results, Tryz.results100, go_sem, u0, u1]) rfl ⟨rfl, hbb⟩
theorem implMostTo (op : Int) (w : World) : Calls Tryz.prog 103 #[.int .i64 op] w fun e w' => e = .returned (.int .i64 (if op = 11 then 99 else 9223372036854775807)) ∧ w' = w := by
  by_cases h : op = 11
  · subst h
    go_enter Tryz.func103, Tryz.ntmps103
    go_wp2_with fail
    go_ret
    exact ⟨rfl, rfl⟩
  · have q : (op == 11) = false := by rw [beq_eq_false_iff_ne]; exact h
    rw [if_neg h]
    go_enter Tryz.func103, Tryz.ntmps103
    go_wp2_with fail
    go_ret
    exact ⟨rfl, rfl⟩
set_option maxRecDepth 100000 in
set_option maxHeartbeats 2000000 in
theorem implMayHave (op o : Int) (w : World) : Calls Tryz.prog 102 #[.int .i64 op, .int .i64 o] w fun e w' => e = .returned (.bool (ordB op o)) ∧ w' = w := by
  have cb := implBetween o 1 5
  go_enter Tryz.func102, Tryz.ntmps102
  go_wp2_with (go_at_call 54; go_must (refine (cb _).mono ?_; rintro e w3 ⟨rfl, hq⟩; obtain rfl := hq.symm; clear hq))
  all_goals
    go_ret
    refine ⟨congrArg (fun b => Ending.returned (Value.bool b)) ?_, rfl⟩
    clear cb
    rw [Bool.eq_iff_iff]
    unfold ordB
    simp only [Bool.or_eq_true, Bool.and_eq_true, decide_eq_true_eq, beq_iff_eq, beq_eq_false_iff_ne, ne_eq, true_iff] at *
    (try split)
    all_goals (try split)
    all_goals (try simp only [Bool.and_eq_true, decide_eq_true_eq, and_true])
    all_goals omega
end Go.Proofs.YthopmdfichfhdaaGreatDoor

namespace Go.Proofs.YthopmdfichfhdaaGreatDoor
open Go.ChangeShapes Go.WideShapes Go.ChangeAt Go.RowKit
set_option linter.unusedVariables false
set_option linter.unusedSimpArgs false

theorem results_cell1 {fn : Func} {p : Tmp} {ty : TypeId} (h : fn.results = #[.cell p ty]) (tmps : Array Value) (P : Program) (w : World) :
    (results fn tmps).run P w = ((asAddr (tmps.getD p undef)).run P w).andThen fun a w₁ => (loadVar ty a).run P w₁ := by
  simp only [results, h]
  simp [Sem.run_bind, Result.andThen]
def ordL : List ByteArray := [⟨#[]⟩, ⟨#[114, 101, 108, 97, 120, 101, 100]⟩, ⟨#[97, 99, 113, 117, 105, 114, 101]⟩, ⟨#[114, 101, 108, 101, 97, 115, 101]⟩, ⟨#[98, 111, 116, 104]⟩, ⟨#[115, 101, 113]⟩]
def cndL : List ByteArray := [⟨#[]⟩, ⟨#[61, 61]⟩, ⟨#[33, 61]⟩, ⟨#[60]⟩, ⟨#[60, 61]⟩]
def ordV : Array Value := #[.string ⟨#[]⟩, .string ⟨#[114, 101, 108, 97, 120, 101, 100]⟩, .string ⟨#[97, 99, 113, 117, 105, 114, 101]⟩, .string ⟨#[114, 101, 108, 101, 97, 115, 101]⟩, .string ⟨#[98, 111, 116, 104]⟩, .string ⟨#[115, 101, 113]⟩]
def cndV : Array Value := #[.string ⟨#[]⟩, .string ⟨#[61, 61]⟩, .string ⟨#[33, 61]⟩, .string ⟨#[60]⟩, .string ⟨#[60, 61]⟩]
set_option maxRecDepth 100000 in
set_option maxHeartbeats 2000000 in
theorem implOrderWords (w : World) : Calls Tryz.prog 69 #[] w fun e w' => e = .returned (.agg ordV) ∧ Below w.heap.size w w' := by
  go_enter Tryz.func69, Tryz.ntmps69
  go_wp2_with fail
  have k : Blk (w.alloc (.cells ordV 116)) w.heap.size 116 ordV := heap_alloc_last w _
  have u0 := k.cell 0
  have u1 := k.cell 1
  have u2 := k.cell 2
  have u3 := k.cell 3
  have u4 := k.cell 4
  have u5 := k.cell 5
  unfold ordV at k u0 u1 u2 u3 u4 u5
  simp at u0 u1 u2 u3 u4 u5
  exact bodyPost_ret (v := .agg ordV) (by unfold ordV; rw [results_cell1 Tryz.results69]; simp [go_sem, u0, u1, u2, u3, u4, u5]) rfl ⟨rfl, (Below.refl _ w).alloc (Nat.le_refl _) _⟩
set_option maxRecDepth 100000 in
set_option maxHeartbeats 2000000 in
theorem implCondWords (w : World) : Calls Tryz.prog 71 #[] w fun e w' => e = .returned (.agg cndV) ∧ Below w.heap.size w w' := by
  go_enter Tryz.func71, Tryz.ntmps71
  go_wp2_with fail
  have k : Blk (w.alloc (.cells cndV 119)) w.heap.size 119 cndV := heap_alloc_last w _
  have u0 := k.cell 0
  have u1 := k.cell 1
  have u2 := k.cell 2
  have u3 := k.cell 3
  have u4 := k.cell 4
  unfold cndV at k u0 u1 u2 u3 u4
  simp at u0 u1 u2 u3 u4
  exact bodyPost_ret (v := .agg cndV) (by unfold cndV; rw [results_cell1 Tryz.results71]; simp [go_sem, u0, u1, u2, u3, u4]) rfl ⟨rfl, (Below.refl _ w).alloc (Nat.le_refl _) _⟩
end Go.Proofs.YthopmdfichfhdaaGreatDoor
