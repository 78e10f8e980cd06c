/-
  Digits, values and words, written by the specification. Words and an instruction's text, written by the specification. No statement of the seat is proved here.
-/
import Derived.Test.YthopmdfichfhdaaGreatDoorX11
import Derived.Deep.RegionHeld3
namespace Go.Proofs.YthopmdfichfhdaaGreatDoor
open Go.ChangeShapes Go.WideShapes Go.ChangeAt Go.RowKit
set_option linter.unusedVariables false
set_option linter.unusedSimpArgs false

theorem one_digit {d : Nat} (hd : d < 10) : ∃ T : ByteArray, mkT [UInt8.ofNat (48 + d)] = T ∧ ∀ (g : Nat) (W : World), W.cell? ⟨g, 0, none⟩ = some (.int .u8 (48 + (d : Int))) → (convert 68 9 (.slice (some ⟨g, 0, none⟩) 1 1)).run Tryz.prog W = .ok (.string T) W := by
  refine ⟨_, rfl, fun g W h => ?_⟩
  have hr := run_convert_bytes_back (P := Tryz.prog) W 68 9 5 ⟨g, 0, none⟩ 1 [UInt8.ofNat (48 + d)] Tryz.underlying68 Tryz.underlying5 Tryz.underlying9 (fun j hj => by
    obtain rfl : j = 0 := by simpa using hj
    show W.cell? ⟨g, 0 + 0, none⟩ = _
    rw [Nat.zero_add, h]
    have : (UInt8.ofNat (48 + d)).toNat = 48 + d := u8_digit d hd
    simp only [List.getElem_singleton, this]
    simp)
  exact hr
theorem mkT_append (a b : List UInt8) : mkT a ++ mkT b = mkT (a ++ b) := by
  apply ByteArray.ext
  simp [mkT]
set_option maxRecDepth 100000 in
set_option maxHeartbeats 4000000 in
theorem specDigitsN (u : Nat) (hu : u ≤ 9223372036854775807) : ∀ w : World, Calls Tryz.prog 21 #[.int .i64 (u : Int)] w fun e w' => e = .returned (.string (mkT (Lib.decDigits u))) ∧ Below w.heap.size w w' := by
  induction u using Nat.strongRecOn with
  | ind u ih =>
  intro w
  have h1 : ((u : Int) == -9223372036854775808) = false := by rw [beq_eq_false_iff_ne]; omega
  have h2 : ¬ ((u : Int) < 0) := by omega
  by_cases hs : u < 10
  · have h3 : (u : Int) < 10 := by omega
    obtain ⟨T, hT, hc⟩ := one_digit hs
    have hcv := hc w.heap.size (w.alloc (.cells #[.int .u8 (48 + (u : Int))] 5)) (by
      have hb : Blk (w.alloc (.cells #[.int .u8 (48 + (u : Int))] 5)) w.heap.size 5 #[.int .u8 (48 + (u : Int))] := heap_alloc_last w _
      exact hb.cell 0)
    have hd : Lib.decDigits u = [UInt8.ofNat (48 + u)] := by unfold Lib.decDigits; rw [dif_pos hs]
    have HD : Hid (mkT (Lib.decDigits u) = T) := by rw [hd]; exact hT
    clear hd ih hs hT hc
    go_enter Tryz.func21, Tryz.ntmps21
    go_wp2_with fail
    go_ret
    exact ⟨by rw [HD.out]; rfl, (Below.refl _ w).alloc (Nat.le_refl _) _⟩
  · have h3 : ¬ ((u : Int) < 10) := by omega
    have hi := ih (u / 10) (by omega) (by omega)
    have hd : Lib.decDigits u = Lib.decDigits (u / 10) ++ [UInt8.ofNat (48 + u % 10)] := by rw [Lib.decDigits, dif_neg hs]
    obtain ⟨T, hT, hc⟩ := one_digit (show u % 10 < 10 by omega)
    have hde : mkT (Lib.decDigits u) = mkT (Lib.decDigits (u / 10)) ++ T := by rw [hd, ← hT, mkT_append]
    have HD : Hid (mkT (Lib.decDigits u) = mkT (Lib.decDigits (u / 10)) ++ T) := hde
    obtain ⟨D, hD⟩ : ∃ D, mkT (Lib.decDigits (u / 10)) = D := ⟨_, rfl⟩
    have hz1 : T.size = 1 := by rw [← hT]; rfl
    have hz2 : D.size ≤ 19 := by rw [← hD]; exact dec_len 18 (u / 10) (by omega)
    rw [hD] at hi HD
    clear hde
    have hz : ¬ (9223372036854775807 < D.size + T.size) := by omega
    clear hz1 hz2
    obtain ⟨q, hq⟩ : ∃ q, u / 10 = q := ⟨_, rfl⟩
    obtain ⟨r, hr⟩ : ∃ r, u % 10 = r := ⟨_, rfl⟩
    have w1 : IntKind.i64.wrap ((u : Int) / 10) = (q : Int) := by simp [IntKind.wrap, IntKind.min, IntKind.max, IntKind.signed, IntKind.bits]; omega
    have w2 : (u : Int).tmod 10 = (r : Int) := by rw [Int.tmod_eq_emod_of_nonneg (by omega)]; omega
    have w3 : IntKind.i64.wrap (48 + (r : Int)) = 48 + (r : Int) := by simp [IntKind.wrap, IntKind.min, IntKind.max, IntKind.signed, IntKind.bits]; omega
    have w4 : IntKind.u8.wrap (48 + (r : Int)) = 48 + (r : Int) := by simp [IntKind.wrap, IntKind.min, IntKind.max, IntKind.signed, IntKind.bits]; omega
    rw [hq] at hi
    rw [hr] at hc
    clear hd ih hs hT hD hq hr
    go_enter Tryz.func21, Tryz.ntmps21
    go_upto_region 7 with fail
    have kE : Blk (w.drew.alloc (.cells #[.int .u8 (48 + (r : Int))] 5)) w.heap.size 5 #[.int .u8 (48 + (r : Int))] := heap_alloc_last _ _
    have HE : Hid (Blk (w.drew.alloc (.cells #[.int .u8 (48 + (r : Int))] 5)) w.heap.size 5 #[.int .u8 (48 + (r : Int))]) := kE
    have bD : Below w.heap.size w w.drew := (Below.refl _ w).drew
    have bE : Below w.heap.size w (w.drew.alloc (.cells #[.int .u8 (48 + (r : Int))] 5)) := bD.alloc bD.size _
    have HBE : Hid (Below w.heap.size w (w.drew.alloc (.cells #[.int .u8 (48 + (r : Int))] 5)) ∧ Below w.heap.size w w.drew) := ⟨bE, bD⟩
    clear kE bD bE
    go_region_law (refine step_callW rfl 21 #[.int .i64 (q : Int)] (by kernel_rfl) (hi _) ?_; rintro e w8 ⟨rfl, hb8⟩; refine ⟨_, rfl, ?_⟩; have B8 : Below w.heap.size w w8 := (by first | exact good_below HBE.out.2 hb8 | exact good_below HBE.out.1 hb8); try (have k8 := HE.out.below hb8; have u0 := k8.cell 0; simp at u0))
    all_goals
      go_wp2_with fail
      go_ret
      exact ⟨by rw [HD.out]; rfl, by first | exact B8 | exact B8.alloc B8.size _⟩
end Go.Proofs.YthopmdfichfhdaaGreatDoor

namespace Go.Proofs.YthopmdfichfhdaaGreatDoor
open Go.ChangeShapes Go.WideShapes Go.ChangeAt Go.RowKit
set_option linter.unusedVariables false
set_option linter.unusedSimpArgs false

theorem minus_add (l : List UInt8) : (⟨#[45]⟩ : ByteArray) ++ mkT l = mkT (45 :: l) := by
  apply ByteArray.ext
  simp [mkT]
set_option maxRecDepth 100000 in
set_option maxHeartbeats 4000000 in
theorem specDigits {n : Int} (h : i64B n) (w : World) : Calls Tryz.prog 21 #[.int .i64 n] w fun e w' => e = .returned (.string (itoaT n)) ∧ Below w.heap.size w w' := by
  obtain ⟨h1, h2⟩ := h
  by_cases hm : n = -9223372036854775808
  · subst hm
    have ht : itoaT (-9223372036854775808) = ⟨#[45, 57, 50, 50, 51, 51, 55, 50, 48, 51, 54, 56, 53, 52, 55, 55, 53, 56, 48, 56]⟩ := by kernel_rfl
    rw [ht]
    go_enter Tryz.func21, Tryz.ntmps21
    go_wp2_with fail
    go_ret
    exact ⟨rfl, Below.refl _ _⟩
  · have hmB : (n == -9223372036854775808) = false := by rw [beq_eq_false_iff_ne]; exact hm
    by_cases hneg : n < 0
    · have hc := specDigitsN n.natAbs (by omega)
      have hab : ((n.natAbs : Nat) : Int) = -n := by omega
      have ht : itoaT n = ⟨#[45]⟩ ++ mkT (Lib.decDigits n.natAbs) := by
        unfold itoaT Lib.itoa
        rw [if_pos hneg, minus_add]
      have HTX : Hid (itoaT n = ⟨#[45]⟩ ++ mkT (Lib.decDigits n.natAbs)) := ht
      have hz : (mkT (Lib.decDigits n.natAbs)).size ≤ 19 := dec_len 18 n.natAbs (by omega)
      rw [hab] at hc
      generalize mkT (Lib.decDigits n.natAbs) = D at hc HTX hz
      clear ht hab
      have w1 : IntKind.i64.wrap (-n) = -n := by simp [IntKind.wrap, IntKind.min, IntKind.max, IntKind.signed, IntKind.bits]; omega
      go_enter Tryz.func21, Tryz.ntmps21
      go_wp2_with (go_at_call 21; go_must (refine (hc _).mono ?_; rintro e w2 ⟨rfl, hb2⟩))
      go_ret
      exact ⟨by rw [HTX.out]; rfl, hb2⟩
    · have hc := specDigitsN n.toNat (by omega) w
      rw [Int.toNat_of_nonneg (by omega)] at hc
      refine hc.mono ?_
      rintro e w2 ⟨rfl, hb2⟩
      refine ⟨?_, hb2⟩
      unfold itoaT Lib.itoa
      rw [if_neg hneg]
set_option maxRecDepth 100000 in
theorem specValWord {r n : Int} (hr0 : 0 ≤ r) (hr : i64B r) (hn : i64B n) (w : World) : Calls Tryz.prog 37 #[.agg #[.int .i64 r, .int .i64 n]] w fun e w' => e = .returned (.string (mkT (valT r n))) ∧ Below w.heap.size w w' := by
  have hw1 : ∀ o, Below w.heap.size w (w.alloc o) := fun o => (Below.refl _ w).alloc (Nat.le_refl _) _
  by_cases h : 0 < r
  · have cd := fun W => specDigits hr W
    have ht : mkT (valT r n) = ⟨#[114]⟩ ++ itoaT r := by
      unfold valT itoaT
      rw [if_pos (by omega), lett_add]
    have hz : (itoaT r).size ≤ 21 := itoa_len hr
    rw [ht]
    generalize itoaT r = D at cd hz ⊢
    clear ht
    go_enter Tryz.func37, Tryz.ntmps37
    go_wp2_with (go_at_call 21; go_must (refine (cd _).mono ?_; rintro e w2 ⟨rfl, hb2⟩))
    go_ret
    exact ⟨rfl, good_below (hw1 _) hb2⟩
  · have cd := fun W => specDigits hn W
    have ht : mkT (valT r n) = itoaT n := by
      unfold valT itoaT
      rw [if_neg (by omega)]
    rw [ht]
    generalize itoaT n = D at cd ⊢
    clear ht
    go_enter Tryz.func37, Tryz.ntmps37
    go_wp2_with (go_at_call 21; go_must (refine (cd _).mono ?_; rintro e w2 ⟨rfl, hb2⟩))
    go_ret
    exact ⟨rfl, good_below (hw1 _) hb2⟩
set_option maxRecDepth 100000 in
theorem specOrderWord {o : Int} (h1 : 1 ≤ o) (h2 : o ≤ 5) (w : World) : Calls Tryz.prog 38 #[.int .i64 o] w fun e w' => e = .returned (.string (wordAt ordL o)) ∧ Below w.heap.size w w' := by
  have hw1 : ∀ o, Below w.heap.size w (w.alloc o) := fun o => (Below.refl _ w).alloc (Nat.le_refl _) _
  rcases five h1 h2 with rfl | rfl | rfl | rfl | rfl
  all_goals
    clear h1 h2
    go_enter Tryz.func38, Tryz.ntmps38
    go_wp2_with fail
    go_ret
    exact ⟨rfl, hw1 _⟩
set_option maxRecDepth 100000 in
theorem specCondWord {o : Int} (h1 : 1 ≤ o) (h2 : o ≤ 4) (w : World) : Calls Tryz.prog 39 #[.int .i64 o] w fun e w' => e = .returned (.string (wordAt cndL o)) ∧ Below w.heap.size w w' := by
  have hw1 : ∀ o, Below w.heap.size w (w.alloc o) := fun o => (Below.refl _ w).alloc (Nat.le_refl _) _
  rcases (by omega : o = 1 ∨ o = 2 ∨ o = 3 ∨ o = 4) with rfl | rfl | rfl | rfl
  all_goals
    clear h1 h2
    go_enter Tryz.func39, Tryz.ntmps39
    go_wp2_with fail
    go_ret
    exact ⟨rfl, hw1 _⟩
/-! ### The letters of the two sides -/
def mapL (c : Nat) : Nat := if c = 86 then 65 else if c = 87 then 66 else if c = 81 then 63 else if c = 77 then 78 else c
def lettOK : Bool := (List.range 13).all fun k => (frmFAt (k + 1)).size == (formF ((k + 1 : Nat) : Int)).size && decide ((frmWAt (k + 1)).data = (formW ((k + 1 : Nat) : Int)).data) && (List.range (frmFAt (k + 1)).size).all (fun j => byt (frmFAt (k + 1)) j == mapL (byt (formF ((k + 1 : Nat) : Int)) j) && [82, 67, 86, 87, 79, 81, 77, 78].contains (byt (formF ((k + 1 : Nat) : Int)) j))
theorem lett_ok : lettOK = true := by kernel_rfl
theorem lett_at {op : Int} (h1 : 1 ≤ op) (h2 : op ≤ 13) : (frmFAt op.toNat).size = (formF op).size ∧ frmWAt op.toNat = formW op ∧ ∀ j, j < (formF op).size → byt (frmFAt op.toNat) j = mapL (byt (formF op) j) ∧ (byt (formF op) j = 82 ∨ byt (formF op) j = 67 ∨ byt (formF op) j = 86 ∨ byt (formF op) j = 87 ∨ byt (formF op) j = 79 ∨ byt (formF op) j = 81 ∨ byt (formF op) j = 77 ∨ byt (formF op) j = 78) := by
  obtain ⟨k, hk⟩ := Int.eq_ofNat_of_zero_le (show 0 ≤ op by omega)
  have hl := lett_ok
  unfold lettOK at hl
  rw [List.all_eq_true] at hl
  have h := hl (k - 1) (List.mem_range.2 (by omega))
  rw [show k - 1 + 1 = k by omega, Bool.and_eq_true, Bool.and_eq_true, List.all_eq_true] at h
  rw [hk, Int.toNat_natCast]
  obtain ⟨⟨a, b⟩, c⟩ := h
  have a' := eq_of_beq a
  refine ⟨a', ?_, fun j hj => ?_⟩
  · exact ByteArray.ext (of_decide_eq_true b)
  · have := c j (List.mem_range.2 (by omega))
    rw [Bool.and_eq_true] at this
    refine ⟨eq_of_beq this.1, ?_⟩
    have h2 := this.2
    simpa using h2
/-- The text of an instruction up to its field j, as the specification builds it. -/
def txtUp (x : Ins) (j : Nat) : List UInt8 := (formW x.op).data.toList ++ (List.range j).flatMap (fun i => 32 :: fieldT x (mapL (byt (formF x.op) i)))
theorem txtUp_succ (x : Ins) (j : Nat) : txtUp x (j + 1) = txtUp x j ++ (32 :: fieldT x (mapL (byt (formF x.op) j))) := by
  unfold txtUp
  rw [List.range_succ, List.flatMap_append, List.append_assoc]
  simp
theorem txtUp_all {x : Ins} (h1 : 1 ≤ x.op) (h2 : x.op ≤ 13) : txtUp x (formF x.op).size = Lib.join (wordsI x) [32] := by
  obtain ⟨a, b, c⟩ := lett_at h1 h2
  unfold wordsI
  rw [if_pos ⟨h1, h2⟩, Lib.join_cons, a, b]
  unfold txtUp Lib.joinTail
  rw [List.map_map, List.flatMap_def]
  congr 2
  refine List.map_congr_left fun i hi => ?_
  show 32 :: fieldT x (mapL (byt (formF x.op) i)) = 32 :: fieldT x (byt (frmFAt x.op.toNat) i)
  rw [(c i (List.mem_range.1 hi)).1]
theorem txtUp_len {x : Ins} (hx : Ins64 x) (h1 : 1 ≤ x.op) (h2 : x.op ≤ 13) : ∀ j, (txtUp x j).length ≤ 6 + 23 * j
  | 0 => by
    unfold txtUp
    simp only [List.range_zero, List.flatMap_nil, List.append_nil]
    rcases thirteen h1 h2 with e | e | e | e | e | e | e | e | e | e | e | e | e <;> rw [e] <;> decide
  | j + 1 => by
    rw [txtUp_succ, List.length_append, List.length_cons]
    have := txtUp_len hx h1 h2 j
    have := fieldT_len hx (mapL (byt (formF x.op) j))
    omega
end Go.Proofs.YthopmdfichfhdaaGreatDoor
