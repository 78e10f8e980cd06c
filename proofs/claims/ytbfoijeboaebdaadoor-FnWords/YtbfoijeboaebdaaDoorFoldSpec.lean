/-
  What is folded, as plain data; the contracts of spec.l01Encode and impl.isCapital. No statement of the seat is proved here.
-/
import Derived.Test.YtbfoijeboaebdaaDoorBytes
import Derived.Test.YtbfoijeboaebdaaDoorRune
import Derived.Test.YtbfoijeboaebdaaDoorText
import Derived.Deep.WholeRow
namespace Go.Proofs.YtbfoijeboaebdaaDoor
open Go.ChangeShapes Go.WideShapes Go.ChangeAt Go.RowKit
set_option linter.unusedVariables false
theorem decodeN_len (n b0 b1 b2 b3 : Nat) (h0 : b0 < 256) (h1 : b1 < 256) (h : (Lib.decodeN n b0 b1 b2 b3).1 < 2048) :
    ((Lib.decodeN n b0 b1 b2 b3).1 < 128 ∧ (Lib.decodeN n b0 b1 b2 b3).2 = 1) ∨ (128 ≤ (Lib.decodeN n b0 b1 b2 b3).1 ∧ (Lib.decodeN n b0 b1 b2 b3).2 = 2) := by
  revert h
  unfold Lib.decodeN
  repeat' split
  all_goals
    intro h
    dsimp only at h ⊢
    omega
/-- a rune's length by its number, below 2048 -/
theorem decode_len (s : ByteArray) (i : Nat) (h : (Utf8.decode s i).1 < 2048) : (Utf8.decode s i).2 = if (Utf8.decode s i).1 < 128 then 1 else 2 := by
  rw [decode_byt] at h ⊢
  rcases decodeN_len _ _ _ _ _ (byt_lt s i) (byt_lt s (i + 1)) h with ⟨h1, h2⟩ | ⟨h1, h2⟩
  · rw [if_pos h1, h2]
  · rw [if_neg (by omega), h2]

def u8 (n : Nat) : UInt8 := UInt8.ofNat n
theorem bv_u8 (n : Nat) (h : n < 256) : bv (u8 n) = .int .u8 (n : Int) := by
  unfold bv u8
  rw [UInt8.toNat_ofNat_of_lt' (by simpa using h)]
/-- The encoding of a rune below 2048. -/
def enc2 (r : Nat) : List UInt8 := if r < 128 then [u8 r] else [u8 (192 + r / 64), u8 (128 + r % 64)]
theorem enc2_length (r : Nat) : (enc2 r).length = if r < 128 then 1 else 2 := by
  unfold enc2; split <;> rfl

set_option maxRecDepth 100000 in
set_option maxHeartbeats 400000 in
theorem specEncode (r : Nat) (hr : r < 2048) (w : World) :
    Calls Tryd.prog 29 #[.int .i64 r] w fun e w' => e = .returned (.slice (some ⟨w.heap.size, 0, none⟩) (enc2 r).length (enc2 r).length) ∧ w.alloc (.cells ((enc2 r).map bv).toArray 5) = w' := by
  unfold enc2
  by_cases h : r < 128
  · rw [if_pos h]
    simp only [List.map_cons, List.map_nil, bv_u8 r (by omega), List.length_cons, List.length_nil]
    have h' : (r : Int) < 128 := by omega
    go_enter Tryd.func29, Tryd.ntmps29
    go_wp2
    go_ret
    exact ⟨rfl, rfl⟩
  · rw [if_neg h]
    simp only [List.map_cons, List.map_nil, bv_u8 (192 + r / 64) (by omega), bv_u8 (128 + r % 64) (by omega), List.length_cons, List.length_nil]
    have e1 : ((192 + r / 64 : Nat) : Int) = 192 + (r : Int) / 64 := by omega
    have e2 : ((128 + r % 64 : Nat) : Int) = 128 + (r : Int) % 64 := by omega
    rw [e1, e2]
    clear e1 e2
    have h' : ¬ ((r : Int) < 128) := by omega
    go_enter Tryd.func29, Tryd.ntmps29
    go_wp2
    go_ret
    exact ⟨rfl, rfl⟩

def isCap (r : Int) : Bool := (decide (65 ≤ r) && decide (r ≤ 90)) || (decide (192 ≤ r) && decide (r ≤ 222) && r != 215) || (decide (913 ≤ r) && decide (r ≤ 937) && r != 930) || (decide (1040 ≤ r) && decide (r ≤ 1071))
theorem cap_ways (r : Int) : (isCap r = true ∧ ((65 ≤ r ∧ r ≤ 90) ∨ (192 ≤ r ∧ r ≤ 214) ∨ (216 ≤ r ∧ r ≤ 222) ∨ (913 ≤ r ∧ r ≤ 929) ∨ (931 ≤ r ∧ r ≤ 937) ∨ (1040 ≤ r ∧ r ≤ 1071))) ∨
    (isCap r = false ∧ (r < 65 ∨ (91 ≤ r ∧ r ≤ 191) ∨ r = 215 ∨ (223 ≤ r ∧ r ≤ 912) ∨ r = 930 ∨ (938 ≤ r ∧ r ≤ 1039) ∨ 1072 ≤ r)) := by
  by_cases h : isCap r = true
  · refine .inl ⟨h, ?_⟩
    simp [isCap] at h
    omega
  · rw [Bool.not_eq_true] at h
    refine .inr ⟨h, ?_⟩
    simp [isCap] at h
    omega
set_option maxHeartbeats 400000 in
theorem implCap (r : Int) (w : World) :
    Calls Tryd.prog 27 #[.int .i64 r] w fun e w' => e = .returned (.bool (isCap r)) ∧ w = w' := by
  go_enter Tryd.func27, Tryd.ntmps27
  go_wp2
  all_goals
    go_ret
    refine ⟨congrArg (fun b => Ending.returned (Value.bool b)) ?_, rfl⟩
    rw [Bool.eq_iff_iff]
    simp only [isCap, Bool.or_eq_true, Bool.and_eq_true, decide_eq_true_eq, bne_iff_ne, Bool.false_eq_true, true_iff, false_iff, ne_eq] at *
    first | omega | decide

/-- What one rune of a text becomes. -/
def foldPiece (s : ByteArray) (pos : Nat) : List UInt8 :=
  if isCap ((Utf8.decode s pos).1 : Int) = true then enc2 ((Utf8.decode s pos).1 + 32) else (s.extract pos (pos + (Utf8.decode s pos).2)).data.toList
/-- What a text becomes from a place on. -/
def foldFrom (s : ByteArray) (pos : Nat) : List UInt8 :=
  if h : pos < s.size then foldPiece s pos ++ foldFrom s (pos + (Utf8.decode s pos).2) else []
termination_by s.size - pos
decreasing_by
  have := (decode_le s pos).2.1
  omega
theorem cap_small {r : Nat} (h : isCap (r : Int) = true) : r + 32 < 2048 ∧ ((r + 32 < 128) ↔ r < 128) := by
  simp [isCap] at h
  omega
theorem foldPiece_length (s : ByteArray) (pos : Nat) (h : pos < s.size) : (foldPiece s pos).length = (Utf8.decode s pos).2 := by
  unfold foldPiece
  split
  · rename_i hc
    have h1 := cap_small hc
    rw [enc2_length, decode_len s pos (by omega)]
    by_cases h2 : (Utf8.decode s pos).1 < 128
    · rw [if_pos h2, if_pos (h1.2.2 h2)]
    · rw [if_neg h2, if_neg (fun h3 => h2 (h1.2.1 h3))]
  · have h2 := decode_fits s pos h
    have h3 : (s.extract pos (pos + (Utf8.decode s pos).2)).size = (Utf8.decode s pos).2 := by simp; omega
    exact (show _ = (s.extract pos (pos + (Utf8.decode s pos).2)).size from Array.length_toList).trans h3
theorem foldFrom_on {s : ByteArray} {pos : Nat} (h : pos < s.size) : foldFrom s pos = foldPiece s pos ++ foldFrom s (pos + (Utf8.decode s pos).2) := by
  rw [foldFrom, dif_pos h]
theorem foldFrom_out {s : ByteArray} {pos : Nat} (h : ¬ pos < s.size) : foldFrom s pos = [] := by
  rw [foldFrom, dif_neg h]
theorem foldFrom_length (s : ByteArray) (pos : Nat) (h : pos ≤ s.size) : (foldFrom s pos).length = s.size - pos := by
  by_cases hp : pos < s.size
  · have h1 := foldPiece_length s pos hp
    have h2 := decode_fits s pos hp
    have h3 := (decode_le s pos).2.1
    have h4 := foldFrom_length s (pos + (Utf8.decode s pos).2) h2
    rw [foldFrom_on hp, List.length_append, h1, h4]
    omega
  · rw [foldFrom_out hp]; simp; omega
termination_by s.size - pos
decreasing_by
  have := (decode_le s pos).2.1
  omega
def foldOf (s : ByteArray) : ByteArray := if 65536 < s.size then ⟨#[]⟩ else ⟨(foldFrom s 0).toArray⟩

theorem fcells_new (w : World) (l : List UInt8) (j : Nat) (h : j < l.length) : (w.alloc (.cells (l.map bv).toArray 5)).cell? ((⟨w.heap.size, 0, none⟩ : Addr).add j) = some (bv l[j]) := by
  have hadd : (⟨w.heap.size, 0, none⟩ : Addr).add j = ⟨w.heap.size, j, none⟩ := by unfold Addr.add; split <;> simp_all
  rw [hadd]
  simp only [World.cell?, heap_alloc_last]
  simp [h]
end Go.Proofs.YtbfoijeboaebdaaDoor
