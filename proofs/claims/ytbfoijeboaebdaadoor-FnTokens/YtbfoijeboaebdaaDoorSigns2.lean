/-
  Which signs stand at a place, by the list of signs. No statement of the seat is proved here.
-/
import Derived.Test.YtbfoijeboaebdaaDoorScan5
import Derived.Test.YtbfoijeboaebdaaDoorHas
namespace Go.Proofs.YtbfoijeboaebdaaDoor
open Go.ChangeShapes Go.WideShapes Go.ChangeAt Go.RowKit
set_option linter.unusedVariables false

def signs : List ByteArray := [⟨#[40]⟩, ⟨#[41]⟩, ⟨#[123]⟩, ⟨#[125]⟩, ⟨#[44]⟩, ⟨#[59]⟩, ⟨#[46]⟩, ⟨#[61]⟩, ⟨#[61, 61]⟩, ⟨#[33, 61]⟩, ⟨#[60]⟩, ⟨#[60, 61]⟩, ⟨#[43]⟩, ⟨#[45]⟩, ⟨#[42]⟩, ⟨#[47]⟩, ⟨#[37]⟩, ⟨#[33]⟩]
theorem toList_data (t : ByteArray) : t.toList = t.data.toList := by
  rw [ByteArray.toList_eq]
theorem get_b8 (s : ByteArray) (p : Nat) (h : p < s.size) : s.data[p]'h = b8 (byt s p) := by
  have := byt_eq s p h
  unfold b8
  rw [← this]
  exact (UInt8.ofNat_toNat (x := s.data[p]'h)).symm
theorem ext1 (s : ByteArray) (p : Nat) (h : p + 1 ≤ s.size) : (s.extract p (p + 1)).data.toList = [b8 (byt s p)] := by
  apply List.ext_getElem
  · have : (s.extract p (p + 1)).size = 1 := by simp; omega
    exact (show _ = (s.extract p (p + 1)).size from Array.length_toList).trans this
  · intro j h1 h2
    have hj : j = 0 := by simpa using h2
    subst hj
    simp [ByteArray.data_extract, get_b8 s p (by omega)]
theorem ext2 (s : ByteArray) (p : Nat) (h : p + 2 ≤ s.size) : (s.extract p (p + 2)).data.toList = [b8 (byt s p), b8 (byt s (p + 1))] := by
  apply List.ext_getElem
  · have : (s.extract p (p + 2)).size = 2 := by simp; omega
    exact (show _ = (s.extract p (p + 2)).size from Array.length_toList).trans this
  · intro j h1 h2
    have hj : j = 0 ∨ j = 1 := by simp at h2; omega
    rcases hj with rfl | rfl
    · simp [ByteArray.data_extract, get_b8 s p (by omega)]
    · simp [ByteArray.data_extract, get_b8 s (p + 1) (by omega)]
theorem b8_eq (c x : Nat) (hc : c < 256) (hx : x < 256) : (b8 c = b8 x) = (x = c) := by
  apply propext
  constructor
  · intro h
    have := congrArg UInt8.toNat h
    unfold b8 at this
    rw [UInt8.toNat_ofNat_of_lt' (by simpa using hc), UInt8.toNat_ofNat_of_lt' (by simpa using hx)] at this
    exact this.symm
  · rintro rfl; rfl
def signL : List (List Nat) := [[40], [41], [123], [125], [44], [59], [46], [61], [61, 61], [33, 61], [60], [60, 61], [43], [45], [42], [47], [37], [33]]
theorem has_eq (t : ByteArray) : hasB signs t = signL.any fun x => x.map b8 == t.data.toList := by
  unfold hasB
  simp only [toList_data]
  rfl
theorem has1 (s : ByteArray) (p : Nat) (h : p + 1 ≤ s.size) : hasB signs (s.extract p (p + 1)) = decide (byt s p ∈ [40, 41, 123, 125, 44, 59, 46, 61, 60, 43, 45, 42, 47, 37, 33]) := by
  have hx := byt_lt s p
  rw [has_eq, ext1 s p h, Bool.eq_iff_iff]
  simp [signL, b8_eq _ _ _ hx]
theorem has2 (s : ByteArray) (p : Nat) (h : p + 2 ≤ s.size) : hasB signs (s.extract p (p + 2)) = decide ((byt s p = 61 ∨ byt s p = 33 ∨ byt s p = 60) ∧ byt s (p + 1) = 61) := by
  have hx := byt_lt s p
  have hy := byt_lt s (p + 1)
  rw [has_eq, ext2 s p h, Bool.eq_iff_iff]
  simp [signL, b8_eq _ _ _ hx, b8_eq _ _ _ hy]
  omega
theorem sign_two {s : ByteArray} {p : Nat} (h : (decide (p + 2 ≤ s.size) && hasB signs (s.extract p (p + 2))) = true) : p + 2 ≤ s.size ∧ signLen s p = 2 := by
  simp only [Bool.and_eq_true, decide_eq_true_eq] at h
  have h2 := h.2
  rw [has2 s p h.1] at h2
  have h3 := of_decide_eq_true h2
  refine ⟨h.1, ?_⟩
  unfold signLen
  rw [if_pos h3.1, if_pos ⟨by omega, h3.2⟩]
theorem sign_one {s : ByteArray} {p : Nat} (hp : p < s.size) (h : (decide (p + 2 ≤ s.size) && hasB signs (s.extract p (p + 2))) = false) (h1 : hasB signs (s.extract p (p + 1)) = true) : signLen s p = 1 := by
  rw [has1 s p (by omega)] at h1
  have h1 := of_decide_eq_true h1
  unfold signLen
  by_cases hx : byt s p = 61 ∨ byt s p = 33 ∨ byt s p = 60
  · rw [if_pos hx]
    rw [if_neg]
    intro h3
    rw [has2 s p (by omega)] at h
    simp [hx, h3.2] at h
    omega
  · rw [if_neg hx, if_pos]
    simp only [List.mem_cons, List.mem_nil_iff, or_false] at h1 ⊢
    omega
theorem sign_none {s : ByteArray} {p : Nat} (hp : p < s.size) (h1 : hasB signs (s.extract p (p + 1)) = false) : signLen s p = 0 := by
  rw [has1 s p (by omega)] at h1
  have h1 := of_decide_eq_false h1
  simp only [List.mem_cons, List.mem_nil_iff, or_false] at h1
  unfold signLen
  rw [if_neg (by omega), if_neg]
  simp only [List.mem_cons, List.mem_nil_iff, or_false]
  omega
theorem wrap_i64 (q : Int) (h0 : -9223372036854775808 ≤ q) (h1 : q ≤ 9223372036854775807) : IntKind.i64.wrap q = q := by
  simp only [IntKind.wrap, IntKind.bits, IntKind.signed]
  simp
  omega
end Go.Proofs.YtbfoijeboaebdaaDoor
