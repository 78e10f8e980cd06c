/-
  The contracts of unicode/utf8.EncodeRune (at runes below 2048) and of impl.Fold: it hands back the folded text (foldFrom). No statement of the seat is proved here.
-/
import Derived.Test.YtbfoijeboaebdaaDoorFoldSpec
import Derived.Lib.OthersKept
namespace Go.Proofs.YtbfoijeboaebdaaDoor
open Go.ChangeShapes Go.WideShapes Go.ChangeAt Go.RowKit
set_option linter.unusedVariables false

set_option maxRecDepth 1000000 in
set_option maxHeartbeats 1000000 in
theorem implEncode1 (r : Nat) (h0 : r < 128) (b off len cap : Nat) (hl : 1 ≤ len) (w : World) (c0 : Value) (hc0 : w.cell? ⟨b, off, none⟩ = some c0) (hf0 : w.frozen? ⟨b, off, none⟩ = false) :
    Calls Tryd.prog 28 #[.slice (some ⟨b, off, none⟩) len cap, .int .i32 r] w fun e w' => e = .returned (.int .i64 1) ∧ w.setCell ⟨b, off, none⟩ (.int .u8 r) = w' := by
  have h0' : (r : Int) < 128 := by omega
  have hl' : (0 : Int) < (len : Int) := by omega
  go_enter Tryd.func28, Tryd.ntmps28
  go_wp2
  go_ret
  exact ⟨rfl, rfl⟩
set_option maxRecDepth 1000000 in
set_option maxHeartbeats 1000000 in
theorem implEncode2 (r : Nat) (h0 : 128 ≤ r) (h1 : r < 2048) (b off len cap : Nat) (hl : 2 ≤ len) (w : World) (c0 c1 : Value) (hc0 : w.cell? ⟨b, off, none⟩ = some c0) (hf0 : w.frozen? ⟨b, off, none⟩ = false) (hc1 : w.cell? ⟨b, off + 1, none⟩ = some c1) (hf1 : w.frozen? ⟨b, off + 1, none⟩ = false) :
    Calls Tryd.prog 28 #[.slice (some ⟨b, off, none⟩) len cap, .int .i32 r] w fun e w' => e = .returned (.int .i64 2) ∧ (w.setCell ⟨b, off, none⟩ (.int .u8 (192 + (r : Int) / 64))).setCell ⟨b, off + 1, none⟩ (.int .u8 (128 + (r : Int) % 64)) = w' := by
  have h0' : (128 : Int) ≤ (r : Int) := by omega
  have h1' : (r : Int) < 2048 := by omega
  have hl' : (2 : Int) ≤ (len : Int) := by omega
  go_enter Tryd.func28, Tryd.ntmps28
  go_wp2
  go_ret
  exact ⟨rfl, rfl⟩

theorem extract_toList (s : ByteArray) (a b : Nat) : (s.extract a b).data.toList = (s.data.toList.drop a).take (b - a) := by
  simp [ByteArray.data_extract, List.take_drop]

/-- What impl.Fold keeps: the buffer in block B holds P and then what is not folded yet; the iterator in block B + 1 stands at P's end. -/
structure FoldAt (B : Nat) (w : World) (s : ByteArray) (F P : List UInt8) (wr : World) : Prop where
  all : P ++ foldFrom s P.length = F
  iter : wr.heap[B + 1]? = some (.stringIter s P.length)
  cell : ∀ j, j < s.size → wr.cell? ⟨B, j, none⟩ = some (bv ((P ++ s.data.toList.drop P.length).getD j 0))
  fro : ∀ j, j < s.size → wr.frozen? ⟨B, j, none⟩ = false
  below : Below B w wr

theorem cell_iterAt (w : World) (B k j : Nat) (s : ByteArray) (pos : Nat) (h : B ≠ k) : (w.iterAt k s pos).cell? ⟨B, j, none⟩ = w.cell? ⟨B, j, none⟩ := by
  simp only [World.cell?, Lib.iterAt_other w k B s pos h]
theorem frozen_iterAt (w : World) (B k j : Nat) (s : ByteArray) (pos : Nat) (h : B ≠ k) : (w.iterAt k s pos).frozen? ⟨B, j, none⟩ = w.frozen? ⟨B, j, none⟩ := by
  simp only [World.frozen?, Lib.iterAt_other w k B s pos h]

/-- A rune that stays. -/
theorem FoldAt.keep {B : Nat} {w : World} {s : ByteArray} {F P : List UInt8} {wr : World} (h : FoldAt B w s F P wr) (hk : P.length < s.size) (hc : isCap ((Utf8.decode s P.length).1 : Int) = false) :
    ∃ Q, Q.length = P.length + (Utf8.decode s P.length).2 ∧ FoldAt B w s F Q (wr.iterAt (B + 1) s (P.length + (Utf8.decode s P.length).2)) := by
  have hf := decode_fits s P.length hk
  have hpc : foldPiece s P.length = (s.data.toList.drop P.length).take (Utf8.decode s P.length).2 := by
    unfold foldPiece
    rw [if_neg (by simp [hc]), extract_toList]
    congr 1
    omega
  have hlen : (foldPiece s P.length).length = (Utf8.decode s P.length).2 := foldPiece_length s _ hk
  have hl : (P ++ foldPiece s P.length).length = P.length + (Utf8.decode s P.length).2 := by rw [List.length_append, hlen]
  have hbuf : (P ++ foldPiece s P.length) ++ s.data.toList.drop (P ++ foldPiece s P.length).length = P ++ s.data.toList.drop P.length := by
    rw [hl, hpc, List.append_assoc]
    congr 1
    rw [← List.drop_drop, List.take_append_drop]
  refine ⟨P ++ foldPiece s P.length, hl, ?_, ?_, ?_, ?_, ?_⟩
  · rw [hl, List.append_assoc, ← foldFrom_on hk]; exact h.all
  · rw [hl]; exact Lib.iterAt_heap wr _ _ _ _ h.iter
  · intro j hj
    rw [cell_iterAt _ _ _ _ _ _ (by omega), hbuf]; exact h.cell j hj
  · intro j hj
    rw [frozen_iterAt _ _ _ _ _ _ (by omega)]; exact h.fro j hj
  · exact Lib.below_iterAt h.below (by omega) _ _

theorem getD_at (P E T : List UInt8) (j : Nat) : (P ++ E ++ T).getD j 0 = if j < P.length then P.getD j 0 else if j < P.length + E.length then E.getD (j - P.length) 0 else T.getD (j - P.length - E.length) 0 := by
  simp only [List.getD_eq_getElem?_getD, List.append_assoc]
  split
  · rename_i h; rw [List.getElem?_append_left h]
  · rename_i h
    rw [List.getElem?_append_right (by omega)]
    split
    · rw [List.getElem?_append_left (by omega)]
    · rw [List.getElem?_append_right (by omega)]

/-- A rune that is folded: its cells hold the new encoding, all others are as they were. -/
theorem FoldAt.turn {B : Nat} {w : World} {s : ByteArray} {F P : List UInt8} {wr w2 : World} (h : FoldAt B w s F P wr) (hk : P.length < s.size) (hc : isCap ((Utf8.decode s P.length).1 : Int) = true)
    (h1 : ∀ j, j < s.size → ¬ (P.length ≤ j ∧ j < P.length + (Utf8.decode s P.length).2) → w2.cell? ⟨B, j, none⟩ = wr.cell? ⟨B, j, none⟩)
    (h2 : ∀ j, j < (enc2 ((Utf8.decode s P.length).1 + 32)).length → w2.cell? ⟨B, P.length + j, none⟩ = some (bv ((enc2 ((Utf8.decode s P.length).1 + 32)).getD j 0)))
    (h3 : ∀ j, w2.frozen? ⟨B, j, none⟩ = wr.frozen? ⟨B, j, none⟩) (h4 : w2.heap[B + 1]? = some (.stringIter s (P.length + (Utf8.decode s P.length).2))) (h5 : Below B w w2) :
    ∃ Q, Q.length = P.length + (Utf8.decode s P.length).2 ∧ FoldAt B w s F Q w2 := by
  have hf := decode_fits s P.length hk
  have hpc : foldPiece s P.length = enc2 ((Utf8.decode s P.length).1 + 32) := by unfold foldPiece; rw [if_pos hc]
  have hlen : (foldPiece s P.length).length = (Utf8.decode s P.length).2 := foldPiece_length s _ hk
  have hl : (P ++ foldPiece s P.length).length = P.length + (Utf8.decode s P.length).2 := by rw [List.length_append, hlen]
  refine ⟨P ++ foldPiece s P.length, hl, ?_, ?_, ?_, ?_, h5⟩
  · rw [hl, List.append_assoc, ← foldFrom_on hk]; exact h.all
  · rw [hl]; exact h4
  · intro j hj
    rw [hl, getD_at, hlen]
    by_cases ha : j < P.length
    · rw [if_pos ha, h1 j hj (by omega), h.cell j hj]
      simp [List.getD_eq_getElem?_getD, List.getElem?_append_left ha]
    · rw [if_neg ha]
      by_cases hb : j < P.length + (Utf8.decode s P.length).2
      · rw [if_pos hb, hpc]
        have := h2 (j - P.length) (by rw [← hpc, hlen]; omega)
        rw [show P.length + (j - P.length) = j by omega] at this
        exact this
      · rw [if_neg hb, h1 j hj (by omega), h.cell j hj]
        simp only [List.getD_eq_getElem?_getD, List.getElem?_append_right (show P.length ≤ j by omega), List.getElem?_drop]
        congr 4
        omega
  · intro j hj
    rw [h3]; exact h.fro j hj
end Go.Proofs.YtbfoijeboaebdaaDoor
