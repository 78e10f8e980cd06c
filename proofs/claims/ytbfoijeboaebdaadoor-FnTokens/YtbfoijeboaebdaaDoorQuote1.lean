/-
  A rune's encoding, written again, is what was read; what impl.Quote keeps; the contract of impl.isWrongAt. No statement of the seat is proved here.
-/
import Derived.Test.YtbfoijeboaebdaaDoorQuote0
import Derived.Lib.OthersKept
import Derived.Lib.RuneBytes
namespace Go.Proofs.YtbfoijeboaebdaaDoor
open Go.ChangeShapes Go.WideShapes Go.ChangeAt Go.RowKit
set_option linter.unusedVariables false

theorem decodeN_enc (n b0 b1 b2 b3 : Nat) (h0 : b0 < 256) (h1 : b1 < 256) (h2 : b2 < 256) (h3 : b3 < 256) (hw : ¬ ((Lib.decodeN n b0 b1 b2 b3).1 = 65533 ∧ (Lib.decodeN n b0 b1 b2 b3).2 = 1)) :
    Lib.encodeRuneZ ((Lib.decodeN n b0 b1 b2 b3).1 : Int) = ([(b0 : Int), (b1 : Int), (b2 : Int), (b3 : Int)].take (Lib.decodeN n b0 b1 b2 b3).2) := by
  revert hw
  unfold Lib.decodeN
  repeat' split
  all_goals
    intro hw
    dsimp only at hw ⊢
  all_goals first
    | exact absurd ⟨rfl, rfl⟩ hw
    | (rw [Lib.encodeRuneZ_one (by omega) (by omega)]; rfl)
    | (rw [Lib.encodeRuneZ_two (by omega) (by omega)]
       simp only [List.take_succ_cons, List.take_zero, List.cons.injEq, and_true]
       omega)
    | (rw [Lib.encodeRuneZ_three (by omega)]
       simp only [List.take_succ_cons, List.take_zero, List.cons.injEq, and_true]
       omega)
    | (rw [Lib.encodeRuneZ_four (by omega) (by omega)]
       simp only [List.take_succ_cons, List.take_zero, List.cons.injEq, and_true]
       omega)

theorem extract_bytes (s : ByteArray) (i K : Nat) (h : i + K ≤ s.size) (hK : K ≤ 4) : (s.extract i (i + K)).data.toList.map bv = ([(byt s i : Int), (byt s (i + 1) : Int), (byt s (i + 2) : Int), (byt s (i + 3) : Int)].take K).map fun x => Value.int .u8 x := by
  have hsz : (s.extract i (i + K)).data.toList.length = K := by
    have : (s.extract i (i + K)).size = K := by simp; omega
    exact (show _ = (s.extract i (i + K)).size from Array.length_toList).trans this
  apply List.ext_getElem
  · rw [List.length_map, hsz]; simp; omega
  · intro j h1 h2
    have hj : j < K := by rw [List.length_map, hsz] at h1; exact h1
    have hb : (s.extract i (i + K)).data.toList[j]'(by omega) = s.get! (i + j) := by
      rw [Utf8W.get!_of_lt s (i + j) (by omega)]
      simp [ByteArray.data_extract]
      rfl
    simp only [List.getElem_map, List.getElem_take, hb]
    have hj4 : j = 0 ∨ j = 1 ∨ j = 2 ∨ j = 3 := by omega
    rcases hj4 with rfl | rfl | rfl | rfl <;> rfl

/-- What AppendRune appends of a right encoding is what stood there. -/
theorem rune_back (s : ByteArray) (i : Nat) (h : i < s.size) (hw : wrongB s i = false) : Lib.runeCells ((Utf8.decode s i).1 : Int) = (s.extract i (i + (Utf8.decode s i).2)).data.toList.map bv := by
  have hK := (decode_le s i).2.2
  rw [extract_bytes s i _ (decode_fits s i h) hK]
  unfold Lib.runeCells
  have hn : ¬ ((Utf8.decode s i).1 = 65533 ∧ (Utf8.decode s i).2 = 1) := by
    intro hh
    simp [wrongB, hh.1, hh.2] at hw
  rw [decode_byt] at hn ⊢
  rw [decodeN_enc _ _ _ _ _ (byt_lt _ _) (byt_lt _ _) (byt_lt _ _) (byt_lt _ _) hn]

theorem own_ne {B : Nat} {w : World} {v : Value} {l : List UInt8} (h : OwnB B w v l) {k : Nat} {s : ByteArray} {p : Nat} (hk : w.heap[k]? = some (.stringIter s p)) : some k ≠ v.ownBlock := by
  rcases h.2 with ⟨rfl, _⟩ | ⟨g, cap, cur, rfl, hB, hg, _⟩
  · simp [Value.ownBlock]
  · simp only [Value.ownBlock]
    intro e
    injection e with e
    subst e
    rw [hk] at hg
    cases hg
theorem iter_kept {B : Nat} {w w' : World} {v : Value} {l : List UInt8} (h : OwnB B w v l) (hgr : w.grownBy w' v.ownBlock) {k : Nat} {s : ByteArray} {p : Nat} (hk : w.heap[k]? = some (.stringIter s p)) : w'.heap[k]? = some (.stringIter s p) := by
  rw [hgr.block k (Array.getElem?_eq_some_iff.1 hk).1 (own_ne h hk)]; exact hk
theorem own_iterAt {B : Nat} {w : World} {v : Value} {l : List UInt8} (h : OwnB B w v l) {k : Nat} {s : ByteArray} {p : Nat} (hk : w.heap[k]? = some (.stringIter s p)) (q : Nat) : OwnB B (w.iterAt k s q) v l := by
  obtain ⟨hl, h⟩ := h
  refine ⟨hl, ?_⟩
  rcases h with h | ⟨g, cap, cur, hv, hB, hg, h1, h2, h3, h4⟩
  · exact .inl h
  · refine .inr ⟨g, cap, cur, hv, hB, ?_, h1, h2, h3, h4⟩
    rw [Lib.iterAt_other w k g s q (by intro e; subst e; rw [hk] at hg; cases hg)]; exact hg
theorem iter_alloc {w : World} {k : Nat} {s : ByteArray} {p : Nat} (hk : w.heap[k]? = some (.stringIter s p)) (o : Obj) : (w.alloc o).heap[k]? = some (.stringIter s p) := by
  rw [Below.heap_alloc w o k (Array.getElem?_eq_some_iff.1 hk).1]; exact hk
theorem q_iter_below {w w' : World} (hb : Below w.heap.size w w') {k : Nat} {s : ByteArray} {p : Nat} (hk : w.heap[k]? = some (.stringIter s p)) : w'.heap[k]? = some (.stringIter s p) := by
  rw [hb.block k (Array.getElem?_eq_some_iff.1 hk).1]; exact hk
theorem iterPos_of' {w : World} {k : Nat} {s : ByteArray} {p : Nat} (hk : w.heap[k]? = some (.stringIter s p)) : w.iterPos k = p := by
  simp [World.iterPos, hk]

set_option maxRecDepth 100000 in
set_option maxHeartbeats 400000 in
theorem qWrongAt (s : ByteArray) (i : Nat) (hs : s.size ≤ 65536) (hi : i < s.size) (w : World) (hT : Lib.Utf8Tabs 0 1 w) :
    Calls Tryd.prog 20 #[.string s, .int .i64 i] w fun e w' => e = .returned (.bool (wrongB s i)) ∧ Below w.heap.size w w' := by
  have c := implRuneAt s (i : Int) w hT
  rw [runeAt_in hs hi] at c
  unfold wrongB
  obtain ⟨R, hR⟩ : ∃ R, (Utf8.decode s i).1 = R := ⟨_, rfl⟩
  obtain ⟨K, hK⟩ : ∃ K, (Utf8.decode s i).2 = K := ⟨_, rfl⟩
  rw [hR, hK] at c ⊢
  have cw := implIsWrong R K
  obtain ⟨W, hW⟩ : ∃ W, (decide (R = 65533) && decide (K = 1)) = W := ⟨_, rfl⟩
  rw [hW] at cw ⊢
  clear hR hK hT hW
  go_enter Tryd.func20, Tryd.ntmps20
  go_wp2_with (first | (go_at_call 36; go_must (refine c.mono ?_; rintro e w1 ⟨rfl, hB1⟩)) | (go_at_call 35; go_must (refine (cw _).mono ?_; rintro e w2 ⟨rfl, rfl⟩)))
  go_ret
  exact ⟨rfl, hB1⟩
end Go.Proofs.YtbfoijeboaebdaaDoor
