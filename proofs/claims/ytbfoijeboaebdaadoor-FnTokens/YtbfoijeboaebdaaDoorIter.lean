/-
  A rune of a text is the same rune of a piece of it that holds it; what impl's scanner's iterators keep. No statement of the seat is proved here.
-/
import Derived.Test.YtbfoijeboaebdaaDoorScan4
namespace Go.Proofs.YtbfoijeboaebdaaDoor
open Go.ChangeShapes Go.WideShapes Go.ChangeAt Go.RowKit
set_option linter.unusedVariables false

set_option maxRecDepth 100000 in
set_option maxHeartbeats 4000000 in
theorem decodeN_cut {n m b0 b1 b2 b3 c1 c2 c3 : Nat} (hm : 1 ≤ m) (hmn : m ≤ n) (hK : (Lib.decodeN n b0 b1 b2 b3).2 ≤ m) (h1 : 1 < m → c1 = b1) (h2 : 2 < m → c2 = b2) (h3 : 3 < m → c3 = b3) : Lib.decodeN m b0 c1 c2 c3 = Lib.decodeN n b0 b1 b2 b3 := by
  revert hK
  rcases (by omega : m = 1 ∨ m = 2 ∨ m = 3 ∨ 4 ≤ m) with h | h | h | h
  · subst h
    unfold Lib.decodeN
    repeat' split
    all_goals
      intro hK
      first
        | (exfalso; simp only at hK; omega)
        | rfl
  · have e1 := h1 (by omega)
    subst h e1
    unfold Lib.decodeN
    repeat' split
    all_goals
      intro hK
      first
        | (exfalso; simp only at hK; omega)
        | rfl
  · have e1 := h1 (by omega)
    have e2 := h2 (by omega)
    subst h e1 e2
    unfold Lib.decodeN
    repeat' split
    all_goals
      intro hK
      first
        | (exfalso; simp only at hK; omega)
        | rfl
  · have e1 := h1 (by omega)
    have e2 := h2 (by omega)
    have e3 := h3 (by omega)
    subst e1 e2 e3
    unfold Lib.decodeN
    repeat' split
    all_goals
      intro hK
      first
        | (exfalso; simp only at hK; omega)
        | rfl
theorem decode_sub (s : ByteArray) (p e j : Nat) (he : e ≤ s.size) (hj : p + j < e) (hK : p + j + (Utf8.decode s (p + j)).2 ≤ e) : Utf8.decode (s.extract p e) j = Utf8.decode s (p + j) := by
  have hsz : (s.extract p e).size = e - p := by simp; omega
  rw [decode_byt, decode_byt s (p + j)] at *
  rw [hsz, byt_extract s p e j he hj]
  refine decodeN_cut (by omega) (by omega) (by omega) ?_ ?_ ?_
  · intro h; rw [byt_extract s p e (j + 1) he (by omega)]; rfl
  · intro h; rw [byt_extract s p e (j + 2) he (by omega)]; rfl
  · intro h; rw [byt_extract s p e (j + 3) he (by omega)]; rfl
theorem Al.fit {s : ByteArray} {p e : Nat} (h : Al s p e) (hp : p < e) : p + (Utf8.decode s p).2 ≤ e := (h.next hp).2.le

theorem OwnT.iterAt {B : Nat} {w : World} {v : Value} {l : List Tok} (h : OwnT B w v l) {k : Nat} {t : ByteArray} {q : Nat} (hk : w.heap[k]? = some (.stringIter t q)) (r : Nat) : OwnT B (w.iterAt k t r) v l := by
  obtain ⟨hl, h⟩ := h
  refine ⟨hl, ?_⟩
  rcases h with h | ⟨g, cap, cur, hv, hB, hg, h1, h2, h3, h4⟩
  · exact .inl h
  · refine .inr ⟨g, cap, cur, hv, hB, ?_, h1, h2, h3, h4⟩
    rw [Lib.iterAt_other w k g t r (by intro e; subst e; rw [hk] at hg; cases hg)]; exact hg
theorem Blk.ne {w : World} {g : Nat} {ty : TypeId} {cs : Array Value} (h : Blk w g ty cs) {k : Nat} {t : ByteArray} {q : Nat} (hk : w.heap[k]? = some (.stringIter t q)) : k ≠ g := by
  intro e; subst e; unfold Blk at h; rw [hk] at h; cases h
theorem Im.iterAt {B g : Nat} {s : ByteArray} {p ln cl : Nat} {l : List Tok} {v : Value} {w0 w : World} (h : Im B g s p ln cl l v w0 w) {k : Nat} {t : ByteArray} {q : Nat} (hk : w.heap[k]? = some (.stringIter t q)) (hkB : B ≤ k) (r : Nat) : Im B g s p ln cl l v w0 (w.iterAt k t r) := by
  refine ⟨?_, h.own.iterAt hk r, h.ge, Lib.below_iterAt h.below hkB _ _⟩
  have hb := h.blk
  have hne := hb.ne hk
  unfold Blk at *
  rw [Lib.iterAt_other w k g t r (Ne.symm hne)]; exact hb
theorem Im.drewN {B g : Nat} {s : ByteArray} {p ln cl : Nat} {l : List Tok} {v : Value} {w0 w : World} (h : Im B g s p ln cl l v w0 w) (n : Nat) : Im B g s p ln cl l v w0 (w.drewN n) := h.bel (below_drewN (Below.refl _ _) _)
theorem iter_set {w : World} {k : Nat} {t : ByteArray} {q : Nat} (hk : w.heap[k]? = some (.stringIter t q)) (g i : Nat) (hg : k ≠ g) (u : Value) : (w.setCell ⟨g, i, none⟩ u).heap[k]? = some (.stringIter t q) := by
  rw [Below.heap_setCell _ _ _ _ hg]; exact hk
end Go.Proofs.YtbfoijeboaebdaaDoor
