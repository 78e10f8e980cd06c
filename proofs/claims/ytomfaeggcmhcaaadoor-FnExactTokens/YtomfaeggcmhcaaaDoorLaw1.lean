/-
  The contracts of the law's own helpers. No statement of the seat is proved here.
-/
import Derived.Test.YtomfaeggcmhcaaaDoorScan0
import Derived.Test.YtomfaeggcmhcaaaDoorBytes
import Derived.Test.YtomfaeggcmhcaaaDoorTools
import Derived.Test.YtomfaeggcmhcaaaDoorCalm
import Derived.BigQuiet
import Derived.BigRegion
namespace Go.Proofs.YtomfaeggcmhcaaaDoor
open Go.ChangeShapes Go.WideShapes Go.ChangeAt Go.RowKit
set_option linter.unusedVariables false

/-- The digits of k ahead of acc. -/
def digs (k : Nat) (acc : List UInt8) : List UInt8 := if h : k = 0 then acc else digs (k / 10) (UInt8.ofNat (48 + k % 10) :: acc)
termination_by k
decreasing_by omega

theorem digs_zero (acc : List UInt8) : digs 0 acc = acc := by unfold digs; simp
theorem digs_pos {k : Nat} (h : k ≠ 0) (acc : List UInt8) : digs k acc = digs (k / 10) (UInt8.ofNat (48 + k % 10) :: acc) := by
  conv => lhs; unfold digs
  rw [dif_neg h]

/-- markText's text. -/
def markOf (k : Nat) : ByteArray := ⟨(109 :: digs k []).toArray⟩

set_option maxRecDepth 100000 in
set_option maxHeartbeats 400000 in
theorem lawText (k : Nat) (h0 : 0 < k) (hk : k ≤ 200000) (w : World) :
    Calls Tryd.prog 13 #[.int .i64 (k : Int)] w fun e w' => e = .returned (.string (markOf k)) ∧ Below w.heap.size w w' := by
  obtain ⟨D, hD⟩ : ∃ D, digs k [] = D := ⟨_, rfl⟩
  have HD : Hid (digs k [] = D) := hD
  unfold markOf
  rw [hD]
  clear hD
  have hkb : decide (k = 0) = false := by simp; omega
  go_enter Tryd.func13, Tryd.ntmps13
  go_wp2

  go_loopw [0, 3] (fun i0 i3 wr => ∃ (n : Nat) (acc : List UInt8), i0 = .int .i64 (n : Int) ∧ i3 = .string ⟨acc.toArray⟩ ∧ acc.length + n ≤ 200000 ∧ digs n acc = D ∧ Below w.heap.size w wr) (fun i0 _ _ => (intOf i0).toNat)
  case atStart => exact ⟨k, [], rfl, rfl, by simpa using hk, HD, Below.refl _ _⟩
  case round =>
    obtain ⟨n, acc, rfl, rfl, hb, hd, hB⟩ := hrel
    have HDg : Hid (digs n acc = D) := hd
    clear hd HD
    by_cases hn : n = 0
    · subst hn
      go_wp2
      go_ret
      refine ⟨?_, hB⟩
      rw [← HDg.out, digs_zero]
      congr 2
    · have hn' : (0 : Int) < (n : Int) := by omega
      have hown : OwnB w.heap.size (wr.alloc (.cells #[.int .u8 (48 + (n : Int) % 10)] 5)) (.slice (some ⟨wr.heap.size, 0, none⟩) 1 1) [UInt8.ofNat (48 + n % 10)] := by
        refine ⟨rfl, .inr ⟨wr.heap.size, 1, _, rfl, hB.size, heap_alloc_last wr _, by simp, by decide, rfl, ?_⟩⟩
        simp [bv]
        omega
      obtain ⟨c, hc⟩ : ∃ c, UInt8.ofNat (48 + n % 10) = c := ⟨_, rfl⟩
      have HS : Hid (digs (n / 10) (c :: acc) = D) := by
        show _ = _
        rw [← hc, ← digs_pos hn acc]; exact HDg
      rw [hc] at hown
      clear hc HDg
      go_wp2_with (refine wpList_stringOf rfl 53 9 (.tmp 12) rfl Tryd.underlying9 Tryd.underlying53 Tryd.underlying5 w.heap.size _ _ rfl hown ?_)
      go_roundw
      case rel => exact ⟨n / 10, c :: acc, by go_num, by congr 1, by simp; omega, HS, hB.alloc hB.size _⟩
      case measure => simp [intOf]; omega

theorem tokCells_at (l : List Tok) (k : Nat) (hk : k < l.length) (j : Nat) (hj : j < 6) : (tokCells l)[k * 6 + j]? = (Tok.cells l[k])[j]? := by
  induction l generalizing k with
  | nil => simp at hk
  | cons a t ih =>
    have hc : tokCells (a :: t) = Tok.cells a ++ tokCells t := by simp [tokCells]
    rw [hc]
    cases k with
    | zero => rw [List.getElem?_append_left (by simp [Tok.cells]; omega)]; simp
    | succ k =>
      rw [List.getElem?_append_right (by simp [Tok.cells]; omega)]
      have : (k + 1) * 6 + j - (Tok.cells a).length = k * 6 + j := by simp [Tok.cells]; omega
      rw [this, ih k (by simpa using hk)]
      simp

/-- What is read of a row of lexemes. -/
theorem OwnT.at {B : Nat} {w : World} {v : Value} {l : List Tok} (h : OwnT B w v l) : (v = .slice none 0 0 ∧ l = []) ∨
    ∃ g cap, v = .slice (some ⟨g, 0, none⟩) l.length cap ∧ B ≤ g ∧ l.length ≤ cap ∧ cap ≤ maxLen ∧ (∀ i, w.frozen? ⟨g, i, none⟩ = false) ∧
      ∀ k (hk : k < l.length) j, j < 6 → w.cell? ⟨g, k * 6 + j, none⟩ = (Tok.cells l[k])[j]? := by
  rcases h.2 with ⟨rfl, h0⟩ | ⟨g, cap, cur, rfl, hB, hg, h1, h2, h3, h4⟩
  · exact .inl ⟨rfl, List.eq_nil_of_length_eq_zero h0⟩
  · refine .inr ⟨g, cap, rfl, hB, h1, h2, fun i => ?_, fun k hk j hj => ?_⟩
    · simp [World.frozen?, hg]
    · simp only [World.cell?, hg]
      have : k * 6 + j < l.length * 6 := by
        have := Nat.mul_le_mul_right 6 (Nat.succ_le_of_lt hk)
        omega
      rw [← tokCells_at l k hk j hj, ← h4, List.getElem?_take, if_pos this]
      simp

set_option maxRecDepth 100000 in
set_option maxHeartbeats 400000 in
theorem lawEq (a b c d e : Nat) (t : ByteArray) (w : World) :
    Calls Tryd.prog 12 #[.agg #[.int .i64 a, .string t, .int .i64 b, .int .i64 c, .int .i64 d, .int .i64 e], .agg #[.int .i64 a, .string t, .int .i64 b, .int .i64 c, .int .i64 d, .int .i64 e]] w fun e w' => e = .returned (.bool true) ∧ Below w.heap.size w w' := by
  go_enter Tryd.func12, Tryd.ntmps12
  go_wp2
  go_ret
  exact ⟨rfl, ((Below.refl _ w).alloc (Nat.le_refl _) _).alloc (by simp) _⟩

theorem good_below {w W W' : World} (h : Below w.heap.size w W) (hb : Below W.heap.size W W') : Below w.heap.size w W' := h.trans (hb.mono h.size)

set_option maxRecDepth 100000 in
set_option maxHeartbeats 400000 in
theorem lawEqS {B1 B2 : Nat} {v1 v2 : Value} {l : List Tok} {w : World} (hl : l.length ≤ 20000) (h1 : OwnT B1 w v1 l) (h2 : OwnT B2 w v2 l) :
    Calls Tryd.prog 6 #[v1, v2] w fun e w' => e = .returned (.bool true) ∧ Below w.heap.size w w' := by
  have H1 : Hid (OwnT B1 w v1 l) := h1
  have H2 : Hid (OwnT B2 w v2 l) := h2
  obtain ⟨n, hn⟩ : ∃ n, l.length = n := ⟨_, rfl⟩
  have e1 : ∃ a1 c1, v1 = .slice a1 n c1 ∧ (0 < n → ∃ g, a1 = some ⟨g, 0, none⟩) := by
    rcases h1.at with ⟨rfl, rfl⟩ | ⟨g, cap, rfl, _⟩
    · exact ⟨none, 0, by simp at hn; rw [hn], fun h => by simp at hn; omega⟩
    · exact ⟨_, cap, by rw [hn], fun _ => ⟨g, rfl⟩⟩
  have e2 : ∃ a1 c1, v2 = .slice a1 n c1 ∧ (0 < n → ∃ g, a1 = some ⟨g, 0, none⟩) := by
    rcases h2.at with ⟨rfl, rfl⟩ | ⟨g, cap, rfl, _⟩
    · exact ⟨none, 0, by simp at hn; rw [hn], fun h => by simp at hn; omega⟩
    · exact ⟨_, cap, by rw [hn], fun _ => ⟨g, rfl⟩⟩
  obtain ⟨a1, c1, rfl, q1⟩ := e1
  obtain ⟨a2, c2, rfl, q2⟩ := e2
  clear h1 h2
  go_enter Tryd.func6, Tryd.ntmps6
  go_wp2
  go_loopw [5] (fun i5 wr => ∃ k : Nat, i5 = .int .i64 (k : Int) ∧ k ≤ n ∧ Below w.heap.size w wr) (fun i5 _ => n - (intOf i5).toNat)
  case atStart => exact ⟨0, rfl, by omega, Below.refl _ _⟩
  case round =>
    obtain ⟨k, rfl, hk, hB⟩ := hrel
    by_cases hkn : k < n
    · have hkn' : (k : Int) < (n : Int) := by omega
      obtain ⟨g1, rfl⟩ := q1 (by omega)
      obtain ⟨g2, rfl⟩ := q2 (by omega)
      have hkl : k < l.length := by omega
      obtain ⟨x1, x2⟩ : (∀ n : GoodW (fun W => Below w.heap.size w W), ∀ j, j < 6 → n.W.cell? ⟨g1, k * 6 + j, none⟩ = (Tok.cells l[k])[j]?) ∧ (∀ n : GoodW (fun W => Below w.heap.size w W), ∀ j, j < 6 → n.W.cell? ⟨g2, k * 6 + j, none⟩ = (Tok.cells l[k])[j]?) := by
        constructor
        · intro N
          rcases (H1.out.below N.ok).at with ⟨hx, rfl⟩ | ⟨g, cap, hx, _, _, _, _, hc⟩
          · simp at hkl
          · simp at hx; obtain ⟨⟨rfl⟩, _⟩ := hx; exact hc k hkl
        · intro N
          rcases (H2.out.below N.ok).at with ⟨hx, rfl⟩ | ⟨g, cap, hx, _, _, _, _, hc⟩
          · simp at hkl
          · simp at hx; obtain ⟨⟨rfl⟩, _⟩ := hx; exact hc k hkl
      obtain ⟨t, ht⟩ : ∃ t, l[k] = t := ⟨_, rfl⟩
      rw [ht] at x1 x2
      clear ht
      obtain ⟨ka, tx, na, sp, li, co⟩ := t
      have y10 := fun N => x1 N 0 (by omega)
      have y11 := fun N => x1 N 1 (by omega)
      have y12 := fun N => x1 N 2 (by omega)
      have y13 := fun N => x1 N 3 (by omega)
      have y14 := fun N => x1 N 4 (by omega)
      have y15 := fun N => x1 N 5 (by omega)
      have y20 := fun N => x2 N 0 (by omega)
      have y21 := fun N => x2 N 1 (by omega)
      have y22 := fun N => x2 N 2 (by omega)
      have y23 := fun N => x2 N 3 (by omega)
      have y24 := fun N => x2 N 4 (by omega)
      have y25 := fun N => x2 N 5 (by omega)
      simp [Tok.cells] at y10 y11 y12 y13 y14 y15 y20 y21 y22 y23 y24 y25
      clear x1 x2
      have ce := lawEq ka na sp li co tx
      go_wp2_with fail
      haveI ne : Nonempty (GoodW (fun W => Below w.heap.size w W)) := ⟨⟨_, hB⟩⟩
      refine wp_region_calm (fun W => Below w.heap.size w W) (by kernel_rfl) (by kernel_rfl) hB.drew ?_
      repeat (go_big_quiet_step ((go_at_call 12; exact Calls.calm _ (fun w2 hb => good_below (GoodW.ok _) hb) (ce _))))
      refine wpQuiet_nil ?_
      rintro _ ⟨⟨W2, hW2⟩, rfl⟩
      go_wp2_with fail
      go_roundw
      case rel => exact ⟨k + 1, by go_num, by omega, hW2⟩
      case measure => simp [intOf]; omega
    · have hkn' : ¬ ((k : Int) < (n : Int)) := by omega
      go_wp2_with fail
      go_ret
      exact ⟨rfl, hB⟩
end Go.Proofs.YtomfaeggcmhcaaaDoor
