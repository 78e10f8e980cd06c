/-
  Rows are marked, and held again. No statement of the seat is proved here.
-/
import Derived.Test.YtkghlnhmmfjclaaGreatDoorG2
import Derived.Test.YtkghlnhmmfjclaaGreatDoorBytes
namespace Go.Proofs.YtkghlnhmmfjclaaGreatDoor
open Go.ChangeShapes Go.WideShapes Go.ChangeAt Go.RowKit
set_option linter.unusedVariables false
set_option linter.unusedSimpArgs false

/-- Of the blocks that were there, only some of S have turned. -/
structure OutS (S : Nat → Prop) (w w' : World) : Prop where
  os : w'.os = w.os
  tape : w'.tape = w.tape
  output : w'.output = w.output
  size : w.heap.size ≤ w'.heap.size
  block : ∀ k, k < w.heap.size → ¬ S k → w'.heap[k]? = w.heap[k]?
theorem OutS.refl (S : Nat → Prop) (w : World) : OutS S w w := ⟨rfl, rfl, rfl, Nat.le_refl _, fun _ _ _ => rfl⟩
theorem OutS.trans {S : Nat → Prop} {a b c : World} (h : OutS S a b) (k : OutS S b c) : OutS S a c :=
  ⟨k.os.trans h.os, k.tape.trans h.tape, k.output.trans h.output, Nat.le_trans h.size k.size, fun i hi hs => (k.block i (Nat.lt_of_lt_of_le hi h.size) hs).trans (h.block i hi hs)⟩
theorem OutS.mono {S S' : Nat → Prop} {a b : World} (h : OutS S a b) (hS : ∀ k, S k → S' k) : OutS S' a b :=
  ⟨h.os, h.tape, h.output, h.size, fun i hi hs => h.block i hi (fun h => hs (hS i h))⟩
theorem OutS.of {S : Nat → Prop} {a b : World} (h : Below a.heap.size a b) : OutS S a b := ⟨h.os, h.tape, h.output, h.size, fun i hi _ => h.block i hi⟩
theorem OutS.set {S : Nat → Prop} {a b : World} (h : OutS S a b) {g i : Nat} (hg : S g) (v : Value) : OutS S a (b.setCell ⟨g, i, none⟩ v) :=
  ⟨h.os, h.tape, h.output, by rw [World.size_setCell]; exact h.size, fun k hk hs => by rw [Below.heap_setCell _ _ _ _ (fun e => hs (by rw [e]; exact hg))]; exact h.block k hk hs⟩
theorem OutS.below {S : Nat → Prop} {a b : World} {B : Nat} (h : OutS S a b) (hS : ∀ k, S k → B ≤ k) (hB : B ≤ a.heap.size) : Below B a b :=
  ⟨h.os, h.tape, h.output, h.size, fun k hk => h.block k (by omega) (fun hs => by have := hS k hs; omega)⟩

/-- The block of a slice. -/
def BlkOf (v : Value) (b : Nat) : Prop := ∃ n c, v = .slice (some ⟨b, 0, none⟩) n c
theorem BlkOf.mk {b n c : Nat} : BlkOf (.slice (some ⟨b, 0, none⟩) n c) b := ⟨n, c, rfl⟩
theorem BlkOf.eq {g b n c : Nat} (h : BlkOf (.slice (some ⟨g, 0, none⟩) n c) b) : b = g := by
  obtain ⟨_, _, h⟩ := h
  injection h with h
  injection h with h
  injection h with h
  exact h.symm

/-- The digits of k ahead of acc. -/
def digs (k : Nat) (acc : List UInt8) : List UInt8 := if h : k = 0 then acc else digs (k / 10) (UInt8.ofNat (48 + k % 10) :: acc)
termination_by k
decreasing_by omega

theorem digs_zero (acc : List UInt8) : digs 0 acc = acc := by unfold digs; simp
theorem digs_pos {k : Nat} (h : k ≠ 0) (acc : List UInt8) : digs k acc = digs (k / 10) (UInt8.ofNat (48 + k % 10) :: acc) := by
  conv => lhs; unfold digs
  rw [dif_neg h]

/-- markText's text. -/
def markOf (k : Nat) : ByteArray := ⟨(109 :: digs k []).toArray⟩

set_option maxRecDepth 100000 in
set_option maxHeartbeats 400000 in
theorem lawText (k : Nat) (h0 : 0 < k) (hk : k ≤ 1000000000000000) (w : World) :
    Calls Tryz.prog 37 #[.int .i64 (k : Int)] w fun e w' => e = .returned (.string (markOf k)) ∧ Below w.heap.size w w' := by
  obtain ⟨D, hD⟩ : ∃ D, digs k [] = D := ⟨_, rfl⟩
  have HD : Hid (digs k [] = D) := hD
  unfold markOf
  rw [hD]
  clear hD
  have hkb : decide (k = 0) = false := by simp; omega
  go_enter Tryz.func37, Tryz.ntmps37
  go_wp2

  go_loopw [0, 3] (fun i0 i3 wr => ∃ (n : Nat) (acc : List UInt8), i0 = .int .i64 (n : Int) ∧ i3 = .string ⟨acc.toArray⟩ ∧ acc.length + n ≤ 1000000000000000 ∧ digs n acc = D ∧ Below w.heap.size w wr) (fun i0 _ _ => (intOf i0).toNat)
  case atStart => exact ⟨k, [], rfl, rfl, by simpa using hk, HD, Below.refl _ _⟩
  case round =>
    obtain ⟨n, acc, rfl, rfl, hb, hd, hB⟩ := hrel
    have HDg : Hid (digs n acc = D) := hd
    clear hd HD
    by_cases hn : n = 0
    · subst hn
      go_wp2
      go_ret
      refine ⟨?_, hB⟩
      rw [← HDg.out, digs_zero]
      congr 2
    · have hn' : (0 : Int) < (n : Int) := by omega
      have hown : OwnB w.heap.size (wr.alloc (.cells #[.int .u8 (48 + (n : Int) % 10)] 5)) (.slice (some ⟨wr.heap.size, 0, none⟩) 1 1) [UInt8.ofNat (48 + n % 10)] := by
        refine ⟨rfl, .inr ⟨wr.heap.size, 1, _, rfl, hB.size, heap_alloc_last wr _, by simp, by decide, rfl, ?_⟩⟩
        simp [bv]
        omega
      obtain ⟨c, hc⟩ : ∃ c, UInt8.ofNat (48 + n % 10) = c := ⟨_, rfl⟩
      have HS : Hid (digs (n / 10) (c :: acc) = D) := by
        show _ = _
        rw [← hc, ← digs_pos hn acc]; exact HDg
      rw [hc] at hown
      clear hc HDg
      go_wp2_with (refine wpList_stringOf rfl 82 9 (.tmp 12) rfl Tryz.underlying9 Tryz.underlying82 Tryz.underlying5 w.heap.size _ _ rfl hown ?_)
      go_roundw
      case rel => exact ⟨n / 10, c :: acc, by go_num, by congr 1, by simp; omega, HS, hB.alloc hB.size _⟩
      case measure => simp [intOf]; omega


def PksCells (x : Pk) : List Value := [.string x.name, .int .i64 x.ver]
def PksRow (l : List Pk) : List Value := l.flatMap PksCells
theorem PksRow_length (l : List Pk) : (PksRow l).length = l.length * 2 := by
  induction l with
  | nil => rfl
  | cons a t ih => simp only [PksRow, List.flatMap_cons, List.length_append, List.length_cons] at ih ⊢; rw [ih]; simp [PksCells] <;> omega
theorem PksRow_append (l k : List Pk) : PksRow (l ++ k) = PksRow l ++ PksRow k := by simp [PksRow]
theorem PksRow_one {l : List Pk} {u : Value} (hu : u ∈ PksRow l) : u.oneCell' = true := by
  obtain ⟨x, _, hx⟩ := List.mem_flatMap.1 hu
  simp only [PksCells, List.mem_cons, List.mem_nil_iff, or_false] at hx
  rcases hx with rfl | rfl <;> rfl
theorem PksRow_at (l : List Pk) (k : Nat) (hk : k < l.length) : (PksRow l)[k * 2]? = some (.string l[k].name) ∧ (PksRow l)[k * 2 + 1]? = some (.int .i64 l[k].ver) := by
  induction l generalizing k with
  | nil => simp at hk
  | cons a t ih =>
    have hc : PksRow (a :: t) = PksCells a ++ PksRow t := by simp [PksRow]
    rw [hc]
    cases k with
    | zero => simp [PksCells]
    | succ k =>
      rw [List.getElem?_append_right (by simp [PksCells] <;> omega), List.getElem?_append_right (by simp [PksCells] <;> omega)]
      have e0 : (k + 1) * 2 - (PksCells a).length = k * 2 := by simp [PksCells] <;> omega
      have e1 : (k + 1) * 2 + 1 - (PksCells a).length = k * 2 + 1 := by simp [PksCells] <;> omega
      rw [e0, e1]
      simpa using ih k (by simpa using hk)
/-- A row of one's own. -/
def OwnPks (B : Nat) (w : World) (v : Value) (l : List Pk) : Prop := w.ownsRow B 56 2 v l.length (PksRow l)
theorem OwnPks.below {B : Nat} {w w' : World} {v : Value} {l : List Pk} (h : OwnPks B w v l) (hb : Below w.heap.size w w') : OwnPks B w' v l := by
  obtain ⟨hl, h⟩ := h
  refine ⟨hl, ?_⟩
  rcases h with h | ⟨g, cap, cur, hv, hB, hg, h1, h2, h3, h4⟩
  · exact .inl h
  · refine .inr ⟨g, cap, cur, hv, hB, ?_, h1, h2, h3, h4⟩
    rw [hb.block g (Array.getElem?_eq_some_iff.1 hg).1]; exact hg
theorem OwnPks.mono {B B' : Nat} {w : World} {v : Value} {l : List Pk} (h : OwnPks B w v l) (hB : B' ≤ B) : OwnPks B' w v l := by
  obtain ⟨hl, h⟩ := h
  refine ⟨hl, ?_⟩
  rcases h with h | ⟨g, cap, cur, hv, hg, h1⟩
  · exact .inl h
  · exact .inr ⟨g, cap, cur, hv, Nat.le_trans hB hg, h1⟩
theorem OwnPks.value {B : Nat} {w : World} {v : Value} {l : List Pk} (h : OwnPks B w v l) :
    ∃ a cap, v = .slice a l.length cap ∧ l.length ≤ maxLen ∧ (0 < l.length → ∃ g, a = some ⟨g, 0, none⟩ ∧ B ≤ g ∧ g < w.heap.size ∧ ∀ j (hj : j < l.length), w.cell? ⟨g, j * 2, none⟩ = some (.string l[j].name) ∧ w.cell? ⟨g, j * 2 + 1, none⟩ = some (.int .i64 l[j].ver)) := by
  rcases h.2 with ⟨rfl, h0⟩ | ⟨g, cap, cur, rfl, hB, hg, h1, h2, h3, h4⟩
  · exact ⟨none, 0, by rw [h0], by omega, fun h => by omega⟩
  · refine ⟨_, cap, rfl, by omega, fun _ => ⟨g, rfl, hB, (Array.getElem?_eq_some_iff.1 hg).1, fun j hj => ?_⟩⟩
    simp only [World.cell?, hg]
    have h5 := PksRow_at l j hj
    rw [← h4, List.getElem?_take, List.getElem?_take, if_pos (by omega), if_pos (by omega)] at h5
    simpa using h5
theorem OwnPks.at {B : Nat} {w : World} {v : Value} {l : List Pk} (h : OwnPks B w v l) : PksAt (fun b => B ≤ b ∧ b < w.heap.size) w v l := by
  obtain ⟨a, cap, hv, hl, hc⟩ := h.value
  refine ⟨hl, a, cap, hv, fun h0 => ?_⟩
  obtain ⟨g, rfl, hB, hg, hcell⟩ := hc h0
  refine ⟨g, 0, rfl, ⟨hB, hg⟩, fun i hi => ?_⟩
  simpa using hcell i hi
theorem OwnPks.out {B : Nat} {S : Nat → Prop} {w w' : World} {v : Value} {l : List Pk} (h : OwnPks B w v l) (ho : OutS S w w') (hS : ∀ b, S b → b < B) : OwnPks B w' v l := by
  obtain ⟨hl, h⟩ := h
  refine ⟨hl, ?_⟩
  rcases h with h | ⟨g, cap, cur, hv, hB, hg, h1⟩
  · exact .inl h
  · refine .inr ⟨g, cap, cur, hv, hB, ?_, h1⟩
    rw [ho.block g (Array.getElem?_eq_some_iff.1 hg).1 (fun hs => by have := hS g hs; omega)]; exact hg
theorem OwnPks.blk {B b : Nat} {w : World} {v : Value} {l : List Pk} (h : OwnPks B w v l) (hb : BlkOf v b) : B ≤ b := by
  rcases h.2 with ⟨rfl, _⟩ | ⟨g, cap, cur, rfl, hB, _⟩
  · obtain ⟨_, _, h⟩ := hb; simp at h
  · rw [hb.eq]; exact hB
def TxtsCells (x : ByteArray) : List Value := [.string x]
def TxtsRow (l : List ByteArray) : List Value := l.flatMap TxtsCells
theorem TxtsRow_length (l : List ByteArray) : (TxtsRow l).length = l.length * 1 := by
  induction l with
  | nil => rfl
  | cons a t ih => simp only [TxtsRow, List.flatMap_cons, List.length_append, List.length_cons] at ih ⊢; rw [ih]; simp [TxtsCells] <;> omega
theorem TxtsRow_append (l k : List ByteArray) : TxtsRow (l ++ k) = TxtsRow l ++ TxtsRow k := by simp [TxtsRow]
theorem TxtsRow_one {l : List ByteArray} {u : Value} (hu : u ∈ TxtsRow l) : u.oneCell' = true := by
  obtain ⟨x, _, hx⟩ := List.mem_flatMap.1 hu
  simp only [TxtsCells, List.mem_cons, List.mem_nil_iff, or_false] at hx
  subst hx; rfl
theorem TxtsRow_at (l : List ByteArray) (k : Nat) (hk : k < l.length) : (TxtsRow l)[k]? = some (.string l[k]) := by
  induction l generalizing k with
  | nil => simp at hk
  | cons a t ih =>
    have hc : TxtsRow (a :: t) = TxtsCells a ++ TxtsRow t := by simp [TxtsRow]
    rw [hc]
    cases k with
    | zero => simp [TxtsCells]
    | succ k =>
      rw [List.getElem?_append_right (by simp [TxtsCells] <;> omega)]
      have e0 : (k + 1) - (TxtsCells a).length = k := by simp [TxtsCells] <;> omega
      rw [e0]
      simpa using ih k (by simpa using hk)
/-- A row of one's own. -/
def OwnTxts (B : Nat) (w : World) (v : Value) (l : List ByteArray) : Prop := w.ownsRow B 9 1 v l.length (TxtsRow l)
theorem OwnTxts.below {B : Nat} {w w' : World} {v : Value} {l : List ByteArray} (h : OwnTxts B w v l) (hb : Below w.heap.size w w') : OwnTxts B w' v l := by
  obtain ⟨hl, h⟩ := h
  refine ⟨hl, ?_⟩
  rcases h with h | ⟨g, cap, cur, hv, hB, hg, h1, h2, h3, h4⟩
  · exact .inl h
  · refine .inr ⟨g, cap, cur, hv, hB, ?_, h1, h2, h3, h4⟩
    rw [hb.block g (Array.getElem?_eq_some_iff.1 hg).1]; exact hg
theorem OwnTxts.mono {B B' : Nat} {w : World} {v : Value} {l : List ByteArray} (h : OwnTxts B w v l) (hB : B' ≤ B) : OwnTxts B' w v l := by
  obtain ⟨hl, h⟩ := h
  refine ⟨hl, ?_⟩
  rcases h with h | ⟨g, cap, cur, hv, hg, h1⟩
  · exact .inl h
  · exact .inr ⟨g, cap, cur, hv, Nat.le_trans hB hg, h1⟩
theorem OwnTxts.value {B : Nat} {w : World} {v : Value} {l : List ByteArray} (h : OwnTxts B w v l) :
    ∃ a cap, v = .slice a l.length cap ∧ l.length ≤ maxLen ∧ (0 < l.length → ∃ g, a = some ⟨g, 0, none⟩ ∧ B ≤ g ∧ g < w.heap.size ∧ ∀ j (hj : j < l.length), w.cell? ⟨g, j, none⟩ = some (.string l[j])) := by
  rcases h.2 with ⟨rfl, h0⟩ | ⟨g, cap, cur, rfl, hB, hg, h1, h2, h3, h4⟩
  · exact ⟨none, 0, by rw [h0], by omega, fun h => by omega⟩
  · refine ⟨_, cap, rfl, by omega, fun _ => ⟨g, rfl, hB, (Array.getElem?_eq_some_iff.1 hg).1, fun j hj => ?_⟩⟩
    simp only [World.cell?, hg]
    have h5 := TxtsRow_at l j hj
    rw [← h4, List.getElem?_take, if_pos (by omega)] at h5
    simpa using h5
theorem OwnTxts.at {B : Nat} {w : World} {v : Value} {l : List ByteArray} (h : OwnTxts B w v l) : TxtsAt (fun b => B ≤ b ∧ b < w.heap.size) w v l := by
  obtain ⟨a, cap, hv, hl, hc⟩ := h.value
  refine ⟨hl, a, cap, hv, fun h0 => ?_⟩
  obtain ⟨g, rfl, hB, hg, hcell⟩ := hc h0
  refine ⟨g, 0, rfl, ⟨hB, hg⟩, fun i hi => ?_⟩
  simpa using hcell i hi
theorem OwnTxts.out {B : Nat} {S : Nat → Prop} {w w' : World} {v : Value} {l : List ByteArray} (h : OwnTxts B w v l) (ho : OutS S w w') (hS : ∀ b, S b → b < B) : OwnTxts B w' v l := by
  obtain ⟨hl, h⟩ := h
  refine ⟨hl, ?_⟩
  rcases h with h | ⟨g, cap, cur, hv, hB, hg, h1⟩
  · exact .inl h
  · refine .inr ⟨g, cap, cur, hv, hB, ?_, h1⟩
    rw [ho.block g (Array.getElem?_eq_some_iff.1 hg).1 (fun hs => by have := hS g hs; omega)]; exact hg
theorem OwnTxts.blk {B b : Nat} {w : World} {v : Value} {l : List ByteArray} (h : OwnTxts B w v l) (hb : BlkOf v b) : B ≤ b := by
  rcases h.2 with ⟨rfl, _⟩ | ⟨g, cap, cur, rfl, hB, _⟩
  · obtain ⟨_, _, h⟩ := hb; simp at h
  · rw [hb.eq]; exact hB
/-- The first m are marked from s on. -/
def MarkOffs (cur : Array Value) (m s : Nat) : Prop := ∀ i, i < m → cur[i * 3]? = some (.string (markOf (s + 3 * i))) ∧ cur[i * 3 + 1]? = some (.int .i64 ((s + 3 * i + 1 : Nat) : Int)) ∧ cur[i * 3 + 2]? = some (.int .i64 ((s + 3 * i + 2 : Nat) : Int))
theorem MarkOffs.step {cur : Array Value} {k s : Nat} (h : MarkOffs cur k s) (hc : k * 3 + 2 < cur.size) :
    MarkOffs (((cur.setIfInBounds (k * 3) (.string (markOf (s + 3 * k)))).setIfInBounds (k * 3 + 1) (.int .i64 ((s : Int) + 3 * (k : Int) + 1))).setIfInBounds (k * 3 + 2) (.int .i64 ((s : Int) + 3 * (k : Int) + 2))) (k + 1) s := by
  intro i hi
  simp only [Array.getElem?_setIfInBounds, Array.size_setIfInBounds]
  by_cases hik : i = k
  · subst hik
    refine ⟨?_, ?_, ?_⟩
    · rw [if_neg (by omega), if_neg (by omega), if_pos rfl, if_pos (by omega)]
    · rw [if_neg (by omega), if_pos rfl, if_pos (by omega)]
      congr 2
    · rw [if_pos rfl, if_pos (by omega)]
      congr 2
  · have := h i (by omega)
    rw [if_neg (by omega), if_neg (by omega), if_neg (by omega), if_neg (by omega), if_neg (by omega), if_neg (by omega), if_neg (by omega), if_neg (by omega), if_neg (by omega)]
    exact this
/-- The slice v has m of these, in the block g of its own that holds cu, or has none. -/
def MkOffs (hp : Prop) (w : World) (v : Value) (g m : Nat) (cu : Array Value) : Prop := (¬ hp ∧ v = .slice none 0 0 ∧ m = 0) ∨ (hp ∧ ∃ cap, v = .slice (some ⟨g, 0, none⟩) m cap ∧ Blk w g 54 cu ∧ m * 3 ≤ cu.size)
def MkdOffs (w : World) (v : Value) (m s : Nat) : Prop := (v = .slice none 0 0 ∧ m = 0) ∨ ∃ g cap cur, v = .slice (some ⟨g, 0, none⟩) m cap ∧ Blk w g 54 cur ∧ MarkOffs cur m s
theorem MkdOffs.below {w w' : World} {v : Value} {m s : Nat} (h : MkdOffs w v m s) (hb : Below w.heap.size w w') : MkdOffs w' v m s := by
  rcases h with h | ⟨g, cap, cur, h1, h2, h3⟩
  · exact .inl h
  · exact .inr ⟨g, cap, cur, h1, h2.below hb, h3⟩
set_option maxRecDepth 100000 in
set_option maxHeartbeats 2000000 in
theorem markOfferS {hp : Prop} {g m : Nat} {v : Value} {cu : Array Value} {w : World} (s : Nat) (hs0 : 0 < s) (hs1 : s ≤ 100000000000000) (hm : m ≤ 1048576) (h : MkOffs hp w v g m cu) :
    Calls Tryz.prog 14 #[v, .int .i64 s] w fun e w' => e = .returned (.int .i64 (s + 3 * m : Nat)) ∧ OutS (BlkOf v) w w' ∧ (hp → ∃ cur, Blk w' g 54 cur ∧ cur.size = cu.size ∧ MarkOffs cur m s) := by
  have e1 : ∃ a1 c1, v = .slice a1 m c1 ∧ (0 < m → hp) ∧ (hp → a1 = some ⟨g, 0, none⟩ ∧ Blk w g 54 cu ∧ m * 3 ≤ cu.size) := by
    rcases h with ⟨hn, rfl, rfl⟩ | ⟨hy, cap, rfl, hg, hz⟩
    · exact ⟨none, 0, rfl, fun h => by omega, fun h => absurd h hn⟩
    · exact ⟨_, cap, rfl, fun _ => hy, fun _ => ⟨rfl, hg, hz⟩⟩
  obtain ⟨a1, c1, rfl, q0, q⟩ := e1
  have QP : Hid (0 < m → hp) := q0
  have QQ : Hid _ := q
  clear h
  go_enter Tryz.func14, Tryz.ntmps14
  go_wp2
  go_loopw [1, 5] (fun i1 i5 wr => ∃ k : Nat, i1 = .int .i64 (s + 3 * k : Nat) ∧ i5 = .int .i64 (k : Int) ∧ k ≤ m ∧ OutS (BlkOf (.slice a1 m c1)) w wr ∧ (hp → ∃ cur, Blk wr g 54 cur ∧ cur.size = cu.size ∧ MarkOffs cur k s)) (fun _ i5 _ => m - (intOf i5).toNat)
  case atStart => exact ⟨0, rfl, rfl, by omega, OutS.refl _ _, fun hq => ⟨cu, (QQ.out hq).2.1, rfl, fun i hi => by omega⟩⟩
  case round =>
    obtain ⟨k, rfl, rfl, hk, hB, hq⟩ := hrel
    by_cases hkn : k < m
    · have hkn' : (k : Int) < (m : Int) := by omega
      obtain ⟨rfl, _, hz⟩ := QQ.out (QP.out (by omega))
      obtain ⟨cur, hblk, hsz, hmc⟩ := hq (QP.out (by omega))
      have z0 : k * 3 < cur.size := by omega
      have z1 : k * 3 + 1 < cur.size := by omega
      have z2 : k * 3 + 2 < cur.size := by omega
      have HM : Hid _ := hmc.step z2
      have HB0 : Hid (Blk wr g 54 cur) := hblk
      have ct0 := lawText (s + 3 * k) (by omega) (by omega)
      rw [show ((s + 3 * k : Nat) : Int) = (s : Int) + 3 * (k : Int) by omega] at ct0
      obtain ⟨M0, hM0⟩ : ∃ M, markOf (s + 3 * k) = M := ⟨_, rfl⟩
      rw [hM0] at ct0 HM
      clear hM0
      clear hmc hblk
      go_wp2_with (go_at_call 37; go_must (refine (ct0 _).mono ?_; rintro e w_0 ⟨rfl, hB_0⟩; have hb_0 := Blk.below HB0.out hB_0; have ho_0 := OutS.trans hB (OutS.of hB_0); have c0_0 := hb_0.cell (k * 3); have c0_1 := hb_0.cell (k * 3 + 1); have c0_2 := hb_0.cell (k * 3 + 2); rw [Array.getElem?_eq_getElem (by first | exact z0 | (simp only [Array.size_setIfInBounds]; exact z0))] at c0_0; rw [Array.getElem?_eq_getElem (by first | exact z1 | (simp only [Array.size_setIfInBounds]; exact z1))] at c0_1; rw [Array.getElem?_eq_getElem (by first | exact z2 | (simp only [Array.size_setIfInBounds]; exact z2))] at c0_2; have f0_0 := hb_0.fro (k * 3); have f0_1 := hb_0.fro (k * 3 + 1); have f0_2 := hb_0.fro (k * 3 + 2)))
      exact ⟨⟨k + 1, by congr 1 <;> omega, rfl, by omega, (((ho_0.set .mk _).set .mk _).set .mk _), fun _ => ⟨_, (((hb_0.set (k * 3) _).set (k * 3 + 1) _).set (k * 3 + 2) _), by simp [hsz], HM.out⟩⟩, by simp [intOf]; omega⟩
    · have hkn' : ¬ ((k : Int) < (m : Int)) := by omega
      obtain rfl : k = m := by omega
      go_wp2_with fail
      go_ret
      exact ⟨by go_num, hB, hq⟩
/-- The first m are marked from s on. -/
def MarkImps (cur : Array Value) (m s : Nat) : Prop := ∀ i, i < m → cur[i * 3]? = some (.string (markOf (s + 3 * i))) ∧ cur[i * 3 + 1]? = some (.int .i64 ((s + 3 * i + 1 : Nat) : Int)) ∧ cur[i * 3 + 2]? = some (.int .i64 ((s + 3 * i + 2 : Nat) : Int))
theorem MarkImps.step {cur : Array Value} {k s : Nat} (h : MarkImps cur k s) (hc : k * 3 + 2 < cur.size) :
    MarkImps (((cur.setIfInBounds (k * 3) (.string (markOf (s + 3 * k)))).setIfInBounds (k * 3 + 1) (.int .i64 ((s : Int) + 3 * (k : Int) + 1))).setIfInBounds (k * 3 + 2) (.int .i64 ((s : Int) + 3 * (k : Int) + 2))) (k + 1) s := by
  intro i hi
  simp only [Array.getElem?_setIfInBounds, Array.size_setIfInBounds]
  by_cases hik : i = k
  · subst hik
    refine ⟨?_, ?_, ?_⟩
    · rw [if_neg (by omega), if_neg (by omega), if_pos rfl, if_pos (by omega)]
    · rw [if_neg (by omega), if_pos rfl, if_pos (by omega)]
      congr 2
    · rw [if_pos rfl, if_pos (by omega)]
      congr 2
  · have := h i (by omega)
    rw [if_neg (by omega), if_neg (by omega), if_neg (by omega), if_neg (by omega), if_neg (by omega), if_neg (by omega), if_neg (by omega), if_neg (by omega), if_neg (by omega)]
    exact this
/-- The slice v has m of these, in the block g of its own that holds cu, or has none. -/
def MkImps (hp : Prop) (w : World) (v : Value) (g m : Nat) (cu : Array Value) : Prop := (¬ hp ∧ v = .slice none 0 0 ∧ m = 0) ∨ (hp ∧ ∃ cap, v = .slice (some ⟨g, 0, none⟩) m cap ∧ Blk w g 51 cu ∧ m * 3 ≤ cu.size)
def MkdImps (w : World) (v : Value) (m s : Nat) : Prop := (v = .slice none 0 0 ∧ m = 0) ∨ ∃ g cap cur, v = .slice (some ⟨g, 0, none⟩) m cap ∧ Blk w g 51 cur ∧ MarkImps cur m s
theorem MkdImps.below {w w' : World} {v : Value} {m s : Nat} (h : MkdImps w v m s) (hb : Below w.heap.size w w') : MkdImps w' v m s := by
  rcases h with h | ⟨g, cap, cur, h1, h2, h3⟩
  · exact .inl h
  · exact .inr ⟨g, cap, cur, h1, h2.below hb, h3⟩
set_option maxRecDepth 100000 in
set_option maxHeartbeats 2000000 in
theorem markImportS {hp : Prop} {g m : Nat} {v : Value} {cu : Array Value} {w : World} (s : Nat) (hs0 : 0 < s) (hs1 : s ≤ 100000000000000) (hm : m ≤ 1048576) (h : MkImps hp w v g m cu) :
    Calls Tryz.prog 15 #[v, .int .i64 s] w fun e w' => e = .returned (.int .i64 (s + 3 * m : Nat)) ∧ OutS (BlkOf v) w w' ∧ (hp → ∃ cur, Blk w' g 51 cur ∧ cur.size = cu.size ∧ MarkImps cur m s) := by
  have e1 : ∃ a1 c1, v = .slice a1 m c1 ∧ (0 < m → hp) ∧ (hp → a1 = some ⟨g, 0, none⟩ ∧ Blk w g 51 cu ∧ m * 3 ≤ cu.size) := by
    rcases h with ⟨hn, rfl, rfl⟩ | ⟨hy, cap, rfl, hg, hz⟩
    · exact ⟨none, 0, rfl, fun h => by omega, fun h => absurd h hn⟩
    · exact ⟨_, cap, rfl, fun _ => hy, fun _ => ⟨rfl, hg, hz⟩⟩
  obtain ⟨a1, c1, rfl, q0, q⟩ := e1
  have QP : Hid (0 < m → hp) := q0
  have QQ : Hid _ := q
  clear h
  go_enter Tryz.func15, Tryz.ntmps15
  go_wp2
  go_loopw [1, 5] (fun i1 i5 wr => ∃ k : Nat, i1 = .int .i64 (s + 3 * k : Nat) ∧ i5 = .int .i64 (k : Int) ∧ k ≤ m ∧ OutS (BlkOf (.slice a1 m c1)) w wr ∧ (hp → ∃ cur, Blk wr g 51 cur ∧ cur.size = cu.size ∧ MarkImps cur k s)) (fun _ i5 _ => m - (intOf i5).toNat)
  case atStart => exact ⟨0, rfl, rfl, by omega, OutS.refl _ _, fun hq => ⟨cu, (QQ.out hq).2.1, rfl, fun i hi => by omega⟩⟩
  case round =>
    obtain ⟨k, rfl, rfl, hk, hB, hq⟩ := hrel
    by_cases hkn : k < m
    · have hkn' : (k : Int) < (m : Int) := by omega
      obtain ⟨rfl, _, hz⟩ := QQ.out (QP.out (by omega))
      obtain ⟨cur, hblk, hsz, hmc⟩ := hq (QP.out (by omega))
      have z0 : k * 3 < cur.size := by omega
      have z1 : k * 3 + 1 < cur.size := by omega
      have z2 : k * 3 + 2 < cur.size := by omega
      have HM : Hid _ := hmc.step z2
      have HB0 : Hid (Blk wr g 51 cur) := hblk
      have ct0 := lawText (s + 3 * k) (by omega) (by omega)
      rw [show ((s + 3 * k : Nat) : Int) = (s : Int) + 3 * (k : Int) by omega] at ct0
      obtain ⟨M0, hM0⟩ : ∃ M, markOf (s + 3 * k) = M := ⟨_, rfl⟩
      rw [hM0] at ct0 HM
      clear hM0
      clear hmc hblk
      go_wp2_with (go_at_call 37; go_must (refine (ct0 _).mono ?_; rintro e w_0 ⟨rfl, hB_0⟩; have hb_0 := Blk.below HB0.out hB_0; have ho_0 := OutS.trans hB (OutS.of hB_0); have c0_0 := hb_0.cell (k * 3); have c0_1 := hb_0.cell (k * 3 + 1); have c0_2 := hb_0.cell (k * 3 + 2); rw [Array.getElem?_eq_getElem (by first | exact z0 | (simp only [Array.size_setIfInBounds]; exact z0))] at c0_0; rw [Array.getElem?_eq_getElem (by first | exact z1 | (simp only [Array.size_setIfInBounds]; exact z1))] at c0_1; rw [Array.getElem?_eq_getElem (by first | exact z2 | (simp only [Array.size_setIfInBounds]; exact z2))] at c0_2; have f0_0 := hb_0.fro (k * 3); have f0_1 := hb_0.fro (k * 3 + 1); have f0_2 := hb_0.fro (k * 3 + 2)))
      exact ⟨⟨k + 1, by congr 1 <;> omega, rfl, by omega, (((ho_0.set .mk _).set .mk _).set .mk _), fun _ => ⟨_, (((hb_0.set (k * 3) _).set (k * 3 + 1) _).set (k * 3 + 2) _), by simp [hsz], HM.out⟩⟩, by simp [intOf]; omega⟩
    · have hkn' : ¬ ((k : Int) < (m : Int)) := by omega
      obtain rfl : k = m := by omega
      go_wp2_with fail
      go_ret
      exact ⟨by go_num, hB, hq⟩
/-- The first m are marked from s on. -/
def MarkPks (cur : Array Value) (m s : Nat) : Prop := ∀ i, i < m → cur[i * 2]? = some (.string (markOf (s + 2 * i))) ∧ cur[i * 2 + 1]? = some (.int .i64 ((s + 2 * i + 1 : Nat) : Int))
theorem MarkPks.step {cur : Array Value} {k s : Nat} (h : MarkPks cur k s) (hc : k * 2 + 1 < cur.size) :
    MarkPks ((cur.setIfInBounds (k * 2) (.string (markOf (s + 2 * k)))).setIfInBounds (k * 2 + 1) (.int .i64 ((s : Int) + 2 * (k : Int) + 1))) (k + 1) s := by
  intro i hi
  simp only [Array.getElem?_setIfInBounds, Array.size_setIfInBounds]
  by_cases hik : i = k
  · subst hik
    refine ⟨?_, ?_⟩
    · rw [if_neg (by omega), if_pos rfl, if_pos (by omega)]
    · rw [if_pos rfl, if_pos (by omega)]
      congr 2
  · have := h i (by omega)
    rw [if_neg (by omega), if_neg (by omega), if_neg (by omega), if_neg (by omega)]
    exact this
/-- The slice v has m of these, in the block g of its own that holds cu, or has none. -/
def MkPks (hp : Prop) (w : World) (v : Value) (g m : Nat) (cu : Array Value) : Prop := (¬ hp ∧ v = .slice none 0 0 ∧ m = 0) ∨ (hp ∧ ∃ cap, v = .slice (some ⟨g, 0, none⟩) m cap ∧ Blk w g 56 cu ∧ m * 2 ≤ cu.size)
def MkdPks (w : World) (v : Value) (m s : Nat) : Prop := (v = .slice none 0 0 ∧ m = 0) ∨ ∃ g cap cur, v = .slice (some ⟨g, 0, none⟩) m cap ∧ Blk w g 56 cur ∧ MarkPks cur m s
theorem MkdPks.below {w w' : World} {v : Value} {m s : Nat} (h : MkdPks w v m s) (hb : Below w.heap.size w w') : MkdPks w' v m s := by
  rcases h with h | ⟨g, cap, cur, h1, h2, h3⟩
  · exact .inl h
  · exact .inr ⟨g, cap, cur, h1, h2.below hb, h3⟩
set_option maxRecDepth 100000 in
set_option maxHeartbeats 2000000 in
theorem markPickS {hp : Prop} {g m : Nat} {v : Value} {cu : Array Value} {w : World} (s : Nat) (hs0 : 0 < s) (hs1 : s ≤ 100000000000000) (hm : m ≤ 1048576) (h : MkPks hp w v g m cu) :
    Calls Tryz.prog 16 #[v, .int .i64 s] w fun e w' => e = .returned (.int .i64 (s + 2 * m : Nat)) ∧ OutS (BlkOf v) w w' ∧ (hp → ∃ cur, Blk w' g 56 cur ∧ cur.size = cu.size ∧ MarkPks cur m s) := by
  have e1 : ∃ a1 c1, v = .slice a1 m c1 ∧ (0 < m → hp) ∧ (hp → a1 = some ⟨g, 0, none⟩ ∧ Blk w g 56 cu ∧ m * 2 ≤ cu.size) := by
    rcases h with ⟨hn, rfl, rfl⟩ | ⟨hy, cap, rfl, hg, hz⟩
    · exact ⟨none, 0, rfl, fun h => by omega, fun h => absurd h hn⟩
    · exact ⟨_, cap, rfl, fun _ => hy, fun _ => ⟨rfl, hg, hz⟩⟩
  obtain ⟨a1, c1, rfl, q0, q⟩ := e1
  have QP : Hid (0 < m → hp) := q0
  have QQ : Hid _ := q
  clear h
  go_enter Tryz.func16, Tryz.ntmps16
  go_wp2
  go_loopw [1, 5] (fun i1 i5 wr => ∃ k : Nat, i1 = .int .i64 (s + 2 * k : Nat) ∧ i5 = .int .i64 (k : Int) ∧ k ≤ m ∧ OutS (BlkOf (.slice a1 m c1)) w wr ∧ (hp → ∃ cur, Blk wr g 56 cur ∧ cur.size = cu.size ∧ MarkPks cur k s)) (fun _ i5 _ => m - (intOf i5).toNat)
  case atStart => exact ⟨0, rfl, rfl, by omega, OutS.refl _ _, fun hq => ⟨cu, (QQ.out hq).2.1, rfl, fun i hi => by omega⟩⟩
  case round =>
    obtain ⟨k, rfl, rfl, hk, hB, hq⟩ := hrel
    by_cases hkn : k < m
    · have hkn' : (k : Int) < (m : Int) := by omega
      obtain ⟨rfl, _, hz⟩ := QQ.out (QP.out (by omega))
      obtain ⟨cur, hblk, hsz, hmc⟩ := hq (QP.out (by omega))
      have z0 : k * 2 < cur.size := by omega
      have z1 : k * 2 + 1 < cur.size := by omega
      have HM : Hid _ := hmc.step z1
      have HB0 : Hid (Blk wr g 56 cur) := hblk
      have ct0 := lawText (s + 2 * k) (by omega) (by omega)
      rw [show ((s + 2 * k : Nat) : Int) = (s : Int) + 2 * (k : Int) by omega] at ct0
      obtain ⟨M0, hM0⟩ : ∃ M, markOf (s + 2 * k) = M := ⟨_, rfl⟩
      rw [hM0] at ct0 HM
      clear hM0
      clear hmc hblk
      go_wp2_with (go_at_call 37; go_must (refine (ct0 _).mono ?_; rintro e w_0 ⟨rfl, hB_0⟩; have hb_0 := Blk.below HB0.out hB_0; have ho_0 := OutS.trans hB (OutS.of hB_0); have c0_0 := hb_0.cell (k * 2); have c0_1 := hb_0.cell (k * 2 + 1); rw [Array.getElem?_eq_getElem (by first | exact z0 | (simp only [Array.size_setIfInBounds]; exact z0))] at c0_0; rw [Array.getElem?_eq_getElem (by first | exact z1 | (simp only [Array.size_setIfInBounds]; exact z1))] at c0_1; have f0_0 := hb_0.fro (k * 2); have f0_1 := hb_0.fro (k * 2 + 1)))
      exact ⟨⟨k + 1, by congr 1 <;> omega, rfl, by omega, ((ho_0.set .mk _).set .mk _), fun _ => ⟨_, ((hb_0.set (k * 2) _).set (k * 2 + 1) _), by simp [hsz], HM.out⟩⟩, by simp [intOf]; omega⟩
    · have hkn' : ¬ ((k : Int) < (m : Int)) := by omega
      obtain rfl : k = m := by omega
      go_wp2_with fail
      go_ret
      exact ⟨by go_num, hB, hq⟩
set_option maxRecDepth 100000 in
set_option maxHeartbeats 2000000 in
theorem heldPickS {v : Value} {m s : Nat} {w : World} (hs0 : 0 < s) (hs1 : s ≤ 100000000000000) (hm : m ≤ 1048576) (h : MkdPks w v m s) :
    Calls Tryz.prog 18 #[v, .int .i64 s] w fun e w' => e = .returned (.int .i64 (s + 2 * m : Nat)) ∧ Below w.heap.size w w' := by
  have e1 : ∃ g0 a1 c1 cu, v = .slice a1 m c1 ∧ (0 < m → a1 = some ⟨g0, 0, none⟩ ∧ Blk w g0 56 cu ∧ MarkPks cu m s) := by
    rcases h with ⟨rfl, rfl⟩ | ⟨g, cap, cur, rfl, hg, hm⟩
    · exact ⟨0, none, 0, #[], rfl, fun h => by omega⟩
    · exact ⟨g, _, cap, cur, rfl, fun _ => ⟨rfl, hg, hm⟩⟩
  obtain ⟨g, a1, c1, cu, rfl, q⟩ := e1
  clear h
  go_enter Tryz.func18, Tryz.ntmps18
  go_wp2
  go_loopw [1, 5] (fun i1 i5 wr => ∃ k : Nat, i1 = .int .i64 (s + 2 * k : Nat) ∧ i5 = .int .i64 (k : Int) ∧ k ≤ m ∧ Below w.heap.size w wr) (fun _ i5 _ => m - (intOf i5).toNat)
  case atStart => exact ⟨0, rfl, rfl, by omega, Below.refl _ _⟩
  case round =>
    obtain ⟨k, rfl, rfl, hk, hB⟩ := hrel
    by_cases hkn : k < m
    · have hkn' : (k : Int) < (m : Int) := by omega
      obtain ⟨rfl, hblk, hmc⟩ := q (by omega)
      obtain ⟨v0, v1⟩ := hmc k hkn
      have y0 : ∀ N : GoodW (fun W => Below w.heap.size w W), N.W.cell? ⟨g, k * 2, none⟩ = some (.string (markOf (s + 2 * k))) := fun N => by rw [(hblk.below N.ok).cell, v0]
      have y1 : ∀ N : GoodW (fun W => Below w.heap.size w W), N.W.cell? ⟨g, k * 2 + 1, none⟩ = some (.int .i64 ((s : Int) + 2 * (k : Int) + 1)) := fun N => by rw [(hblk.below N.ok).cell, v1]; congr 2
      have ct0 := lawText (s + 2 * k) (by omega) (by omega)
      rw [show ((s + 2 * k : Nat) : Int) = (s : Int) + 2 * (k : Int) by omega] at ct0
      obtain ⟨M0, hM0⟩ : ∃ M, markOf (s + 2 * k) = M := ⟨_, rfl⟩
      rw [hM0] at ct0 y0
      clear hM0
      have Y0 : Hid _ := y0
      have Y1 : Hid _ := y1
      have CT0 : Hid _ := ct0
      clear hblk hmc q v0 v1 y0 y1 ct0
      go_wp2_with fail
      have y0 := Y0.out
      have ct0 := CT0.out
      haveI ne0 : Nonempty (GoodW (fun W => Below w.heap.size w W)) := ⟨⟨_, hB⟩⟩
      refine wp_region_calm (fun W => Below w.heap.size w W) (by kernel_rfl) (by kernel_rfl) hB.drew ?_
      repeat (go_big_quiet_step ((go_at_call 37; exact Calls.calm _ (fun w2 hb => good_below (GoodW.ok _) hb) (ct0 _))))
      refine wpQuiet_nil ?_
      rintro W0 ⟨⟨X0, hX0⟩, hE0⟩
      have hW0 : Below w.heap.size w W0 := by rw [hE0]; exact hX0
      clear hE0 hX0 X0 y0 ct0
      have c1 := Y1.out ⟨W0, hW0⟩
      go_wp2_with fail
      exact ⟨⟨k + 1, by congr 1 <;> omega, rfl, by omega, hW0⟩, by simp [intOf]; omega⟩
    · have hkn' : ¬ ((k : Int) < (m : Int)) := by omega
      obtain rfl : k = m := by omega
      go_wp2_with fail
      go_ret
      exact ⟨by go_num, hB⟩
/-- The first m are marked from s on. -/
def MarkTxts (cur : Array Value) (m s : Nat) : Prop := ∀ i, i < m → cur[i]? = some (.string (markOf (s + i)))
theorem MarkTxts.step {cur : Array Value} {k s : Nat} (h : MarkTxts cur k s) (hc : k < cur.size) :
    MarkTxts (cur.setIfInBounds (k) (.string (markOf (s + k)))) (k + 1) s := by
  intro i hi
  simp only [Array.getElem?_setIfInBounds, Array.size_setIfInBounds]
  by_cases hik : i = k
  · subst hik
    · rw [if_pos rfl, if_pos (by omega)]
  · have := h i (by omega)
    rw [if_neg (by omega)]
    exact this
/-- The slice v has m of these, in the block g of its own that holds cu, or has none. -/
def MkTxts (hp : Prop) (w : World) (v : Value) (g m : Nat) (cu : Array Value) : Prop := (¬ hp ∧ v = .slice none 0 0 ∧ m = 0) ∨ (hp ∧ ∃ cap, v = .slice (some ⟨g, 0, none⟩) m cap ∧ Blk w g 9 cu ∧ m * 1 ≤ cu.size)
def MkdTxts (w : World) (v : Value) (m s : Nat) : Prop := (v = .slice none 0 0 ∧ m = 0) ∨ ∃ g cap cur, v = .slice (some ⟨g, 0, none⟩) m cap ∧ Blk w g 9 cur ∧ MarkTxts cur m s
theorem MkdTxts.below {w w' : World} {v : Value} {m s : Nat} (h : MkdTxts w v m s) (hb : Below w.heap.size w w') : MkdTxts w' v m s := by
  rcases h with h | ⟨g, cap, cur, h1, h2, h3⟩
  · exact .inl h
  · exact .inr ⟨g, cap, cur, h1, h2.below hb, h3⟩
set_option maxRecDepth 100000 in
set_option maxHeartbeats 2000000 in
theorem markStringS {hp : Prop} {g m : Nat} {v : Value} {cu : Array Value} {w : World} (s : Nat) (hs0 : 0 < s) (hs1 : s ≤ 100000000000000) (hm : m ≤ 1048576) (h : MkTxts hp w v g m cu) :
    Calls Tryz.prog 17 #[v, .int .i64 s] w fun e w' => e = .returned (.int .i64 (s + m : Nat)) ∧ OutS (BlkOf v) w w' ∧ (hp → ∃ cur, Blk w' g 9 cur ∧ cur.size = cu.size ∧ MarkTxts cur m s) := by
  have e1 : ∃ a1 c1, v = .slice a1 m c1 ∧ (0 < m → hp) ∧ (hp → a1 = some ⟨g, 0, none⟩ ∧ Blk w g 9 cu ∧ m * 1 ≤ cu.size) := by
    rcases h with ⟨hn, rfl, rfl⟩ | ⟨hy, cap, rfl, hg, hz⟩
    · exact ⟨none, 0, rfl, fun h => by omega, fun h => absurd h hn⟩
    · exact ⟨_, cap, rfl, fun _ => hy, fun _ => ⟨rfl, hg, hz⟩⟩
  obtain ⟨a1, c1, rfl, q0, q⟩ := e1
  have QP : Hid (0 < m → hp) := q0
  have QQ : Hid _ := q
  clear h
  go_enter Tryz.func17, Tryz.ntmps17
  go_wp2
  go_loopw [1, 5] (fun i1 i5 wr => ∃ k : Nat, i1 = .int .i64 (s + k : Nat) ∧ i5 = .int .i64 (k : Int) ∧ k ≤ m ∧ OutS (BlkOf (.slice a1 m c1)) w wr ∧ (hp → ∃ cur, Blk wr g 9 cur ∧ cur.size = cu.size ∧ MarkTxts cur k s)) (fun _ i5 _ => m - (intOf i5).toNat)
  case atStart => exact ⟨0, rfl, rfl, by omega, OutS.refl _ _, fun hq => ⟨cu, (QQ.out hq).2.1, rfl, fun i hi => by omega⟩⟩
  case round =>
    obtain ⟨k, rfl, rfl, hk, hB, hq⟩ := hrel
    by_cases hkn : k < m
    · have hkn' : (k : Int) < (m : Int) := by omega
      obtain ⟨rfl, _, hz⟩ := QQ.out (QP.out (by omega))
      obtain ⟨cur, hblk, hsz, hmc⟩ := hq (QP.out (by omega))
      have z0 : k < cur.size := by omega
      have HM : Hid _ := hmc.step z0
      have HB0 : Hid (Blk wr g 9 cur) := hblk
      have ct0 := lawText (s + k) (by omega) (by omega)
      rw [show ((s + k : Nat) : Int) = (s : Int) + (k : Int) by omega] at ct0
      obtain ⟨M0, hM0⟩ : ∃ M, markOf (s + k) = M := ⟨_, rfl⟩
      rw [hM0] at ct0 HM
      clear hM0
      clear hmc hblk
      go_wp2_with (go_at_call 37; go_must (refine (ct0 _).mono ?_; rintro e w_0 ⟨rfl, hB_0⟩; have hb_0 := Blk.below HB0.out hB_0; have ho_0 := OutS.trans hB (OutS.of hB_0); have c0_0 := hb_0.cell (k); rw [Array.getElem?_eq_getElem (by first | exact z0 | (simp only [Array.size_setIfInBounds]; exact z0))] at c0_0; have f0_0 := hb_0.fro (k)))
      exact ⟨⟨k + 1, by congr 1 <;> omega, rfl, by omega, (ho_0.set .mk _), fun _ => ⟨_, (hb_0.set (k) _), by simp [hsz], HM.out⟩⟩, by simp [intOf]; omega⟩
    · have hkn' : ¬ ((k : Int) < (m : Int)) := by omega
      obtain rfl : k = m := by omega
      go_wp2_with fail
      go_ret
      exact ⟨by go_num, hB, hq⟩
set_option maxRecDepth 100000 in
set_option maxHeartbeats 2000000 in
theorem heldStringS {v : Value} {m s : Nat} {w : World} (hs0 : 0 < s) (hs1 : s ≤ 100000000000000) (hm : m ≤ 1048576) (h : MkdTxts w v m s) :
    Calls Tryz.prog 19 #[v, .int .i64 s] w fun e w' => e = .returned (.int .i64 (s + m : Nat)) ∧ Below w.heap.size w w' := by
  have e1 : ∃ g0 a1 c1 cu, v = .slice a1 m c1 ∧ (0 < m → a1 = some ⟨g0, 0, none⟩ ∧ Blk w g0 9 cu ∧ MarkTxts cu m s) := by
    rcases h with ⟨rfl, rfl⟩ | ⟨g, cap, cur, rfl, hg, hm⟩
    · exact ⟨0, none, 0, #[], rfl, fun h => by omega⟩
    · exact ⟨g, _, cap, cur, rfl, fun _ => ⟨rfl, hg, hm⟩⟩
  obtain ⟨g, a1, c1, cu, rfl, q⟩ := e1
  clear h
  go_enter Tryz.func19, Tryz.ntmps19
  go_wp2
  go_loopw [1, 5] (fun i1 i5 wr => ∃ k : Nat, i1 = .int .i64 (s + k : Nat) ∧ i5 = .int .i64 (k : Int) ∧ k ≤ m ∧ Below w.heap.size w wr) (fun _ i5 _ => m - (intOf i5).toNat)
  case atStart => exact ⟨0, rfl, rfl, by omega, Below.refl _ _⟩
  case round =>
    obtain ⟨k, rfl, rfl, hk, hB⟩ := hrel
    by_cases hkn : k < m
    · have hkn' : (k : Int) < (m : Int) := by omega
      obtain ⟨rfl, hblk, hmc⟩ := q (by omega)
      have v0 := hmc k hkn
      have y0 : ∀ N : GoodW (fun W => Below w.heap.size w W), N.W.cell? ⟨g, k, none⟩ = some (.string (markOf (s + k))) := fun N => by rw [(hblk.below N.ok).cell, v0]
      have ct0 := lawText (s + k) (by omega) (by omega)
      rw [show ((s + k : Nat) : Int) = (s : Int) + (k : Int) by omega] at ct0
      obtain ⟨M0, hM0⟩ : ∃ M, markOf (s + k) = M := ⟨_, rfl⟩
      rw [hM0] at ct0 y0
      clear hM0
      have Y0 : Hid _ := y0
      have CT0 : Hid _ := ct0
      clear hblk hmc q v0 y0 ct0
      go_wp2_with fail
      have y0 := Y0.out
      have ct0 := CT0.out
      haveI ne0 : Nonempty (GoodW (fun W => Below w.heap.size w W)) := ⟨⟨_, hB⟩⟩
      refine wp_region_calm (fun W => Below w.heap.size w W) (by kernel_rfl) (by kernel_rfl) hB.drew ?_
      repeat (go_big_quiet_step ((go_at_call 37; exact Calls.calm _ (fun w2 hb => good_below (GoodW.ok _) hb) (ct0 _))))
      refine wpQuiet_nil ?_
      rintro W0 ⟨⟨X0, hX0⟩, hE0⟩
      have hW0 : Below w.heap.size w W0 := by rw [hE0]; exact hX0
      clear hE0 hX0 X0 y0 ct0
      go_wp2_with fail
      exact ⟨⟨k + 1, by congr 1 <;> omega, rfl, by omega, hW0⟩, by simp [intOf]; omega⟩
    · have hkn' : ¬ ((k : Int) < (m : Int)) := by omega
      obtain rfl : k = m := by omega
      go_wp2_with fail
      go_ret
      exact ⟨by go_num, hB⟩
end Go.Proofs.YtkghlnhmmfjclaaGreatDoor
