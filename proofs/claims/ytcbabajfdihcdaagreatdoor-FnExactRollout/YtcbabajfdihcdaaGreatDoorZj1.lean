/-
  Rows are marked, and held again. Copies are marked: which blocks are touched. What came in is opened. Rules as plain data; how large they are. What a Lookup answers. Rows of texts and of settings of one's own: many appended. No statement of the seat is proved here.
-/
import Derived.Test.YtcbabajfdihcdaaGreatDoorZj0
import Derived.Deep.SlicePairs
import Derived.Deep.Cut
import Derived.Laws.AppendOwn
import Derived.Laws.AppendOwnNone
namespace Go.Proofs.YtcbabajfdihcdaaGreatDoor
open Go.ChangeShapes Go.WideShapes Go.ChangeAt Go.RowKit
set_option linter.unusedVariables false
set_option linter.unusedSimpArgs false

/-- Of the blocks that were there, only some of S have turned. -/
structure OutS (S : Nat → Prop) (w w' : World) : Prop where
  os : w'.os = w.os
  tape : w'.tape = w.tape
  output : w'.output = w.output
  size : w.heap.size ≤ w'.heap.size
  block : ∀ k, k < w.heap.size → ¬ S k → w'.heap[k]? = w.heap[k]?
theorem OutS.refl (S : Nat → Prop) (w : World) : OutS S w w := ⟨rfl, rfl, rfl, Nat.le_refl _, fun _ _ _ => rfl⟩
theorem OutS.trans {S : Nat → Prop} {a b c : World} (h : OutS S a b) (k : OutS S b c) : OutS S a c :=
  ⟨k.os.trans h.os, k.tape.trans h.tape, k.output.trans h.output, Nat.le_trans h.size k.size, fun i hi hs => (k.block i (Nat.lt_of_lt_of_le hi h.size) hs).trans (h.block i hi hs)⟩
theorem OutS.mono {S S' : Nat → Prop} {a b : World} (h : OutS S a b) (hS : ∀ k, S k → S' k) : OutS S' a b :=
  ⟨h.os, h.tape, h.output, h.size, fun i hi hs => h.block i hi (fun h => hs (hS i h))⟩
theorem OutS.of {S : Nat → Prop} {a b : World} (h : Below a.heap.size a b) : OutS S a b := ⟨h.os, h.tape, h.output, h.size, fun i hi _ => h.block i hi⟩
theorem OutS.set {S : Nat → Prop} {a b : World} (h : OutS S a b) {g i : Nat} (hg : S g) (v : Value) : OutS S a (b.setCell ⟨g, i, none⟩ v) :=
  ⟨h.os, h.tape, h.output, by rw [World.size_setCell]; exact h.size, fun k hk hs => by rw [Below.heap_setCell _ _ _ _ (fun e => hs (by rw [e]; exact hg))]; exact h.block k hk hs⟩
theorem OutS.below {S : Nat → Prop} {a b : World} {B : Nat} (h : OutS S a b) (hS : ∀ k, S k → B ≤ k) (hB : B ≤ a.heap.size) : Below B a b :=
  ⟨h.os, h.tape, h.output, h.size, fun k hk => h.block k (by omega) (fun hs => by have := hS k hs; omega)⟩

/-- The block of a slice. -/
def BlkOf (v : Value) (b : Nat) : Prop := ∃ n c, v = .slice (some ⟨b, 0, none⟩) n c
theorem BlkOf.mk {b n c : Nat} : BlkOf (.slice (some ⟨b, 0, none⟩) n c) b := ⟨n, c, rfl⟩
theorem BlkOf.eq {g b n c : Nat} (h : BlkOf (.slice (some ⟨g, 0, none⟩) n c) b) : b = g := by
  obtain ⟨_, _, h⟩ := h
  injection h with h
  injection h with h
  injection h with h
  exact h.symm

/-- The digits of k ahead of acc. -/
def digs (k : Nat) (acc : List UInt8) : List UInt8 := if h : k = 0 then acc else digs (k / 10) (UInt8.ofNat (48 + k % 10) :: acc)
termination_by k
decreasing_by omega

theorem digs_zero (acc : List UInt8) : digs 0 acc = acc := by unfold digs; simp
theorem digs_pos {k : Nat} (h : k ≠ 0) (acc : List UInt8) : digs k acc = digs (k / 10) (UInt8.ofNat (48 + k % 10) :: acc) := by
  conv => lhs; unfold digs
  rw [dif_neg h]

/-- markText's text. -/
def markOf (k : Nat) : ByteArray := ⟨(109 :: digs k []).toArray⟩

set_option maxRecDepth 100000 in
set_option maxHeartbeats 400000 in
theorem lawText (k : Nat) (h0 : 0 < k) (hk : k ≤ 1000000000000000) (w : World) :
    Calls Tryz.prog 52 #[.int .i64 (k : Int)] w fun e w' => e = .returned (.string (markOf k)) ∧ Below w.heap.size w w' := by
  obtain ⟨D, hD⟩ : ∃ D, digs k [] = D := ⟨_, rfl⟩
  have HD : Hid (digs k [] = D) := hD
  unfold markOf
  rw [hD]
  clear hD
  have hkb : decide (k = 0) = false := by simp; omega
  go_enter Tryz.func52, Tryz.ntmps52
  go_wp2

  go_loopw [0, 3] (fun i0 i3 wr => ∃ (n : Nat) (acc : List UInt8), i0 = .int .i64 (n : Int) ∧ i3 = .string ⟨acc.toArray⟩ ∧ acc.length + n ≤ 1000000000000000 ∧ digs n acc = D ∧ Below w.heap.size w wr) (fun i0 _ _ => (intOf i0).toNat)
  case atStart => exact ⟨k, [], rfl, rfl, by simpa using hk, HD, Below.refl _ _⟩
  case round =>
    obtain ⟨n, acc, rfl, rfl, hb, hd, hB⟩ := hrel
    have HDg : Hid (digs n acc = D) := hd
    clear hd HD
    by_cases hn : n = 0
    · subst hn
      go_wp2
      go_ret
      refine ⟨?_, hB⟩
      rw [← HDg.out, digs_zero]
      congr 2
    · have hn' : (0 : Int) < (n : Int) := by omega
      have hown : OwnB w.heap.size (wr.alloc (.cells #[.int .u8 (48 + (n : Int) % 10)] 5)) (.slice (some ⟨wr.heap.size, 0, none⟩) 1 1) [UInt8.ofNat (48 + n % 10)] := by
        refine ⟨rfl, .inr ⟨wr.heap.size, 1, _, rfl, hB.size, heap_alloc_last wr _, by simp, by decide, rfl, ?_⟩⟩
        simp [bv]
        omega
      obtain ⟨c, hc⟩ : ∃ c, UInt8.ofNat (48 + n % 10) = c := ⟨_, rfl⟩
      have HS : Hid (digs (n / 10) (c :: acc) = D) := by
        show _ = _
        rw [← hc, ← digs_pos hn acc]; exact HDg
      rw [hc] at hown
      clear hc HDg
      go_wp2_with (refine wpList_stringOf rfl 139 9 (.tmp 12) rfl Tryz.underlying9 Tryz.underlying139 Tryz.underlying5 w.heap.size _ _ rfl hown ?_)
      go_roundw
      case rel => exact ⟨n / 10, c :: acc, by go_num, by congr 1, by simp; omega, HS, hB.alloc hB.size _⟩
      case measure => simp [intOf]; omega


def SettingsCells (x : Setting) : List Value := [.string x.path, .string x.text, .string x.from']
def SettingsRow (l : List Setting) : List Value := l.flatMap SettingsCells
theorem SettingsRow_length (l : List Setting) : (SettingsRow l).length = l.length * 3 := by
  induction l with
  | nil => rfl
  | cons a t ih => simp only [SettingsRow, List.flatMap_cons, List.length_append, List.length_cons] at ih ⊢; rw [ih]; simp [SettingsCells] <;> omega
theorem SettingsRow_append (l k : List Setting) : SettingsRow (l ++ k) = SettingsRow l ++ SettingsRow k := by simp [SettingsRow]
theorem SettingsRow_one {l : List Setting} {u : Value} (hu : u ∈ SettingsRow l) : u.oneCell' = true := by
  obtain ⟨x, _, hx⟩ := List.mem_flatMap.1 hu
  simp only [SettingsCells, List.mem_cons, List.mem_nil_iff, or_false] at hx
  rcases hx with rfl | rfl | rfl <;> rfl
theorem SettingsRow_at (l : List Setting) (k : Nat) (hk : k < l.length) : (SettingsRow l)[k * 3]? = some (.string l[k].path) ∧ (SettingsRow l)[k * 3 + 1]? = some (.string l[k].text) ∧ (SettingsRow l)[k * 3 + 2]? = some (.string l[k].from') := by
  induction l generalizing k with
  | nil => simp at hk
  | cons a t ih =>
    have hc : SettingsRow (a :: t) = SettingsCells a ++ SettingsRow t := by simp [SettingsRow]
    rw [hc]
    cases k with
    | zero => simp [SettingsCells]
    | succ k =>
      rw [List.getElem?_append_right (by simp [SettingsCells] <;> omega), List.getElem?_append_right (by simp [SettingsCells] <;> omega), List.getElem?_append_right (by simp [SettingsCells] <;> omega)]
      have e0 : (k + 1) * 3 - (SettingsCells a).length = k * 3 := by simp [SettingsCells] <;> omega
      have e1 : (k + 1) * 3 + 1 - (SettingsCells a).length = k * 3 + 1 := by simp [SettingsCells] <;> omega
      have e2 : (k + 1) * 3 + 2 - (SettingsCells a).length = k * 3 + 2 := by simp [SettingsCells] <;> omega
      rw [e0, e1, e2]
      simpa using ih k (by simpa using hk)
/-- A row of one's own. -/
def OwnSettings (B : Nat) (w : World) (v : Value) (l : List Setting) : Prop := w.ownsRow B 99 3 v l.length (SettingsRow l)
theorem OwnSettings.below {B : Nat} {w w' : World} {v : Value} {l : List Setting} (h : OwnSettings B w v l) (hb : Below w.heap.size w w') : OwnSettings B w' v l := by
  obtain ⟨hl, h⟩ := h
  refine ⟨hl, ?_⟩
  rcases h with h | ⟨g, cap, cur, hv, hB, hg, h1, h2, h3, h4⟩
  · exact .inl h
  · refine .inr ⟨g, cap, cur, hv, hB, ?_, h1, h2, h3, h4⟩
    rw [hb.block g (Array.getElem?_eq_some_iff.1 hg).1]; exact hg
theorem OwnSettings.mono {B B' : Nat} {w : World} {v : Value} {l : List Setting} (h : OwnSettings B w v l) (hB : B' ≤ B) : OwnSettings B' w v l := by
  obtain ⟨hl, h⟩ := h
  refine ⟨hl, ?_⟩
  rcases h with h | ⟨g, cap, cur, hv, hg, h1⟩
  · exact .inl h
  · exact .inr ⟨g, cap, cur, hv, Nat.le_trans hB hg, h1⟩
theorem OwnSettings.value {B : Nat} {w : World} {v : Value} {l : List Setting} (h : OwnSettings B w v l) :
    ∃ a cap, v = .slice a l.length cap ∧ l.length ≤ maxLen ∧ (0 < l.length → ∃ g, a = some ⟨g, 0, none⟩ ∧ B ≤ g ∧ g < w.heap.size ∧ ∀ j (hj : j < l.length), w.cell? ⟨g, j * 3, none⟩ = some (.string l[j].path) ∧ w.cell? ⟨g, j * 3 + 1, none⟩ = some (.string l[j].text) ∧ w.cell? ⟨g, j * 3 + 2, none⟩ = some (.string l[j].from')) := by
  rcases h.2 with ⟨rfl, h0⟩ | ⟨g, cap, cur, rfl, hB, hg, h1, h2, h3, h4⟩
  · exact ⟨none, 0, by rw [h0], by omega, fun h => by omega⟩
  · refine ⟨_, cap, rfl, by omega, fun _ => ⟨g, rfl, hB, (Array.getElem?_eq_some_iff.1 hg).1, fun j hj => ?_⟩⟩
    simp only [World.cell?, hg]
    have h5 := SettingsRow_at l j hj
    rw [← h4, List.getElem?_take, List.getElem?_take, List.getElem?_take, if_pos (by omega), if_pos (by omega), if_pos (by omega)] at h5
    simpa using h5
theorem OwnSettings.at {B : Nat} {w : World} {v : Value} {l : List Setting} (h : OwnSettings B w v l) : SettingsAt (fun b => B ≤ b ∧ b < w.heap.size) w v l := by
  obtain ⟨a, cap, hv, hl, hc⟩ := h.value
  refine ⟨hl, a, cap, hv, fun h0 => ?_⟩
  obtain ⟨g, rfl, hB, hg, hcell⟩ := hc h0
  refine ⟨g, 0, rfl, ⟨hB, hg⟩, fun i hi => ?_⟩
  simpa using hcell i hi
theorem OwnSettings.out {B : Nat} {S : Nat → Prop} {w w' : World} {v : Value} {l : List Setting} (h : OwnSettings B w v l) (ho : OutS S w w') (hS : ∀ b, S b → b < B) : OwnSettings B w' v l := by
  obtain ⟨hl, h⟩ := h
  refine ⟨hl, ?_⟩
  rcases h with h | ⟨g, cap, cur, hv, hB, hg, h1⟩
  · exact .inl h
  · refine .inr ⟨g, cap, cur, hv, hB, ?_, h1⟩
    rw [ho.block g (Array.getElem?_eq_some_iff.1 hg).1 (fun hs => by have := hS g hs; omega)]; exact hg
theorem OwnSettings.blk {B b : Nat} {w : World} {v : Value} {l : List Setting} (h : OwnSettings B w v l) (hb : BlkOf v b) : B ≤ b := by
  rcases h.2 with ⟨rfl, _⟩ | ⟨g, cap, cur, rfl, hB, _⟩
  · obtain ⟨_, _, h⟩ := hb; simp at h
  · rw [hb.eq]; exact hB
def TxtsCells (x : ByteArray) : List Value := [.string x]
def TxtsRow (l : List ByteArray) : List Value := l.flatMap TxtsCells
theorem TxtsRow_length (l : List ByteArray) : (TxtsRow l).length = l.length * 1 := by
  induction l with
  | nil => rfl
  | cons a t ih => simp only [TxtsRow, List.flatMap_cons, List.length_append, List.length_cons] at ih ⊢; rw [ih]; simp [TxtsCells] <;> omega
theorem TxtsRow_append (l k : List ByteArray) : TxtsRow (l ++ k) = TxtsRow l ++ TxtsRow k := by simp [TxtsRow]
theorem TxtsRow_one {l : List ByteArray} {u : Value} (hu : u ∈ TxtsRow l) : u.oneCell' = true := by
  obtain ⟨x, _, hx⟩ := List.mem_flatMap.1 hu
  simp only [TxtsCells, List.mem_cons, List.mem_nil_iff, or_false] at hx
  subst hx; rfl
theorem TxtsRow_at (l : List ByteArray) (k : Nat) (hk : k < l.length) : (TxtsRow l)[k]? = some (.string l[k]) := by
  induction l generalizing k with
  | nil => simp at hk
  | cons a t ih =>
    have hc : TxtsRow (a :: t) = TxtsCells a ++ TxtsRow t := by simp [TxtsRow]
    rw [hc]
    cases k with
    | zero => simp [TxtsCells]
    | succ k =>
      rw [List.getElem?_append_right (by simp [TxtsCells] <;> omega)]
      have e0 : (k + 1) - (TxtsCells a).length = k := by simp [TxtsCells] <;> omega
      rw [e0]
      simpa using ih k (by simpa using hk)
/-- A row of one's own. -/
def OwnTxts (B : Nat) (w : World) (v : Value) (l : List ByteArray) : Prop := w.ownsRow B 9 1 v l.length (TxtsRow l)
theorem OwnTxts.below {B : Nat} {w w' : World} {v : Value} {l : List ByteArray} (h : OwnTxts B w v l) (hb : Below w.heap.size w w') : OwnTxts B w' v l := by
  obtain ⟨hl, h⟩ := h
  refine ⟨hl, ?_⟩
  rcases h with h | ⟨g, cap, cur, hv, hB, hg, h1, h2, h3, h4⟩
  · exact .inl h
  · refine .inr ⟨g, cap, cur, hv, hB, ?_, h1, h2, h3, h4⟩
    rw [hb.block g (Array.getElem?_eq_some_iff.1 hg).1]; exact hg
theorem OwnTxts.mono {B B' : Nat} {w : World} {v : Value} {l : List ByteArray} (h : OwnTxts B w v l) (hB : B' ≤ B) : OwnTxts B' w v l := by
  obtain ⟨hl, h⟩ := h
  refine ⟨hl, ?_⟩
  rcases h with h | ⟨g, cap, cur, hv, hg, h1⟩
  · exact .inl h
  · exact .inr ⟨g, cap, cur, hv, Nat.le_trans hB hg, h1⟩
theorem OwnTxts.value {B : Nat} {w : World} {v : Value} {l : List ByteArray} (h : OwnTxts B w v l) :
    ∃ a cap, v = .slice a l.length cap ∧ l.length ≤ maxLen ∧ (0 < l.length → ∃ g, a = some ⟨g, 0, none⟩ ∧ B ≤ g ∧ g < w.heap.size ∧ ∀ j (hj : j < l.length), w.cell? ⟨g, j, none⟩ = some (.string l[j])) := by
  rcases h.2 with ⟨rfl, h0⟩ | ⟨g, cap, cur, rfl, hB, hg, h1, h2, h3, h4⟩
  · exact ⟨none, 0, by rw [h0], by omega, fun h => by omega⟩
  · refine ⟨_, cap, rfl, by omega, fun _ => ⟨g, rfl, hB, (Array.getElem?_eq_some_iff.1 hg).1, fun j hj => ?_⟩⟩
    simp only [World.cell?, hg]
    have h5 := TxtsRow_at l j hj
    rw [← h4, List.getElem?_take, if_pos (by omega)] at h5
    simpa using h5
theorem OwnTxts.at {B : Nat} {w : World} {v : Value} {l : List ByteArray} (h : OwnTxts B w v l) : TxtsAt (fun b => B ≤ b ∧ b < w.heap.size) w v l := by
  obtain ⟨a, cap, hv, hl, hc⟩ := h.value
  refine ⟨hl, a, cap, hv, fun h0 => ?_⟩
  obtain ⟨g, rfl, hB, hg, hcell⟩ := hc h0
  refine ⟨g, 0, rfl, ⟨hB, hg⟩, fun i hi => ?_⟩
  simpa using hcell i hi
theorem OwnTxts.out {B : Nat} {S : Nat → Prop} {w w' : World} {v : Value} {l : List ByteArray} (h : OwnTxts B w v l) (ho : OutS S w w') (hS : ∀ b, S b → b < B) : OwnTxts B w' v l := by
  obtain ⟨hl, h⟩ := h
  refine ⟨hl, ?_⟩
  rcases h with h | ⟨g, cap, cur, hv, hB, hg, h1⟩
  · exact .inl h
  · refine .inr ⟨g, cap, cur, hv, hB, ?_, h1⟩
    rw [ho.block g (Array.getElem?_eq_some_iff.1 hg).1 (fun hs => by have := hS g hs; omega)]; exact hg
theorem OwnTxts.blk {B b : Nat} {w : World} {v : Value} {l : List ByteArray} (h : OwnTxts B w v l) (hb : BlkOf v b) : B ≤ b := by
  rcases h.2 with ⟨rfl, _⟩ | ⟨g, cap, cur, rfl, hB, _⟩
  · obtain ⟨_, _, h⟩ := hb; simp at h
  · rw [hb.eq]; exact hB
def NumsCells (x : Int) : List Value := [.int .i64 x]
def NumsRow (l : List Int) : List Value := l.flatMap NumsCells
theorem NumsRow_length (l : List Int) : (NumsRow l).length = l.length * 1 := by
  induction l with
  | nil => rfl
  | cons a t ih => simp only [NumsRow, List.flatMap_cons, List.length_append, List.length_cons] at ih ⊢; rw [ih]; simp [NumsCells] <;> omega
theorem NumsRow_append (l k : List Int) : NumsRow (l ++ k) = NumsRow l ++ NumsRow k := by simp [NumsRow]
theorem NumsRow_one {l : List Int} {u : Value} (hu : u ∈ NumsRow l) : u.oneCell' = true := by
  obtain ⟨x, _, hx⟩ := List.mem_flatMap.1 hu
  simp only [NumsCells, List.mem_cons, List.mem_nil_iff, or_false] at hx
  subst hx; rfl
theorem NumsRow_at (l : List Int) (k : Nat) (hk : k < l.length) : (NumsRow l)[k]? = some (.int .i64 l[k]) := by
  induction l generalizing k with
  | nil => simp at hk
  | cons a t ih =>
    have hc : NumsRow (a :: t) = NumsCells a ++ NumsRow t := by simp [NumsRow]
    rw [hc]
    cases k with
    | zero => simp [NumsCells]
    | succ k =>
      rw [List.getElem?_append_right (by simp [NumsCells] <;> omega)]
      have e0 : (k + 1) - (NumsCells a).length = k := by simp [NumsCells] <;> omega
      rw [e0]
      simpa using ih k (by simpa using hk)
/-- A row of one's own. -/
def OwnNums (B : Nat) (w : World) (v : Value) (l : List Int) : Prop := w.ownsRow B 3 1 v l.length (NumsRow l)
theorem OwnNums.below {B : Nat} {w w' : World} {v : Value} {l : List Int} (h : OwnNums B w v l) (hb : Below w.heap.size w w') : OwnNums B w' v l := by
  obtain ⟨hl, h⟩ := h
  refine ⟨hl, ?_⟩
  rcases h with h | ⟨g, cap, cur, hv, hB, hg, h1, h2, h3, h4⟩
  · exact .inl h
  · refine .inr ⟨g, cap, cur, hv, hB, ?_, h1, h2, h3, h4⟩
    rw [hb.block g (Array.getElem?_eq_some_iff.1 hg).1]; exact hg
theorem OwnNums.mono {B B' : Nat} {w : World} {v : Value} {l : List Int} (h : OwnNums B w v l) (hB : B' ≤ B) : OwnNums B' w v l := by
  obtain ⟨hl, h⟩ := h
  refine ⟨hl, ?_⟩
  rcases h with h | ⟨g, cap, cur, hv, hg, h1⟩
  · exact .inl h
  · exact .inr ⟨g, cap, cur, hv, Nat.le_trans hB hg, h1⟩
theorem OwnNums.value {B : Nat} {w : World} {v : Value} {l : List Int} (h : OwnNums B w v l) :
    ∃ a cap, v = .slice a l.length cap ∧ l.length ≤ maxLen ∧ (0 < l.length → ∃ g, a = some ⟨g, 0, none⟩ ∧ B ≤ g ∧ g < w.heap.size ∧ ∀ j (hj : j < l.length), w.cell? ⟨g, j, none⟩ = some (.int .i64 l[j])) := by
  rcases h.2 with ⟨rfl, h0⟩ | ⟨g, cap, cur, rfl, hB, hg, h1, h2, h3, h4⟩
  · exact ⟨none, 0, by rw [h0], by omega, fun h => by omega⟩
  · refine ⟨_, cap, rfl, by omega, fun _ => ⟨g, rfl, hB, (Array.getElem?_eq_some_iff.1 hg).1, fun j hj => ?_⟩⟩
    simp only [World.cell?, hg]
    have h5 := NumsRow_at l j hj
    rw [← h4, List.getElem?_take, if_pos (by omega)] at h5
    simpa using h5
theorem OwnNums.at {B : Nat} {w : World} {v : Value} {l : List Int} (h : OwnNums B w v l) : NumsAt (fun b => B ≤ b ∧ b < w.heap.size) w v l := by
  obtain ⟨a, cap, hv, hl, hc⟩ := h.value
  refine ⟨hl, a, cap, hv, fun h0 => ?_⟩
  obtain ⟨g, rfl, hB, hg, hcell⟩ := hc h0
  refine ⟨g, 0, rfl, ⟨hB, hg⟩, fun i hi => ?_⟩
  simpa using hcell i hi
theorem OwnNums.out {B : Nat} {S : Nat → Prop} {w w' : World} {v : Value} {l : List Int} (h : OwnNums B w v l) (ho : OutS S w w') (hS : ∀ b, S b → b < B) : OwnNums B w' v l := by
  obtain ⟨hl, h⟩ := h
  refine ⟨hl, ?_⟩
  rcases h with h | ⟨g, cap, cur, hv, hB, hg, h1⟩
  · exact .inl h
  · refine .inr ⟨g, cap, cur, hv, hB, ?_, h1⟩
    rw [ho.block g (Array.getElem?_eq_some_iff.1 hg).1 (fun hs => by have := hS g hs; omega)]; exact hg
theorem OwnNums.blk {B b : Nat} {w : World} {v : Value} {l : List Int} (h : OwnNums B w v l) (hb : BlkOf v b) : B ≤ b := by
  rcases h.2 with ⟨rfl, _⟩ | ⟨g, cap, cur, rfl, hB, _⟩
  · obtain ⟨_, _, h⟩ := hb; simp at h
  · rw [hb.eq]; exact hB
/-- The first m are marked from s on. -/
def MarkEntrys (cur : Array Value) (m s : Nat) : Prop := ∀ i, i < m → cur[i * 2]? = some (.string (markOf (s + 2 * i))) ∧ cur[i * 2 + 1]? = some (.string (markOf (s + 2 * i + 1)))
theorem MarkEntrys.step {cur : Array Value} {k s : Nat} (h : MarkEntrys cur k s) (hc : k * 2 + 1 < cur.size) :
    MarkEntrys ((cur.setIfInBounds (k * 2) (.string (markOf (s + 2 * k)))).setIfInBounds (k * 2 + 1) (.string (markOf (s + 2 * k + 1)))) (k + 1) s := by
  intro i hi
  simp only [Array.getElem?_setIfInBounds, Array.size_setIfInBounds]
  by_cases hik : i = k
  · subst hik
    refine ⟨?_, ?_⟩
    · rw [if_neg (by omega), if_pos rfl, if_pos (by omega)]
    · rw [if_pos rfl, if_pos (by omega)]
  · have := h i (by omega)
    rw [if_neg (by omega), if_neg (by omega), if_neg (by omega), if_neg (by omega)]
    exact this
/-- The slice v has m of these, in the block g of its own that holds cu, or has none. -/
def MkEntrys (hp : Prop) (w : World) (v : Value) (g m : Nat) (cu : Array Value) : Prop := (¬ hp ∧ v = .slice none 0 0 ∧ m = 0) ∨ (hp ∧ ∃ cap, v = .slice (some ⟨g, 0, none⟩) m cap ∧ Blk w g 94 cu ∧ m * 2 ≤ cu.size)
def MkdEntrys (w : World) (v : Value) (m s : Nat) : Prop := (v = .slice none 0 0 ∧ m = 0) ∨ ∃ g cap cur, v = .slice (some ⟨g, 0, none⟩) m cap ∧ Blk w g 94 cur ∧ MarkEntrys cur m s
theorem MkdEntrys.below {w w' : World} {v : Value} {m s : Nat} (h : MkdEntrys w v m s) (hb : Below w.heap.size w w') : MkdEntrys w' v m s := by
  rcases h with h | ⟨g, cap, cur, h1, h2, h3⟩
  · exact .inl h
  · exact .inr ⟨g, cap, cur, h1, h2.below hb, h3⟩
set_option maxRecDepth 100000 in
set_option maxHeartbeats 2000000 in
theorem markEntryS {hp : Prop} {g m : Nat} {v : Value} {cu : Array Value} {w : World} (s : Nat) (hs0 : 0 < s) (hs1 : s ≤ 100000000000000) (hm : m ≤ 1048576) (h : MkEntrys hp w v g m cu) :
    Calls Tryz.prog 53 #[v, .int .i64 s] w fun e w' => e = .returned (.int .i64 (s + 2 * m : Nat)) ∧ OutS (BlkOf v) w w' ∧ (hp → ∃ cur, Blk w' g 94 cur ∧ cur.size = cu.size ∧ MarkEntrys cur m s) := by
  have e1 : ∃ a1 c1, v = .slice a1 m c1 ∧ (0 < m → hp) ∧ (hp → a1 = some ⟨g, 0, none⟩ ∧ Blk w g 94 cu ∧ m * 2 ≤ cu.size) := by
    rcases h with ⟨hn, rfl, rfl⟩ | ⟨hy, cap, rfl, hg, hz⟩
    · exact ⟨none, 0, rfl, fun h => by omega, fun h => absurd h hn⟩
    · exact ⟨_, cap, rfl, fun _ => hy, fun _ => ⟨rfl, hg, hz⟩⟩
  obtain ⟨a1, c1, rfl, q0, q⟩ := e1
  have QP : Hid (0 < m → hp) := q0
  have QQ : Hid _ := q
  clear h
  go_enter Tryz.func53, Tryz.ntmps53
  go_wp2
  go_loopw [1, 5] (fun i1 i5 wr => ∃ k : Nat, i1 = .int .i64 (s + 2 * k : Nat) ∧ i5 = .int .i64 (k : Int) ∧ k ≤ m ∧ OutS (BlkOf (.slice a1 m c1)) w wr ∧ (hp → ∃ cur, Blk wr g 94 cur ∧ cur.size = cu.size ∧ MarkEntrys cur k s)) (fun _ i5 _ => m - (intOf i5).toNat)
  case atStart => exact ⟨0, rfl, rfl, by omega, OutS.refl _ _, fun hq => ⟨cu, (QQ.out hq).2.1, rfl, fun i hi => by omega⟩⟩
  case round =>
    obtain ⟨k, rfl, rfl, hk, hB, hq⟩ := hrel
    by_cases hkn : k < m
    · have hkn' : (k : Int) < (m : Int) := by omega
      obtain ⟨rfl, _, hz⟩ := QQ.out (QP.out (by omega))
      obtain ⟨cur, hblk, hsz, hmc⟩ := hq (QP.out (by omega))
      have z0 : k * 2 < cur.size := by omega
      have z1 : k * 2 + 1 < cur.size := by omega
      have HM : Hid _ := hmc.step z1
      have HB0 : Hid (Blk wr g 94 cur) := hblk
      have ct0 := lawText (s + 2 * k) (by omega) (by omega)
      rw [show ((s + 2 * k : Nat) : Int) = (s : Int) + 2 * (k : Int) by omega] at ct0
      obtain ⟨M0, hM0⟩ : ∃ M, markOf (s + 2 * k) = M := ⟨_, rfl⟩
      rw [hM0] at ct0 HM
      clear hM0
      have ct1 := lawText (s + 2 * k + 1) (by omega) (by omega)
      rw [show ((s + 2 * k + 1 : Nat) : Int) = (s : Int) + 2 * (k : Int) + 1 by omega] at ct1
      obtain ⟨M1, hM1⟩ : ∃ M, markOf (s + 2 * k + 1) = M := ⟨_, rfl⟩
      rw [hM1] at ct1 HM
      clear hM1
      clear hmc hblk
      go_wp2_with (first
        | (go_at_call 52; have hchk := hb_0; (refine (ct1 _).mono ?_; rintro e w_1 ⟨rfl, hB_1⟩; have hb_1 := Blk.below (hb_0.set (k * 2) _) hB_1; have ho_1 := OutS.trans (ho_0.set .mk _) (OutS.of hB_1); have c1_0 := hb_1.cell (k * 2); have c1_1 := hb_1.cell (k * 2 + 1); rw [Array.getElem?_eq_getElem (by first | exact z0 | (simp only [Array.size_setIfInBounds]; exact z0))] at c1_0; rw [Array.getElem?_eq_getElem (by first | exact z1 | (simp only [Array.size_setIfInBounds]; exact z1))] at c1_1; have f1_0 := hb_1.fro (k * 2); have f1_1 := hb_1.fro (k * 2 + 1)))
        | (go_at_call 52; go_must (refine (ct0 _).mono ?_; rintro e w_0 ⟨rfl, hB_0⟩; have hb_0 := Blk.below HB0.out hB_0; have ho_0 := OutS.trans hB (OutS.of hB_0); have c0_0 := hb_0.cell (k * 2); have c0_1 := hb_0.cell (k * 2 + 1); rw [Array.getElem?_eq_getElem (by first | exact z0 | (simp only [Array.size_setIfInBounds]; exact z0))] at c0_0; rw [Array.getElem?_eq_getElem (by first | exact z1 | (simp only [Array.size_setIfInBounds]; exact z1))] at c0_1; have f0_0 := hb_0.fro (k * 2); have f0_1 := hb_0.fro (k * 2 + 1))))
      exact ⟨⟨k + 1, by congr 1 <;> omega, rfl, by omega, (ho_1.set .mk _), fun _ => ⟨_, (hb_1.set (k * 2 + 1) _), by simp [hsz], HM.out⟩⟩, by simp [intOf]; omega⟩
    · have hkn' : ¬ ((k : Int) < (m : Int)) := by omega
      obtain rfl : k = m := by omega
      go_wp2_with fail
      go_ret
      exact ⟨by go_num, hB, hq⟩
/-- The first m are marked from s on. -/
def MarkTxts (cur : Array Value) (m s : Nat) : Prop := ∀ i, i < m → cur[i]? = some (.string (markOf (s + i)))
theorem MarkTxts.step {cur : Array Value} {k s : Nat} (h : MarkTxts cur k s) (hc : k < cur.size) :
    MarkTxts (cur.setIfInBounds (k) (.string (markOf (s + k)))) (k + 1) s := by
  intro i hi
  simp only [Array.getElem?_setIfInBounds, Array.size_setIfInBounds]
  by_cases hik : i = k
  · subst hik
    · rw [if_pos rfl, if_pos (by omega)]
  · have := h i (by omega)
    rw [if_neg (by omega)]
    exact this
/-- The slice v has m of these, in the block g of its own that holds cu, or has none. -/
def MkTxts (hp : Prop) (w : World) (v : Value) (g m : Nat) (cu : Array Value) : Prop := (¬ hp ∧ v = .slice none 0 0 ∧ m = 0) ∨ (hp ∧ ∃ cap, v = .slice (some ⟨g, 0, none⟩) m cap ∧ Blk w g 9 cu ∧ m * 1 ≤ cu.size)
def MkdTxts (w : World) (v : Value) (m s : Nat) : Prop := (v = .slice none 0 0 ∧ m = 0) ∨ ∃ g cap cur, v = .slice (some ⟨g, 0, none⟩) m cap ∧ Blk w g 9 cur ∧ MarkTxts cur m s
theorem MkdTxts.below {w w' : World} {v : Value} {m s : Nat} (h : MkdTxts w v m s) (hb : Below w.heap.size w w') : MkdTxts w' v m s := by
  rcases h with h | ⟨g, cap, cur, h1, h2, h3⟩
  · exact .inl h
  · exact .inr ⟨g, cap, cur, h1, h2.below hb, h3⟩
set_option maxRecDepth 100000 in
set_option maxHeartbeats 2000000 in
theorem markStringS {hp : Prop} {g m : Nat} {v : Value} {cu : Array Value} {w : World} (s : Nat) (hs0 : 0 < s) (hs1 : s ≤ 100000000000000) (hm : m ≤ 1048576) (h : MkTxts hp w v g m cu) :
    Calls Tryz.prog 24 #[v, .int .i64 s] w fun e w' => e = .returned (.int .i64 (s + m : Nat)) ∧ OutS (BlkOf v) w w' ∧ (hp → ∃ cur, Blk w' g 9 cur ∧ cur.size = cu.size ∧ MarkTxts cur m s) := by
  have e1 : ∃ a1 c1, v = .slice a1 m c1 ∧ (0 < m → hp) ∧ (hp → a1 = some ⟨g, 0, none⟩ ∧ Blk w g 9 cu ∧ m * 1 ≤ cu.size) := by
    rcases h with ⟨hn, rfl, rfl⟩ | ⟨hy, cap, rfl, hg, hz⟩
    · exact ⟨none, 0, rfl, fun h => by omega, fun h => absurd h hn⟩
    · exact ⟨_, cap, rfl, fun _ => hy, fun _ => ⟨rfl, hg, hz⟩⟩
  obtain ⟨a1, c1, rfl, q0, q⟩ := e1
  have QP : Hid (0 < m → hp) := q0
  have QQ : Hid _ := q
  clear h
  go_enter Tryz.func24, Tryz.ntmps24
  go_wp2
  go_loopw [1, 5] (fun i1 i5 wr => ∃ k : Nat, i1 = .int .i64 (s + k : Nat) ∧ i5 = .int .i64 (k : Int) ∧ k ≤ m ∧ OutS (BlkOf (.slice a1 m c1)) w wr ∧ (hp → ∃ cur, Blk wr g 9 cur ∧ cur.size = cu.size ∧ MarkTxts cur k s)) (fun _ i5 _ => m - (intOf i5).toNat)
  case atStart => exact ⟨0, rfl, rfl, by omega, OutS.refl _ _, fun hq => ⟨cu, (QQ.out hq).2.1, rfl, fun i hi => by omega⟩⟩
  case round =>
    obtain ⟨k, rfl, rfl, hk, hB, hq⟩ := hrel
    by_cases hkn : k < m
    · have hkn' : (k : Int) < (m : Int) := by omega
      obtain ⟨rfl, _, hz⟩ := QQ.out (QP.out (by omega))
      obtain ⟨cur, hblk, hsz, hmc⟩ := hq (QP.out (by omega))
      have z0 : k < cur.size := by omega
      have HM : Hid _ := hmc.step z0
      have HB0 : Hid (Blk wr g 9 cur) := hblk
      have ct0 := lawText (s + k) (by omega) (by omega)
      rw [show ((s + k : Nat) : Int) = (s : Int) + (k : Int) by omega] at ct0
      obtain ⟨M0, hM0⟩ : ∃ M, markOf (s + k) = M := ⟨_, rfl⟩
      rw [hM0] at ct0 HM
      clear hM0
      clear hmc hblk
      go_wp2_with (go_at_call 52; go_must (refine (ct0 _).mono ?_; rintro e w_0 ⟨rfl, hB_0⟩; have hb_0 := Blk.below HB0.out hB_0; have ho_0 := OutS.trans hB (OutS.of hB_0); have c0_0 := hb_0.cell (k); rw [Array.getElem?_eq_getElem (by first | exact z0 | (simp only [Array.size_setIfInBounds]; exact z0))] at c0_0; have f0_0 := hb_0.fro (k)))
      exact ⟨⟨k + 1, by congr 1 <;> omega, rfl, by omega, (ho_0.set .mk _), fun _ => ⟨_, (hb_0.set (k) _), by simp [hsz], HM.out⟩⟩, by simp [intOf]; omega⟩
    · have hkn' : ¬ ((k : Int) < (m : Int)) := by omega
      obtain rfl : k = m := by omega
      go_wp2_with fail
      go_ret
      exact ⟨by go_num, hB, hq⟩
set_option maxRecDepth 100000 in
set_option maxHeartbeats 2000000 in
theorem heldStringS {v : Value} {m s : Nat} {w : World} (hs0 : 0 < s) (hs1 : s ≤ 100000000000000) (hm : m ≤ 1048576) (h : MkdTxts w v m s) :
    Calls Tryz.prog 54 #[v, .int .i64 s] w fun e w' => e = .returned (.int .i64 (s + m : Nat)) ∧ Below w.heap.size w w' := by
  have e1 : ∃ g0 a1 c1 cu, v = .slice a1 m c1 ∧ (0 < m → a1 = some ⟨g0, 0, none⟩ ∧ Blk w g0 9 cu ∧ MarkTxts cu m s) := by
    rcases h with ⟨rfl, rfl⟩ | ⟨g, cap, cur, rfl, hg, hm⟩
    · exact ⟨0, none, 0, #[], rfl, fun h => by omega⟩
    · exact ⟨g, _, cap, cur, rfl, fun _ => ⟨rfl, hg, hm⟩⟩
  obtain ⟨g, a1, c1, cu, rfl, q⟩ := e1
  clear h
  go_enter Tryz.func54, Tryz.ntmps54
  go_wp2
  go_loopw [1, 5] (fun i1 i5 wr => ∃ k : Nat, i1 = .int .i64 (s + k : Nat) ∧ i5 = .int .i64 (k : Int) ∧ k ≤ m ∧ Below w.heap.size w wr) (fun _ i5 _ => m - (intOf i5).toNat)
  case atStart => exact ⟨0, rfl, rfl, by omega, Below.refl _ _⟩
  case round =>
    obtain ⟨k, rfl, rfl, hk, hB⟩ := hrel
    by_cases hkn : k < m
    · have hkn' : (k : Int) < (m : Int) := by omega
      obtain ⟨rfl, hblk, hmc⟩ := q (by omega)
      have v0 := hmc k hkn
      have y0 : ∀ N : GoodW (fun W => Below w.heap.size w W), N.W.cell? ⟨g, k, none⟩ = some (.string (markOf (s + k))) := fun N => by rw [(hblk.below N.ok).cell, v0]
      have ct0 := lawText (s + k) (by omega) (by omega)
      rw [show ((s + k : Nat) : Int) = (s : Int) + (k : Int) by omega] at ct0
      obtain ⟨M0, hM0⟩ : ∃ M, markOf (s + k) = M := ⟨_, rfl⟩
      rw [hM0] at ct0 y0
      clear hM0
      have Y0 : Hid _ := y0
      have CT0 : Hid _ := ct0
      clear hblk hmc q v0 y0 ct0
      go_wp2_with fail
      have y0 := Y0.out
      have ct0 := CT0.out
      haveI ne0 : Nonempty (GoodW (fun W => Below w.heap.size w W)) := ⟨⟨_, hB⟩⟩
      refine wp_region_calm (fun W => Below w.heap.size w W) (by kernel_rfl) (by kernel_rfl) hB.drew ?_
      repeat (go_big_quiet_step ((go_at_call 52; exact Calls.calm _ (fun w2 hb => good_below (GoodW.ok _) hb) (ct0 _))))
      refine wpQuiet_nil ?_
      rintro W0 ⟨⟨X0, hX0⟩, hE0⟩
      have hW0 : Below w.heap.size w W0 := by rw [hE0]; exact hX0
      clear hE0 hX0 X0 y0 ct0
      go_wp2_with fail
      exact ⟨⟨k + 1, by congr 1 <;> omega, rfl, by omega, hW0⟩, by simp [intOf]; omega⟩
    · have hkn' : ¬ ((k : Int) < (m : Int)) := by omega
      obtain rfl : k = m := by omega
      go_wp2_with fail
      go_ret
      exact ⟨by go_num, hB⟩
/-- The first m are marked from s on. -/
def MarkNums (cur : Array Value) (m s : Nat) : Prop := ∀ i, i < m → cur[i]? = some (.int .i64 ((s + i : Nat) : Int))
theorem MarkNums.step {cur : Array Value} {k s : Nat} (h : MarkNums cur k s) (hc : k < cur.size) :
    MarkNums (cur.setIfInBounds (k) (.int .i64 ((s : Int) + (k : Int)))) (k + 1) s := by
  intro i hi
  simp only [Array.getElem?_setIfInBounds, Array.size_setIfInBounds]
  by_cases hik : i = k
  · subst hik
    · rw [if_pos rfl, if_pos (by omega)]
      congr 2
  · have := h i (by omega)
    rw [if_neg (by omega)]
    exact this
/-- The slice v has m of these, in the block g of its own that holds cu, or has none. -/
def MkNums (hp : Prop) (w : World) (v : Value) (g m : Nat) (cu : Array Value) : Prop := (¬ hp ∧ v = .slice none 0 0 ∧ m = 0) ∨ (hp ∧ ∃ cap, v = .slice (some ⟨g, 0, none⟩) m cap ∧ Blk w g 3 cu ∧ m * 1 ≤ cu.size)
def MkdNums (w : World) (v : Value) (m s : Nat) : Prop := (v = .slice none 0 0 ∧ m = 0) ∨ ∃ g cap cur, v = .slice (some ⟨g, 0, none⟩) m cap ∧ Blk w g 3 cur ∧ MarkNums cur m s
theorem MkdNums.below {w w' : World} {v : Value} {m s : Nat} (h : MkdNums w v m s) (hb : Below w.heap.size w w') : MkdNums w' v m s := by
  rcases h with h | ⟨g, cap, cur, h1, h2, h3⟩
  · exact .inl h
  · exact .inr ⟨g, cap, cur, h1, h2.below hb, h3⟩
set_option maxRecDepth 100000 in
set_option maxHeartbeats 2000000 in
theorem markIntS {hp : Prop} {g m : Nat} {v : Value} {cu : Array Value} {w : World} (s : Nat) (hs0 : 0 < s) (hs1 : s ≤ 100000000000000) (hm : m ≤ 1048576) (h : MkNums hp w v g m cu) :
    Calls Tryz.prog 25 #[v, .int .i64 s] w fun e w' => e = .returned (.int .i64 (s + m : Nat)) ∧ OutS (BlkOf v) w w' ∧ (hp → ∃ cur, Blk w' g 3 cur ∧ cur.size = cu.size ∧ MarkNums cur m s) := by
  have e1 : ∃ a1 c1, v = .slice a1 m c1 ∧ (0 < m → hp) ∧ (hp → a1 = some ⟨g, 0, none⟩ ∧ Blk w g 3 cu ∧ m * 1 ≤ cu.size) := by
    rcases h with ⟨hn, rfl, rfl⟩ | ⟨hy, cap, rfl, hg, hz⟩
    · exact ⟨none, 0, rfl, fun h => by omega, fun h => absurd h hn⟩
    · exact ⟨_, cap, rfl, fun _ => hy, fun _ => ⟨rfl, hg, hz⟩⟩
  obtain ⟨a1, c1, rfl, q0, q⟩ := e1
  have QP : Hid (0 < m → hp) := q0
  have QQ : Hid _ := q
  clear h
  go_enter Tryz.func25, Tryz.ntmps25
  go_wp2
  go_loopw [1, 5] (fun i1 i5 wr => ∃ k : Nat, i1 = .int .i64 (s + k : Nat) ∧ i5 = .int .i64 (k : Int) ∧ k ≤ m ∧ OutS (BlkOf (.slice a1 m c1)) w wr ∧ (hp → ∃ cur, Blk wr g 3 cur ∧ cur.size = cu.size ∧ MarkNums cur k s)) (fun _ i5 _ => m - (intOf i5).toNat)
  case atStart => exact ⟨0, rfl, rfl, by omega, OutS.refl _ _, fun hq => ⟨cu, (QQ.out hq).2.1, rfl, fun i hi => by omega⟩⟩
  case round =>
    obtain ⟨k, rfl, rfl, hk, hB, hq⟩ := hrel
    by_cases hkn : k < m
    · have hkn' : (k : Int) < (m : Int) := by omega
      obtain ⟨rfl, _, hz⟩ := QQ.out (QP.out (by omega))
      obtain ⟨cur, hblk, hsz, hmc⟩ := hq (QP.out (by omega))
      have z0 : k < cur.size := by omega
      have HM : Hid _ := hmc.step z0
      have HB0 : Hid (Blk wr g 3 cur) := hblk
      clear hmc hblk
      have hbk := HB0.out
      have d0 := hbk.cell (k)
      rw [Array.getElem?_eq_getElem z0] at d0
      have f0 := hbk.fro (k)
      go_wp2_with fail
      exact ⟨⟨k + 1, by congr 1 <;> omega, rfl, by omega, (hB.set .mk _), fun _ => ⟨_, (HB0.out.set (k) _), by simp [hsz], HM.out⟩⟩, by simp [intOf]; omega⟩
    · have hkn' : ¬ ((k : Int) < (m : Int)) := by omega
      obtain rfl : k = m := by omega
      go_wp2_with fail
      go_ret
      exact ⟨by go_num, hB, hq⟩
end Go.Proofs.YtcbabajfdihcdaaGreatDoor

namespace Go.Proofs.YtcbabajfdihcdaaGreatDoor
open Go.ChangeShapes Go.WideShapes Go.ChangeAt Go.RowKit
set_option linter.unusedVariables false
set_option linter.unusedSimpArgs false

def ShEntrys (w : World) (g : Nat) (v : Value) (m : Nat) : Prop := v = .slice (some ⟨g, 0, none⟩) m m ∧ ∃ cur, Blk w g 94 cur ∧ cur.size = m * 2
theorem ShEntrys.keep {w w' : World} {g : Nat} {v : Value} {m : Nat} (h : ShEntrys w g v m) (hk : w'.heap[g]? = w.heap[g]?) : ShEntrys w' g v m := by
  obtain ⟨h1, cur, h2, h3⟩ := h
  exact ⟨h1, cur, by unfold Blk at *; rw [hk]; exact h2, h3⟩
theorem RowEntrys.sh {w : World} {g : Nat} {v : Value} {l : List Entry} (h : RowEntrys w g v l) : ShEntrys w g v l.length := by
  obtain ⟨_, h1, cur, h2, h3, _⟩ := h
  exact ⟨h1, cur, h2, h3⟩
theorem markShEntrys {g m : Nat} {v : Value} {w : World} (s : Nat) (hs0 : 0 < s) (hs1 : s ≤ 100000000000000) (hm : m ≤ 1048576) (h : ShEntrys w g v m) :
    Calls Tryz.prog 53 #[v, .int .i64 s] w fun e w' => e = .returned (.int .i64 (s + 2 * m : Nat)) ∧ OutS (fun b => b = g) w w' ∧ ∃ cur, Blk w' g 94 cur ∧ cur.size = m * 2 := by
  obtain ⟨rfl, cu, h2, h3⟩ := h
  refine (markEntryS (hp := True) s hs0 hs1 hm (.inr ⟨trivial, m, rfl, h2, by omega⟩)).mono ?_
  rintro e w' ⟨he, ho, hq⟩
  obtain ⟨cur, q1, q2, _⟩ := hq trivial
  exact ⟨he, ho.mono (fun b hb => hb.eq), cur, q1, by omega⟩
def ShTxts (w : World) (g : Nat) (v : Value) (m : Nat) : Prop := v = .slice (some ⟨g, 0, none⟩) m m ∧ ∃ cur, Blk w g 9 cur ∧ cur.size = m * 1
theorem ShTxts.keep {w w' : World} {g : Nat} {v : Value} {m : Nat} (h : ShTxts w g v m) (hk : w'.heap[g]? = w.heap[g]?) : ShTxts w' g v m := by
  obtain ⟨h1, cur, h2, h3⟩ := h
  exact ⟨h1, cur, by unfold Blk at *; rw [hk]; exact h2, h3⟩
theorem RowTxts.sh {w : World} {g : Nat} {v : Value} {l : List ByteArray} (h : RowTxts w g v l) : ShTxts w g v l.length := by
  obtain ⟨_, h1, cur, h2, h3, _⟩ := h
  exact ⟨h1, cur, h2, h3⟩
theorem markShTxts {g m : Nat} {v : Value} {w : World} (s : Nat) (hs0 : 0 < s) (hs1 : s ≤ 100000000000000) (hm : m ≤ 1048576) (h : ShTxts w g v m) :
    Calls Tryz.prog 24 #[v, .int .i64 s] w fun e w' => e = .returned (.int .i64 (s + m : Nat)) ∧ OutS (fun b => b = g) w w' ∧ ∃ cur, Blk w' g 9 cur ∧ cur.size = m * 1 := by
  obtain ⟨rfl, cu, h2, h3⟩ := h
  refine (markStringS (hp := True) s hs0 hs1 hm (.inr ⟨trivial, m, rfl, h2, by omega⟩)).mono ?_
  rintro e w' ⟨he, ho, hq⟩
  obtain ⟨cur, q1, q2, _⟩ := hq trivial
  exact ⟨he, ho.mono (fun b hb => hb.eq), cur, q1, by omega⟩
def ShNums (w : World) (g : Nat) (v : Value) (m : Nat) : Prop := v = .slice (some ⟨g, 0, none⟩) m m ∧ ∃ cur, Blk w g 3 cur ∧ cur.size = m * 1
theorem ShNums.keep {w w' : World} {g : Nat} {v : Value} {m : Nat} (h : ShNums w g v m) (hk : w'.heap[g]? = w.heap[g]?) : ShNums w' g v m := by
  obtain ⟨h1, cur, h2, h3⟩ := h
  exact ⟨h1, cur, by unfold Blk at *; rw [hk]; exact h2, h3⟩
theorem RowNums.sh {w : World} {g : Nat} {v : Value} {l : List Int} (h : RowNums w g v l) : ShNums w g v l.length := by
  obtain ⟨_, h1, cur, h2, h3, _⟩ := h
  exact ⟨h1, cur, h2, h3⟩
theorem markShNums {g m : Nat} {v : Value} {w : World} (s : Nat) (hs0 : 0 < s) (hs1 : s ≤ 100000000000000) (hm : m ≤ 1048576) (h : ShNums w g v m) :
    Calls Tryz.prog 25 #[v, .int .i64 s] w fun e w' => e = .returned (.int .i64 (s + m : Nat)) ∧ OutS (fun b => b = g) w w' ∧ ∃ cur, Blk w' g 3 cur ∧ cur.size = m * 1 := by
  obtain ⟨rfl, cu, h2, h3⟩ := h
  refine (markIntS (hp := True) s hs0 hs1 hm (.inr ⟨trivial, m, rfl, h2, by omega⟩)).mono ?_
  rintro e w' ⟨he, ho, hq⟩
  obtain ⟨cur, q1, q2, _⟩ := hq trivial
  exact ⟨he, ho.mono (fun b hb => hb.eq), cur, q1, by omega⟩
def ShLayersC (L U : Nat) (w : World) (cur : Array Value) (ms : List Nat) : Prop := ∀ i (h : i < ms.length), ∃ nv g, cur[i * 3 + 2]? = some nv ∧ L < g ∧ g < U ∧ ShEntrys w g nv ms[i]
theorem ShLayersC.keep {L U : Nat} {w w' : World} {cur : Array Value} {ms : List Nat} (h : ShLayersC L U w cur ms) (hk : ∀ b, L < b → b < U → w'.heap[b]? = w.heap[b]?) : ShLayersC L U w' cur ms := by
  intro i hi
  obtain ⟨nv, g, h1, h2, h3, h4⟩ := h i hi
  exact ⟨nv, g, h1, h2, h3, h4.keep (hk g h2 h3)⟩
theorem ShLayersC.set {L U : Nat} {w : World} {cur : Array Value} {ms : List Nat} (h : ShLayersC L U w cur ms) (k j : Nat) (hj : j < 3) (hp : j ≠ 2) (v : Value) : ShLayersC L U w (cur.setIfInBounds (k * 3 + j) v) ms := by
  intro i hi
  obtain ⟨nv, g, h1, h2⟩ := h i hi
  refine ⟨nv, g, ?_, h2⟩
  rw [Array.getElem?_setIfInBounds, if_neg (by omega)]
  exact h1
theorem ShLayersC.mark {L U : Nat} {w w' : World} {cur : Array Value} {ms : List Nat} (h : ShLayersC L U w cur ms) {g m : Nat} {v : Value} (hg : ShEntrys w g v m) (hU : U ≤ w.heap.size) (ho : OutS (fun b => b = g) w w') (hn : ∃ cur, Blk w' g 94 cur ∧ cur.size = m * 2) : ShLayersC L U w' cur ms := by
  intro i hi
  obtain ⟨nv, g', h1, h2, h3, h4⟩ := h i hi
  refine ⟨nv, g', h1, h2, h3, ?_⟩
  by_cases he : g' = g
  · subst he
    obtain ⟨hv, c1, hb1, hs1⟩ := h4
    obtain ⟨_, c2, hb2, hs2⟩ := hg
    obtain ⟨c3, hb3, hs3⟩ := hn
    refine ⟨hv, c3, hb3, ?_⟩
    unfold Blk at hb1 hb2
    rw [hb1] at hb2
    simp at hb2
    rw [hs3, ← hs2, ← hb2, hs1]
  · exact h4.keep (ho.block g' (by omega) he)
def ShLayers (L U : Nat) (w : World) (v : Value) (ms : List Nat) : Prop := v = .slice (some ⟨L, 0, none⟩) ms.length ms.length ∧ ∃ cur, Blk w L 42 cur ∧ cur.size = ms.length * 3 ∧ ShLayersC L U w cur ms
theorem RowLayers.sh {L U : Nat} {w : World} {v : Value} {l : List Layer} (h : RowLayers L U w v l) : ShLayers L U w v (l.map fun x => x.entries.length) := by
  obtain ⟨_, h1, cur, h2, h3, h4⟩ := h
  refine ⟨by simpa using h1, cur, h2, by simpa using h3, fun i hi => ?_⟩
  simp at hi
  obtain ⟨_, _, nv, g, q3, q4, q5, q6⟩ := h4 i hi hi
  exact ⟨nv, g, q3, q4, q5, by simpa using q6.sh⟩
set_option maxRecDepth 100000 in
set_option maxHeartbeats 8000000 in
theorem markLayerS {L U : Nat} {ms : List Nat} {v : Value} {w : World} (s : Nat) (hs0 : 0 < s) (hs1 : s ≤ 10000000000000) (hn : ms.length ≤ 1048576) (hm : ∀ m ∈ ms, m ≤ 1048576) (hU : L < U) (hUw : U ≤ w.heap.size) (h : ShLayers L U w v ms) :
    Calls Tryz.prog 22 #[v, .int .i64 s] w fun e w' => (∃ r : Nat, e = .returned (.int .i64 (r : Int)) ∧ 0 < r ∧ r ≤ s + ms.length * 2097154) ∧ OutS (fun b => L ≤ b ∧ b < U) w w' := by
  obtain ⟨n, hnl⟩ : ∃ n, ms.length = n := ⟨_, rfl⟩
  obtain ⟨rfl, cu, hcu, hcs, hsc⟩ := h
  have HCU : Hid (Blk w L 42 cu) := hcu
  have HSC : Hid (ShLayersC L U w cu ms) := hsc
  have HM : Hid (∀ m ∈ ms, m ≤ 1048576) := hm
  clear hcu hsc hm
  rw [hnl] at hn hcs ⊢
  go_enter Tryz.func22, Tryz.ntmps22
  go_wp2
  go_loopw [1, 5] (fun i1 i5 wr => ∃ (k r : Nat) (cur : Array Value), i1 = .int .i64 (r : Int) ∧ i5 = .int .i64 (k : Int) ∧ k ≤ n ∧ 0 < r ∧ r ≤ s + k * 2097154 ∧ OutS (fun b => L ≤ b ∧ b < U) w wr ∧ Blk wr L 42 cur ∧ cur.size = n * 3 ∧ ShLayersC L U wr cur ms) (fun _ i5 _ => n - (intOf i5).toNat)
  case atStart => exact ⟨0, s, cu, rfl, rfl, by omega, hs0, by omega, OutS.refl _ _, HCU.out, hcs, HSC.out⟩
  case round =>
    obtain ⟨k, r, cur, rfl, rfl, hk, hr0, hr1, hB, hblk, hsz, hsc⟩ := hrel
    have HB : Hid (Blk wr L 42 cur) := hblk
    have HS : Hid (ShLayersC L U wr cur ms) := hsc
    clear hblk hsc
    by_cases hkn : k < n
    · have hkn' : (k : Int) < (n : Int) := by omega
      have hkl : k < ms.length := by omega
      have z0 : k * 3 < cur.size := by rw [hsz]; omega
      have z1 : k * 3 + 1 < cur.size := by rw [hsz]; omega
      have z2 : k * 3 + 2 < cur.size := by rw [hsz]; omega
      obtain ⟨nv, g, q1, q2, q3, q4⟩ := HS.out k hkl
      have hmk := HM.out _ (List.getElem_mem hkl)
      obtain ⟨m, hmm⟩ : ∃ m, ms[k] = m := ⟨_, rfl⟩
      rw [hmm] at q4 hmk
      have HQ4 : Hid (ShEntrys wr g nv m) := q4
      obtain rfl := q4.1
      clear hmm q4
      have hglt : g < wr.heap.size := by have := hB.size; omega
      have hUr : U ≤ wr.heap.size := Nat.le_trans hUw hB.size
      have ct0 := lawText (r) (by omega) (by omega)
      rw [show ((r : Nat) : Int) = (r : Int) by omega] at ct0
      obtain ⟨M0, hM0⟩ : ∃ M, markOf (r) = M := ⟨_, rfl⟩
      rw [hM0] at ct0
      clear hM0
      have cm := fun (W : World) (hW : W.heap[g]? = wr.heap[g]?) => markShEntrys (r + 2) (by omega) (by omega) hmk (HQ4.out.keep hW)
      rw [show ((r + 2 : Nat) : Int) = (r : Int) + 2 by omega] at cm
      have hb_0 := HB.out
      have c0_0 := hb_0.cell (k * 3)
      rw [Array.getElem?_eq_getElem (by first | exact z0 | (simp only [Array.size_setIfInBounds]; exact z0))] at c0_0
      have f0_0 := hb_0.fro (k * 3)
      have c0_1 := hb_0.cell (k * 3 + 1)
      rw [Array.getElem?_eq_getElem (by first | exact z1 | (simp only [Array.size_setIfInBounds]; exact z1))] at c0_1
      have f0_1 := hb_0.fro (k * 3 + 1)
      have c0_2 := hb_0.cell (k * 3 + 2)
      have k0 := (show _ = some (Value.slice (some ⟨g, 0, none⟩) m m) from c0_2.trans (by first | exact q1 | (simp only [Array.getElem?_setIfInBounds]; (repeat rw [if_neg (by omega)]); exact q1)))
      go_wp2_with (first
        | (go_at_call 53; go_must (have o1 := (OutS.set (g := L) (i := k * 3 + 1) (OutS.set (g := L) (i := k * 3) ho_t0 rfl (.string M0)) rfl (.int .i64 ((r : Int) + 1))); have b1 := (Blk.set (Blk.set hb_t0 (k * 3) (.string M0)) (k * 3 + 1) (.int .i64 ((r : Int) + 1))); refine (cm _ (o1.block g hglt (by omega))).mono ?_; rintro e w_sub ⟨rfl, hB_sub, hcur_sub⟩; have hb_sub : Blk w_sub L 42 _ := (by unfold Blk at b1 ⊢; rw [hB_sub.block L (Array.getElem?_eq_some_iff.1 b1).1 (by omega)]; exact b1); skip))
        | (go_at_call 52; go_must (refine (ct0 _).mono ?_; rintro e w_t0 ⟨rfl, hB_t0⟩; have hb_t0 := Blk.below hb_0 hB_t0; have ho_t0 := OutS.trans (OutS.refl (fun b => b = L) wr) (OutS.of hB_t0); have ct0_0 := hb_t0.cell (k * 3); rw [Array.getElem?_eq_getElem (by first | exact z0 | (simp only [Array.size_setIfInBounds]; exact z0))] at ct0_0; have ft0_0 := hb_t0.fro (k * 3); have ct0_1 := hb_t0.cell (k * 3 + 1); rw [Array.getElem?_eq_getElem (by first | exact z1 | (simp only [Array.size_setIfInBounds]; exact z1))] at ct0_1; have ft0_1 := hb_t0.fro (k * 3 + 1); have ct0_2 := hb_t0.cell (k * 3 + 2); have kt0 := (show _ = some (Value.slice (some ⟨g, 0, none⟩) m m) from ct0_2.trans (by first | exact q1 | (simp only [Array.getElem?_setIfInBounds]; (repeat rw [if_neg (by omega)]); exact q1))))))
      have b3 := hb_sub
      have o3 := (OutS.refl (fun b => b = L) w_sub)
      have hUx := Nat.le_trans hUr o1.size
      have hUy := Nat.le_trans hUx hB_sub.size
      refine ⟨⟨k + 1, r + 2 + 2 * m, _, by congr 1 <;> omega, rfl, by omega, by omega, by omega, ((hB.trans (o1.mono (fun b hb => by subst hb; exact ⟨Nat.le_refl _, hU⟩))).trans (hB_sub.mono (fun b hb => by subst hb; omega))).trans (o3.mono (fun b hb => by subst hb; exact ⟨Nat.le_refl _, hU⟩)), b3, by simp [hsz], ?_⟩, by simp [intOf]; omega⟩
      exact ShLayersC.keep (ShLayersC.mark (ShLayersC.keep (ShLayersC.set (ShLayersC.set HS.out k 0 (by omega) (by omega) _) k 1 (by omega) (by omega) _) (fun b hb1 hb2 => o1.block b (by omega) (by omega))) (HQ4.out.keep (o1.block g hglt (by omega))) hUx hB_sub hcur_sub) (fun b hb1 hb2 => o3.block b (by omega) (by omega))
    · have hkn' : ¬ ((k : Int) < (n : Int)) := by omega
      obtain rfl : k = n := by omega
      go_wp2_with fail
      go_ret
      exact ⟨⟨r, rfl, hr0, hr1⟩, hB⟩
theorem markOwnTxts {B : Nat} {v : Value} {l : List ByteArray} {w : World} (s : Nat) (hs0 : 0 < s) (hs1 : s ≤ 100000000000000) (hl : l.length ≤ 1048576) (h : OwnTxts B w v l) :
    Calls Tryz.prog 24 #[v, .int .i64 s] w fun e w' => e = .returned (.int .i64 (s + l.length : Nat)) ∧ OutS (BlkOf v) w w' ∧ MkdTxts w' v l.length s := by
  rcases h.2 with ⟨rfl, h0⟩ | ⟨g, cap, cur, rfl, hB, hg, h1, h2, h3, h4⟩
  · refine (markStringS (hp := False) (g := 0) (cu := #[]) s hs0 hs1 hl (.inl ⟨id, rfl, h0⟩)).mono ?_
    rintro e w' ⟨he, ho, _⟩
    exact ⟨he, ho, .inl ⟨rfl, h0⟩⟩
  · refine (markStringS (hp := True) s hs0 hs1 hl (.inr ⟨trivial, cap, rfl, hg, by omega⟩)).mono ?_
    rintro e w' ⟨he, ho, hq⟩
    obtain ⟨cu, q1, _, q3⟩ := hq trivial
    exact ⟨he, ho, .inr ⟨g, cap, cu, rfl, q1, q3⟩⟩
/-- The slice has no block, or one of cells of this type. -/
def SlT (w : World) (v : Value) (E : TypeId) : Prop := (∀ b, ¬ BlkOf v b) ∨ ∃ g n c cur, v = .slice (some ⟨g, 0, none⟩) n c ∧ Blk w g E cur
theorem SlT.apart {w : World} {v v' : Value} {E E' : TypeId} (hne : E ≠ E') (h : SlT w v E) (h' : SlT w v' E') {b : Nat} (hb : BlkOf v b) (hb' : BlkOf v' b) : False := by
  rcases h with h | ⟨g, n, c, cur, rfl, hg⟩
  · exact h b hb
  rcases h' with h' | ⟨g', n', c', cur', rfl, hg'⟩
  · exact h' b hb'
  have e1 := hb.eq
  have e2 := hb'.eq
  subst e1
  subst e2
  unfold Blk at hg hg'
  rw [hg] at hg'
  simp at hg'
  exact hne hg'.2
theorem OwnTxts.slt {B : Nat} {w : World} {v : Value} {l : List ByteArray} (h : OwnTxts B w v l) : SlT w v 9 := by
  rcases h.2 with ⟨rfl, _⟩ | ⟨g, cap, cur, rfl, hB, hg, _⟩
  · exact .inl (fun b hb => by obtain ⟨_, _, hb⟩ := hb; simp at hb)
  · exact .inr ⟨g, _, cap, cur, rfl, hg⟩
theorem MkdTxts.slt {w : World} {v : Value} {m s : Nat} (h : MkdTxts w v m s) : SlT w v 9 := by
  rcases h with ⟨rfl, _⟩ | ⟨g, cap, cur, rfl, hg, _⟩
  · exact .inl (fun b hb => by obtain ⟨_, _, hb⟩ := hb; simp at hb)
  · exact .inr ⟨g, _, cap, cur, rfl, hg⟩
theorem OwnTxts.outA {B : Nat} {S : Nat → Prop} {w w' : World} {v : Value} {l : List ByteArray} (h : OwnTxts B w v l) (ho : OutS S w w') (hS : ∀ b, BlkOf v b → ¬ S b) : OwnTxts B w' v l := by
  obtain ⟨hl, h⟩ := h
  refine ⟨hl, ?_⟩
  rcases h with h | ⟨g, cap, cur, hv, hB, hg, h1⟩
  · exact .inl h
  · refine .inr ⟨g, cap, cur, hv, hB, ?_, h1⟩
    rw [ho.block g (Array.getElem?_eq_some_iff.1 hg).1 (hS g (by rw [hv]; exact .mk))]; exact hg
theorem MkdTxts.outA {S : Nat → Prop} {w w' : World} {v : Value} {m s : Nat} (h : MkdTxts w v m s) (ho : OutS S w w') (hS : ∀ b, BlkOf v b → ¬ S b) : MkdTxts w' v m s := by
  rcases h with h | ⟨g, cap, cur, hv, hg, h1⟩
  · exact .inl h
  · refine .inr ⟨g, cap, cur, hv, ?_, h1⟩
    unfold Blk at *
    rw [ho.block g (Array.getElem?_eq_some_iff.1 hg).1 (hS g (by rw [hv]; exact .mk))]; exact hg
theorem markOwnTxts' {B : Nat} {v : Value} {l : List ByteArray} {w : World} (s T : Nat) (hT : T = s + l.length) (hs0 : 0 < s) (hs1 : s ≤ 100000000000000) (hl : l.length ≤ 1048576) (h : OwnTxts B w v l) :
    Calls Tryz.prog 24 #[v, .int .i64 s] w fun e w' => e = .returned (.int .i64 (T : Int)) ∧ OutS (BlkOf v) w w' ∧ MkdTxts w' v l.length s := by
  subst hT
  exact markOwnTxts s hs0 hs1 hl h
theorem heldStringS' {v : Value} {m s : Nat} {w : World} (T : Nat) (hT : T = s + m) (hs0 : 0 < s) (hs1 : s ≤ 100000000000000) (hm : m ≤ 1048576) (h : MkdTxts w v m s) :
    Calls Tryz.prog 54 #[v, .int .i64 s] w fun e w' => e = .returned (.int .i64 (T : Int)) ∧ Below w.heap.size w w' := by
  subst hT
  exact heldStringS hs0 hs1 hm h
end Go.Proofs.YtcbabajfdihcdaaGreatDoor

namespace Go.Proofs.YtcbabajfdihcdaaGreatDoor
open Go.ChangeShapes Go.WideShapes Go.ChangeAt Go.RowKit
set_option linter.unusedVariables false
set_option linter.unusedSimpArgs false

/-- From a family of things, one for each place, to a list. -/
theorem list_of {α : Type} (n : Nat) (R : Nat → α → Prop) (h : ∀ i, i < n → ∃ x, R i x) : ∃ l : List α, l.length = n ∧ ∀ i (hi : i < l.length), R i l[i] := by
  induction n with
  | zero => exact ⟨[], rfl, fun i hi => by simp at hi⟩
  | succ n ih =>
    obtain ⟨l, hl, hr⟩ := ih (fun i hi => h i (by omega))
    obtain ⟨x, hx⟩ := h n (by omega)
    refine ⟨l ++ [x], by simp [hl], fun i hi => ?_⟩
    by_cases hin : i < l.length
    · rw [List.getElem_append_left hin]; exact hr i hin
    · have : i = l.length := by simp at hi; omega
      subst this
      simp
      rw [hl]; exact hx
section
variable {H : Type} {enc : TypeId × Value → H} {w : World} {base : Nat} {spare : Nat → Bool} {held : Bool}
set_option maxRecDepth 100000 in
theorem open_rows2 {t e : TypeId} {f0 f1 : Field} {fuel : Nat} {cs : List Value} {x : DataW H × List MemPlace} (ht : Tryz.prog.underlying t = some (.slice e)) (he : Tryz.prog.underlying e = some (.struct #[f0, f1]))
    (ce : Tryz.prog.cellsOf e = 2) (o0 : f0.offset = 0) (o1 : f1.offset = 1) (c0 : Tryz.prog.cellsOf f0.type = 1) (c1 : Tryz.prog.cellsOf f1.type = 1)
    (h : DataW.trod enc Tryz.prog w base spare held fuel t cs = some x) :
    ∃ (a : Option Addr) (len cap n : Nat), cs = [.slice a len cap] ∧ len ≤ maxLen ∧ ((a = none ∧ len = 0 ∧ cap = 0) ∨ ∃ a', a = some a') ∧
      ∀ i, i < len → ∃ b off, a = some ⟨b, off, none⟩ ∧ b < w.heap.size ∧ ∃ v0 v1 y0 y1, w.cell? ⟨b, off + i * 2, none⟩ = some v0 ∧ w.cell? ⟨b, off + i * 2 + 1, none⟩ = some v1 ∧ DataW.trod enc Tryz.prog w base spare held n f0.type [v0] = some y0 ∧ DataW.trod enc Tryz.prog w base spare held n f1.type [v1] = some y1 := by
  rcases Deep.open_slice ht h with ⟨rfl, _⟩ | ⟨a, len, cap, m, n, D, Pl, rfl, hb, hl, hm, hmm, rfl, hx⟩
  · exact ⟨none, 0, 0, 0, rfl, Nat.zero_le _, .inl ⟨rfl, rfl, rfl⟩, fun i hi => by omega⟩
  have hlm : len ≤ m := by rw [hmm]; split <;> omega
  refine ⟨some a, len, cap, n - 1, rfl, by omega, .inr ⟨a, rfl⟩, fun i hi => ?_⟩
  obtain ⟨cs', h1, h2⟩ := hx i (by omega)
  rw [ce] at h1
  obtain ⟨_, hlen, hcell⟩ := World.cells?_some h1
  obtain ⟨xs, k, hk, hxy, _, hxl, hf⟩ := DataW.trod_struct he h2
  have hk' : k = n - 1 := by omega
  subst hk'
  match xs, hxl, cs', hlen with
  | [y0, y1], _, [v0, v1], _ =>
    have g0 := hf 0 f0 rfl
    have g1 := hf 1 f1 rfl
    simp [o0, o1, c0, c1] at g0 g1
    have e0 := hcell 0 (by omega)
    have e1 := hcell 1 (by omega)
    simp only [List.getElem?_cons_zero, List.getElem?_cons_succ] at e0 e1
    have hsp : a.spot = none := by
      obtain ⟨cs0, h10, _⟩ := hx 0 (by omega)
      rw [ce] at h10
      obtain ⟨_, hlen0, hcell0⟩ := World.cells?_some h10
      have e00 := hcell0 0 (by omega)
      rw [List.getElem?_eq_getElem (by omega)] at e00
      have := World.cell?_spot e00
      simpa [Addr.add] using this
    obtain ⟨b, off, spot⟩ := a
    have hspot : spot = none := hsp
    subst hspot
    simp only [add_plain] at e0 e1
    refine ⟨b, off, rfl, ?_, v0, v1, y0, y1, by simpa using e0, by simpa using e1, g0, g1⟩
    cases hh : w.heap[b]? with
    | none => simp [World.cell?, hh] at e0
    | some o => exact (Array.getElem?_eq_some_iff.1 hh).1
set_option maxRecDepth 100000 in
theorem open_rows3 {t e : TypeId} {f0 f1 f2 : Field} {fuel : Nat} {cs : List Value} {x : DataW H × List MemPlace} (ht : Tryz.prog.underlying t = some (.slice e)) (he : Tryz.prog.underlying e = some (.struct #[f0, f1, f2]))
    (ce : Tryz.prog.cellsOf e = 3) (o0 : f0.offset = 0) (o1 : f1.offset = 1) (o2 : f2.offset = 2) (c0 : Tryz.prog.cellsOf f0.type = 1) (c1 : Tryz.prog.cellsOf f1.type = 1) (c2 : Tryz.prog.cellsOf f2.type = 1)
    (h : DataW.trod enc Tryz.prog w base spare held fuel t cs = some x) :
    ∃ (a : Option Addr) (len cap n : Nat), cs = [.slice a len cap] ∧ len ≤ maxLen ∧ ((a = none ∧ len = 0 ∧ cap = 0) ∨ ∃ a', a = some a') ∧
      ∀ i, i < len → ∃ b off, a = some ⟨b, off, none⟩ ∧ b < w.heap.size ∧ ∃ v0 v1 v2 y0 y1 y2, w.cell? ⟨b, off + i * 3, none⟩ = some v0 ∧ w.cell? ⟨b, off + i * 3 + 1, none⟩ = some v1 ∧ w.cell? ⟨b, off + i * 3 + 2, none⟩ = some v2 ∧ DataW.trod enc Tryz.prog w base spare held n f0.type [v0] = some y0 ∧ DataW.trod enc Tryz.prog w base spare held n f1.type [v1] = some y1 ∧ DataW.trod enc Tryz.prog w base spare held n f2.type [v2] = some y2 := by
  rcases Deep.open_slice ht h with ⟨rfl, _⟩ | ⟨a, len, cap, m, n, D, Pl, rfl, hb, hl, hm, hmm, rfl, hx⟩
  · exact ⟨none, 0, 0, 0, rfl, Nat.zero_le _, .inl ⟨rfl, rfl, rfl⟩, fun i hi => by omega⟩
  have hlm : len ≤ m := by rw [hmm]; split <;> omega
  refine ⟨some a, len, cap, n - 1, rfl, by omega, .inr ⟨a, rfl⟩, fun i hi => ?_⟩
  obtain ⟨cs', h1, h2⟩ := hx i (by omega)
  rw [ce] at h1
  obtain ⟨_, hlen, hcell⟩ := World.cells?_some h1
  obtain ⟨xs, k, hk, hxy, _, hxl, hf⟩ := DataW.trod_struct he h2
  have hk' : k = n - 1 := by omega
  subst hk'
  match xs, hxl, cs', hlen with
  | [y0, y1, y2], _, [v0, v1, v2], _ =>
    have g0 := hf 0 f0 rfl
    have g1 := hf 1 f1 rfl
    have g2 := hf 2 f2 rfl
    simp [o0, o1, o2, c0, c1, c2] at g0 g1 g2
    have e0 := hcell 0 (by omega)
    have e1 := hcell 1 (by omega)
    have e2 := hcell 2 (by omega)
    simp only [List.getElem?_cons_zero, List.getElem?_cons_succ] at e0 e1 e2
    have hsp : a.spot = none := by
      obtain ⟨cs0, h10, _⟩ := hx 0 (by omega)
      rw [ce] at h10
      obtain ⟨_, hlen0, hcell0⟩ := World.cells?_some h10
      have e00 := hcell0 0 (by omega)
      rw [List.getElem?_eq_getElem (by omega)] at e00
      have := World.cell?_spot e00
      simpa [Addr.add] using this
    obtain ⟨b, off, spot⟩ := a
    have hspot : spot = none := hsp
    subst hspot
    simp only [add_plain] at e0 e1 e2
    refine ⟨b, off, rfl, ?_, v0, v1, v2, y0, y1, y2, by simpa using e0, by simpa using e1, by simpa using e2, g0, g1, g2⟩
    cases hh : w.heap[b]? with
    | none => simp [World.cell?, hh] at e0
    | some o => exact (Array.getElem?_eq_some_iff.1 hh).1
set_option maxRecDepth 100000 in
theorem openEntrys {fuel : Nat} {cs : List Value} {x : DataW H × List MemPlace} (h : DataW.trod enc Tryz.prog w base spare held fuel 24 cs = some x) :
    ∃ v l, cs = [v] ∧ EntrysAt (fun b => b < w.heap.size) w v l ∧ ∀ y ∈ l, EntrysFit y := by
  obtain ⟨a, len, cap, n, rfl, hlm, ha, hall⟩ := open_rows2 Tryz.underlying24 Tryz.underlying90 (by kernel_rfl) rfl rfl (by kernel_rfl) (by kernel_rfl) h
  obtain ⟨l, hl, hr⟩ := list_of len (fun i (y : Entry) => EntrysFit y ∧ ∃ b off, a = some ⟨b, off, none⟩ ∧ b < w.heap.size ∧ w.cell? ⟨b, off + i * 2, none⟩ = some (.string y.path) ∧ w.cell? ⟨b, off + i * 2 + 1, none⟩ = some (.string y.text)) (fun i hi => by
    obtain ⟨b, off, rfl, hb, v0, v1, y0, y1, c0, c1, t0, t1⟩ := hall i hi
    obtain ⟨s0, q0, _, fit0⟩ := DataW.trod_string Tryz.underlying9 t0
    obtain ⟨s1, q1, _, fit1⟩ := DataW.trod_string Tryz.underlying9 t1
    simp at q0 q1
    subst q0 q1
    exact ⟨⟨s0, s1⟩, ⟨fit0, fit1⟩, b, off, rfl, hb, c0, c1⟩)
  refine ⟨_, l, rfl, ⟨by omega, a, cap, by rw [hl], fun h0 => ?_⟩, fun y hy => ?_⟩
  · obtain ⟨_, b, off, rfl, hb, _⟩ := hr 0 h0
    refine ⟨b, off, rfl, hb, fun i hi => ?_⟩
    obtain ⟨_, b', off', he, _, c0, c1⟩ := hr i hi
    simp at he
    obtain ⟨rfl, rfl⟩ := he
    exact ⟨c0, c1⟩
  · obtain ⟨i, hi, rfl⟩ := List.getElem_of_mem hy
    exact (hr i hi).1
set_option maxRecDepth 100000 in
theorem openLayers {fuel : Nat} {cs : List Value} {x : DataW H × List MemPlace} (h : DataW.trod enc Tryz.prog w base spare held fuel 23 cs = some x) :
    ∃ v l, cs = [v] ∧ LayersAt (fun b => b < w.heap.size) w v l ∧ ∀ y ∈ l, LayersFit y := by
  obtain ⟨a, len, cap, n, rfl, hlm, ha, hall⟩ := open_rows3 Tryz.underlying23 Tryz.underlying26 (by kernel_rfl) rfl rfl rfl (by kernel_rfl) (by kernel_rfl) (by kernel_rfl) h
  obtain ⟨l, hl, hr⟩ := list_of len (fun i (y : Layer) => LayersFit y ∧ ∃ b off, a = some ⟨b, off, none⟩ ∧ b < w.heap.size ∧ w.cell? ⟨b, off + i * 3, none⟩ = some (.string y.name) ∧ w.cell? ⟨b, off + i * 3 + 1, none⟩ = some (.int .i64 y.rank) ∧ ∃ nv, w.cell? ⟨b, off + i * 3 + 2, none⟩ = some nv ∧ EntrysAt (fun b => b < w.heap.size) w nv y.entries) (fun i hi => by
    obtain ⟨b, off, rfl, hb, v0, v1, v2, y0, y1, y2, c0, c1, c2, t0, t1, t2⟩ := hall i hi
    obtain ⟨s0, q0, _, fit0⟩ := DataW.trod_string Tryz.underlying9 t0
    obtain ⟨s1, q1, _, _⟩ := DataW.trod_int Tryz.underlying3 t1
    obtain ⟨nv, s2, q2, hn, fit2⟩ := openEntrys t2
    simp at q0 q1 q2
    subst q0 q1 q2
    exact ⟨⟨s0, s1, s2⟩, ⟨fit0, fit2⟩, b, off, rfl, hb, c0, c1, _, c2, hn⟩)
  refine ⟨_, l, rfl, ⟨by omega, a, cap, by rw [hl], fun h0 => ?_⟩, fun y hy => ?_⟩
  · obtain ⟨_, b, off, rfl, hb, _⟩ := hr 0 h0
    refine ⟨b, off, rfl, hb, fun i hi => ?_⟩
    obtain ⟨_, b', off', he, _, c0, c1, nv, c2, hn⟩ := hr i hi
    simp at he
    obtain ⟨rfl, rfl⟩ := he
    exact ⟨c0, c1, nv, c2, hn⟩
  · obtain ⟨i, hi, rfl⟩ := List.getElem_of_mem hy
    exact (hr i hi).1
end
end Go.Proofs.YtcbabajfdihcdaaGreatDoor

namespace Go.Proofs.YtcbabajfdihcdaaGreatDoor
open Go.ChangeShapes Go.WideShapes Go.ChangeAt Go.RowKit
set_option linter.unusedVariables false
set_option linter.unusedSimpArgs false

structure Rule where
  path : ByteArray
  kind : Int
  min' : Int
  max' : Int
  choices : List ByteArray
  must : Bool
  default' : ByteArray
/-- The slice v reads in w, out of blocks of S, as these. -/
def RulesAt (S : Nat → Prop) (w : World) (v : Value) (l : List Rule) : Prop := l.length ≤ maxLen ∧ ∃ a cap, v = .slice a l.length cap ∧ (0 < l.length → ∃ b off, a = some ⟨b, off, none⟩ ∧ S b ∧
  ∀ i (h : i < l.length), w.cell? ⟨b, off + i * 7, none⟩ = some (.string l[i].path) ∧ w.cell? ⟨b, off + i * 7 + 1, none⟩ = some (.int .i64 l[i].kind) ∧ w.cell? ⟨b, off + i * 7 + 2, none⟩ = some (.int .i64 l[i].min') ∧ w.cell? ⟨b, off + i * 7 + 3, none⟩ = some (.int .i64 l[i].max') ∧ w.cell? ⟨b, off + i * 7 + 5, none⟩ = some (.bool l[i].must) ∧ w.cell? ⟨b, off + i * 7 + 6, none⟩ = some (.string l[i].default') ∧ ∃ nv, w.cell? ⟨b, off + i * 7 + 4, none⟩ = some nv ∧ TxtsAt S w nv l[i].choices)
theorem RulesAt.keep {S : Nat → Prop} {w w' : World} {v : Value} {l : List Rule} (h : RulesAt S w v l) (hk : ∀ b i, S b → w'.cell? ⟨b, i, none⟩ = w.cell? ⟨b, i, none⟩) : RulesAt S w' v l := by
  obtain ⟨hl, a, cap, hv, h⟩ := h
  refine ⟨hl, a, cap, hv, fun h0 => ?_⟩
  obtain ⟨b, off, ha, hbB, hc⟩ := h h0
  refine ⟨b, off, ha, hbB, fun i hi => ?_⟩
  obtain ⟨c0, c1, c2, c3, c5, c6, nv, d1, d2⟩ := hc i hi
  exact ⟨(hk _ _ hbB).trans c0, (hk _ _ hbB).trans c1, (hk _ _ hbB).trans c2, (hk _ _ hbB).trans c3, (hk _ _ hbB).trans c5, (hk _ _ hbB).trans c6, nv, (hk _ _ hbB).trans d1, d2.keep hk⟩
theorem RulesAt.mono {S S' : Nat → Prop} {w : World} {v : Value} {l : List Rule} (h : RulesAt S w v l) (hS : ∀ b, S b → S' b) : RulesAt S' w v l := by
  obtain ⟨hl, a, cap, hv, h⟩ := h
  refine ⟨hl, a, cap, hv, fun h0 => ?_⟩
  obtain ⟨b, off, ha, hbB, hc⟩ := h h0
  refine ⟨b, off, ha, hS b hbB, fun i hi => ?_⟩
  obtain ⟨c0, c1, c2, c3, c5, c6, nv, d1, d2⟩ := hc i hi
  exact ⟨c0, c1, c2, c3, c5, c6, nv, d1, d2.mono hS⟩
theorem RulesAt.shape {S : Nat → Prop} {w : World} {v : Value} {l : List Rule} (h : RulesAt S w v l) : ∃ a c, v = .slice a l.length c := by
  obtain ⟨_, a, c, hv, _⟩ := h
  exact ⟨a, c, hv⟩
def RulesOK (left : Int) (x : Rule) : Prop := (x.path.size : Int) ≤ left ∧ (x.default'.size : Int) ≤ left ∧ (x.choices.length : Int) ≤ left ∧ ∀ y ∈ x.choices, TxtsOK left y
def RulesFit (x : Rule) : Prop := x.path.size ≤ maxLen ∧ x.default'.size ≤ maxLen ∧ ∀ y ∈ x.choices, TxtsFit y
theorem RulesOK.mono {a b : Int} {x : Rule} (h : RulesOK a x) (hab : a ≤ b) : RulesOK b x := by
  unfold RulesOK at *
  obtain ⟨h0, h1, h2, h3⟩ := h
  exact ⟨by omega, by omega, by omega, fun y hy => (h3 y hy).mono hab⟩
set_option maxRecDepth 100000 in
theorem szRule {S : Nat → Prop} (x : Rule) (nv : Value) (w : World) (hS : ∀ b, S b → b < w.heap.size) (h : TxtsAt S w nv x.choices) (hf : RulesFit x) (left : Int) (h0 : 0 ≤ left) (h1 : left ≤ 1048576) :
    Calls Tryz.prog 28 #[.agg #[.string x.path, .int .i64 x.kind, .int .i64 x.min', .int .i64 x.max', nv, .bool x.must, .string x.default'], .int .i64 left] w fun e w' => (∃ r : Int, e = .returned (.int .i64 r) ∧ (r = -1 ∨ (0 ≤ r ∧ r ≤ left ∧ RulesOK left x))) ∧ Below w.heap.size w w' := by
  have hw1 : ∀ o, Below w.heap.size w (w.alloc o) := fun o => (Below.refl _ w).alloc (Nat.le_refl _) _
  unfold RulesFit at hf
  obtain ⟨z0, z6, zz⟩ := hf
  have m0 : (x.path.size : Int) ≤ 9223372036854775807 := by have := z0; simp [maxLen] at this; omega
  have m6 : (x.default'.size : Int) ≤ 9223372036854775807 := by have := z6; simp [maxLen] at this; omega
  have cs := fun o left' (h0' : 0 ≤ left') (h1' : left' ≤ 1048576) => szStringS (w := w.alloc o) (fun b hb => Nat.lt_of_lt_of_le (hS b hb) (hw1 o).size) (h.keep (cells_below hS (hw1 o))) zz left' h0' h1'
  unfold RulesOK
  obtain ⟨x0, x1, x2, x3, x4, x5, x6⟩ := x
  dsimp only at cs m0 m6 ⊢
  clear h zz z0 z6
  by_cases n0 : left - (x0.size : Int) < 0
  · clear cs
    go_enter Tryz.func28, Tryz.ntmps28
    go_wp2_with fail
    go_ret
    exact ⟨⟨-1, rfl, .inl rfl⟩, hw1 _⟩
  have cs' := fun o => cs o (left - (x0.size : Int)) (by omega) (by omega)
  clear cs
  go_enter Tryz.func28, Tryz.ntmps28
  go_wp2_with (go_at_call 7; go_must (refine (cs' _).mono ?_; rintro e w1 ⟨⟨r1, rfl, hr⟩, hb1⟩; have hbk1 : Blk w1 w.heap.size 60 #[.string x0, .int .i64 x1, .int .i64 x2, .int .i64 x3, nv, .bool x5, .string x6] := Blk.below (heap_alloc_last w _) hb1; have p6 := hbk1.cell 6; simp at p6; clear hbk1))
  · go_ret
    exact ⟨⟨-1, rfl, .inl rfl⟩, good_below (hw1 _) hb1⟩
  · go_ret
    exact ⟨⟨-1, rfl, .inl rfl⟩, good_below (hw1 _) hb1⟩
  · go_ret
    rcases hr with h | ⟨q0, q1, q2, q3⟩
    · omega
    · exact ⟨⟨_, rfl, .inr ⟨by omega, by omega, by omega, by omega, by omega, fun y hy => (q3 y hy).mono (by omega)⟩⟩, good_below (hw1 _) hb1⟩
set_option maxRecDepth 100000 in
set_option maxHeartbeats 400000 in
theorem szRuleS {S : Nat → Prop} {l : List Rule} {v : Value} {w : World} (hS : ∀ b, S b → b < w.heap.size) (h : RulesAt S w v l) (hx : ∀ x ∈ l, RulesFit x) (left : Int) (h0 : 0 ≤ left) (h1 : left ≤ 1048576) :
    Calls Tryz.prog 4 #[v, .int .i64 left] w fun e w' => (∃ r : Int, e = .returned (.int .i64 r) ∧ (r = -1 ∨ (0 ≤ r ∧ r ≤ left ∧ (l.length : Int) ≤ left ∧ ∀ x ∈ l, RulesOK left x))) ∧ Below w.heap.size w w' := by
  have HX : Hid (∀ x ∈ l, RulesFit x) := hx
  obtain ⟨hlm, a, cap, rfl, hc⟩ := h
  have hlm' : (l.length : Int) ≤ 9223372036854775807 := by simp [maxLen] at hlm; omega
  clear hx hlm
  by_cases hn : left - (l.length : Int) < 0
  · clear hc
    go_enter Tryz.func4, Tryz.ntmps4
    go_wp2_with fail
    go_ret
    exact ⟨⟨-1, rfl, .inl rfl⟩, Below.refl _ _⟩
  · have HC : Hid _ := hc
    clear hc
    go_enter Tryz.func4, Tryz.ntmps4
    go_wp2_with fail
    go_loopw [1, 5] (fun i1 i5 wr => ∃ (k : Nat) (r : Int), i5 = .int .i64 (k : Int) ∧ i1 = .int .i64 r ∧ k ≤ l.length ∧ 0 ≤ r ∧ r ≤ left ∧ (∀ i (h : i < l.length), i < k → RulesOK left l[i]) ∧ Below w.heap.size w wr) (fun _ i5 _ => l.length - (intOf i5).toNat)
    case atStart => exact ⟨0, _, rfl, rfl, by omega, by omega, by omega, fun i _ h => by omega, Below.refl _ _⟩
    case round =>
      obtain ⟨k, r, rfl, rfl, hk, hr0, hr1, hall, hb⟩ := hrel
      have HA : Hid _ := hall
      clear hall
      by_cases hkn : k < l.length
      · have hkn' : (k : Int) < (l.length : Int) := by omega
        obtain ⟨b, off, rfl, hbB, hcell⟩ := HC.out (by omega)
        obtain ⟨c0, c1, c2, c3, c5, c6, nv, e1, e2⟩ := hcell k hkn
        have hbw : b < w.heap.size := hS b hbB
        have d0 := (hb.cell (p := ⟨b, off + k * 7, none⟩) hbw).trans c0
        have d1 := (hb.cell (p := ⟨b, off + k * 7 + 1, none⟩) hbw).trans c1
        have d2 := (hb.cell (p := ⟨b, off + k * 7 + 2, none⟩) hbw).trans c2
        have d3 := (hb.cell (p := ⟨b, off + k * 7 + 3, none⟩) hbw).trans c3
        have d5 := (hb.cell (p := ⟨b, off + k * 7 + 5, none⟩) hbw).trans c5
        have d6 := (hb.cell (p := ⟨b, off + k * 7 + 6, none⟩) hbw).trans c6
        have d4 := (hb.cell (p := ⟨b, off + k * 7 + 4, none⟩) hbw).trans e1
        have cs := szRule l[k] nv wr (fun b hbb => Nat.lt_of_lt_of_le (hS b hbb) hb.size) (e2.keep (cells_below hS hb)) (HX.out _ (List.getElem_mem hkn)) r hr0 (by omega)
        obtain ⟨x, hxk⟩ : ∃ x, l[k] = x := ⟨_, rfl⟩
        rw [hxk] at d0 d1 d2 d3 d5 d6 cs
        have HXK : Hid (l[k] = x) := hxk
        clear hxk c0 c1 c2 c3 c5 c6 e1 e2 hcell
        obtain ⟨x0, x1, x2, x3, x4, x5, x6⟩ := x
        dsimp only at d0 d1 d2 d3 d5 d6 cs
        go_wp2_with (go_at_call 28; go_must (refine cs.mono ?_; rintro e w1 ⟨⟨r1, rfl, hr⟩, hb1⟩))
        · go_ret
          exact ⟨⟨-1, rfl, .inl rfl⟩, good_below hb hb1⟩
        · have hr2 : 0 ≤ r1 := by omega
          have hr3 : r1 ≤ r ∧ RulesOK r ⟨x0, x1, x2, x3, x4, x5, x6⟩ := hr.elim (fun h => by omega) (fun h => h.2)
          refine ⟨⟨k + 1, r1, rfl, rfl, by omega, hr2, by omega, fun i hi hik => ?_, good_below hb hb1⟩, by simp [intOf]; omega⟩
          by_cases hik2 : i < k
          · exact HA.out i hi hik2
          · obtain rfl : i = k := by omega
            rw [HXK.out]
            exact hr3.2.mono hr1
      · have hkn' : ¬ ((k : Int) < (l.length : Int)) := by omega
        go_wp2_with fail
        go_ret
        refine ⟨⟨r, rfl, .inr ⟨hr0, hr1, by omega, fun x hx => ?_⟩⟩, hb⟩
        obtain ⟨i, hi, rfl⟩ := List.getElem_of_mem hx
        exact HA.out i hi (by omega)
end Go.Proofs.YtcbabajfdihcdaaGreatDoor

namespace Go.Proofs.YtcbabajfdihcdaaGreatDoor
open Go.ChangeShapes Go.WideShapes Go.ChangeAt Go.RowKit
set_option linter.unusedVariables false
set_option linter.unusedSimpArgs false

/-- What a Lookup answers, whatever it is. -/
def LookupC (f : Nat) (T : World → Prop) (C0 : (List Rule) → (List Layer) → ByteArray → ByteArray) (C1 : (List Rule) → (List Layer) → ByteArray → Int) (C2 : (List Rule) → (List Layer) → ByteArray → ByteArray) (C3 : (List Rule) → (List Layer) → ByteArray → Int) : Prop := ∀ (S : Nat → Prop) (l0 : List Rule) (l1 : List Layer) (l2 : ByteArray) (v0 : Value) (v1 : Value) (w : World), (∀ b, S b → b < w.heap.size) → RulesAt S w v0 l0 → l0.length ≤ 1048576 → (∀ x ∈ l0, RulesOK 1048576 x) → LayersAt S w v1 l1 → l1.length ≤ 1048576 → (∀ x ∈ l1, LayersOK 1048576 x) → l2.size ≤ 1048576 → (∀ W, Below w.heap.size w W → T W) →
  Calls Tryz.prog f #[v0, v1, .string l2] w fun e w' => (e = .returned (.tuple #[.string (C0 l0 l1 l2), .int .i64 (C1 l0 l1 l2), .string (C2 l0 l1 l2), .int .i64 (C3 l0 l1 l2)])) ∧ Below w.heap.size w w'

end Go.Proofs.YtcbabajfdihcdaaGreatDoor

namespace Go.Proofs.YtcbabajfdihcdaaGreatDoor
open Go.ChangeShapes Go.WideShapes Go.ChangeAt Go.RowKit
set_option linter.unusedVariables false
set_option linter.unusedSimpArgs false

theorem addr_at (b off j : Nat) : (⟨b, off, none⟩ : Addr).add j = ⟨b, off + j, none⟩ := by unfold Addr.add; split <;> simp_all
theorem run_append_zero {w : World} {B : Nat} {t ty e : TypeId} {i : TypeInfo} {size : Nat} (ht : Tryz.prog.underlying t = some (.slice e)) (hi : Tryz.prog.info? e = some i) (v : Value) (n : Nat) (xs : List Value) (hown : w.ownsRow B e size v n xs) (ao : Option Addr) (c : Nat) :
    (Builtin.append_ #[t, t] ty #[v, .slice ao 0 c]).run Tryz.prog w = .ok v w := by
  rcases hown.2 with ⟨rfl, rfl⟩ | ⟨g, cap, cur, rfl, _, _, hnc, _⟩
  · cases ao <;> simp [Builtin.append_, run_underlying ht, sizeOf, typeInfo, hi, Builtin.lenOf, Builtin.firstCells, loadCells, loadCellsFrom]
  · cases ao <;> simp [Builtin.append_, run_underlying ht, sizeOf, typeInfo, hi, Builtin.lenOf, Builtin.firstCells, loadCells, loadCellsFrom, hnc, storeCells]
theorem grown_refl (w : World) (row : Option Nat) : w.grownBy w row := ⟨rfl, rfl, rfl, Nat.le_refl _, fun _ _ _ => rfl⟩
theorem info_of {t : TypeId} {z : Value} {n b : Nat} (hi : (Tryz.prog.info? t).map (fun i => (i.zero, i.size, i.bytes)) = some (some z, n, b)) : ∃ i, Tryz.prog.info? t = some i ∧ i.zero = some z ∧ i.size = n ∧ i.bytes = b := by
  cases h : Tryz.prog.info? t with
  | none => rw [h] at hi; simp at hi
  | some i =>
    rw [h] at hi
    simp only [Option.map_some, Option.some.injEq, Prod.mk.injEq] at hi
    exact ⟨i, rfl, hi.1, hi.2.1, hi.2.2⟩
theorem OwnTxts.block {B : Nat} {w : World} {v : Value} {l : List ByteArray} (h : OwnTxts B w v l) : ∀ k, v.ownBlock = some k → B ≤ k := by
  intro k hk
  rcases h.2 with ⟨rfl, _⟩ | ⟨g, cap, cur, rfl, hB, _⟩
  · simp [Value.ownBlock] at hk
  · simp [Value.ownBlock] at hk; omega
theorem OwnTxts.kept {B : Nat} {w w' : World} {v : Value} {l : List ByteArray} {row : Option Nat} (h : OwnTxts B w v l) (hg : w.grownBy w' row) (hne : v.ownBlock = none ∨ v.ownBlock ≠ row) : OwnTxts B w' v l :=
  World.ownsRow.kept h hg hne
theorem OwnTxts.empty (B : Nat) (w : World) (hB : B ≤ w.heap.size) : OwnTxts B (w.alloc (.cells #[] 9)) (.slice (some ⟨w.heap.size, 0, none⟩) 0 0) [] :=
  ⟨rfl, .inr ⟨w.heap.size, 0, #[], rfl, hB, heap_alloc_last w _, Nat.le_refl _, Nat.zero_le _, rfl, rfl⟩⟩
theorem OwnTxts.nil (B : Nat) (w : World) : OwnTxts B w (.slice none 0 0) [] := ⟨rfl, .inl ⟨rfl, rfl⟩⟩
/-- A row of one that is built. -/
theorem TxtsAt.new (w : World) (x0 : ByteArray) : TxtsAt (fun b => b = w.heap.size) (w.alloc (.cells #[.string x0] 9)) (.slice (some ⟨w.heap.size, 0, none⟩) 1 1) [x0] := by
  refine ⟨by simp [maxLen], _, 1, rfl, fun _ => ⟨w.heap.size, 0, rfl, rfl, fun i hi => ?_⟩⟩
  have hi0 : i = 0 := by simpa using hi
  subst hi0
  have hb : Blk (w.alloc (.cells #[.string x0] 9)) w.heap.size 9 #[.string x0] := heap_alloc_last w _
  exact hb.cell 0
theorem TxtsAt.news {S : Nat → Prop} {w : World} {b off len cap : Nat} {ys : List ByteArray} (h : TxtsAt S w (.slice (some ⟨b, off, none⟩) len cap) ys) : ∀ j u, (TxtsRow ys)[j]? = some u → w.cell? ((⟨b, off, none⟩ : Addr).add j) = some u := by
  intro j u hj
  have hlt : j < ys.length * 1 := by
    have := (List.getElem?_eq_some_iff.1 hj).1
    rwa [TxtsRow_length] at this
  obtain ⟨_, a, c, hv, hc⟩ := h
  obtain ⟨b', off', ha, _, hcell⟩ := hc (by omega)
  simp only [Value.slice.injEq] at hv
  obtain ⟨rfl, _, _⟩ := hv
  simp only [Option.some.injEq, Addr.mk.injEq] at ha
  obtain ⟨rfl, rfl, _⟩ := ha
  have hk : j / 1 < ys.length := by omega
  have hcc := hcell (j / 1) hk
  have hrr := TxtsRow_at ys (j / 1) hk
  rw [addr_at]
  simp only [Nat.div_one] at hcc hrr
  rw [hcc, ← hrr, hj]
theorem wpList_appendTxts {ops : Array Oper} {rest : List Oper} {o : Oper} {a : Act} {w : World} {Q : Exit → Act → World → Prop} (hgd : o.guard = none) (s x : Operand)
    (ho : o.op = .call { callee := .builtin .append, args := #[s, x], argTypes := #[27, 27] })
    (B : Nat) (v : Value) (l : List ByteArray) (hs : a.eval s = v) (hown : OwnTxts B w v l) {S : Nat → Prop} (u : Value) (ys : List ByteArray) (hx : a.eval x = u) (hsrc : TxtsAt S w u ys)
    (hsz : l.length + ys.length ≤ 1000000) (hB : B ≤ w.heap.size)
    (h : ∀ v' w', OwnTxts B w' v' (l ++ ys) → Below B w w' → w.grownBy w' v.ownBlock → (v' = .slice none 0 0 → v = .slice none 0 0) → wpList Tryz.prog ops Q rest (a.put o.dst v') w') : wpList Tryz.prog ops Q (o :: rest) a w := by
  obtain ⟨i, hii, hz0, hz1, hz2⟩ := info_of (t := 9) (z := .string ⟨#[]⟩) (n := 1) (b := 16) (by kernel_rfl)
  obtain ⟨_, ao, c, hv, hc⟩ := id hsrc
  by_cases h0 : 0 < ys.length
  · obtain ⟨b, off, rfl, _, _⟩ := hc h0
    subst hv
    refine wpList_append_own w hgd s x 27 ho B 9 i (.string ⟨#[]⟩) 1 16 Tryz.underlying27 hii hz0 hz1 hz2 rfl (by decide) v l.length (TxtsRow l) hs hown ⟨b, off, none⟩ ys.length c (TxtsRow ys) hx (TxtsRow_length ys) hsrc.news (fun u hu => TxtsRow_one hu) ?_ ?_ hB ?_
    · unfold maxLen; omega
    · omega
    · intro v' w' h1 h2 h3
      have h4 : OwnTxts B w' v' (l ++ ys) := by
        unfold OwnTxts
        rw [TxtsRow_append, List.length_append]
        exact h1
      have h5 := (Below.refl _ w).grown h2 hB (OwnTxts.block hown)
      exact h v' w' h4 h5 h2 (fun e => (h3.1 e).1)
  · have hy : ys = [] := List.length_eq_zero_iff.1 (by omega)
    subst hy
    subst hv
    have hrun : (Builtin.append_ #[27, 27] o.type #[v, .slice ao 0 c]).run Tryz.prog w = .ok v w := run_append_zero Tryz.underlying27 hii v _ _ hown ao c
    refine wpList_plain hgd fun K hK => ?_
    unfold Oper.wp
    simp only [List.length_nil] at hx
    simp [execOp, ho, resolve, invoke, builtin, hs, hx, hrun, Result.andThen]
    exact hK _ _ (h v w (by simpa using hown) (Below.refl _ _) (grown_refl _ _) id)
theorem step_appendTxts {ops : Array Oper} {o : Oper} {a : Act} {w : World} {K : Act → World → Prop} {Q : Exit → Act → World → Prop} {E : Prop}
    (hg : o.guard = none) (s x : Operand) (ho : o.op = Op.call { callee := Callee.builtin Builtin.append, args := #[s, x], argTypes := #[27, 27] })
    (B : Nat) (v : Value) (l : List ByteArray) (hs : a.eval s = v) (hown : OwnTxts B w v l) {S : Nat → Prop} (u : Value) (ys : List ByteArray) (hx : a.eval x = u) (hsrc : TxtsAt S w u ys)
    (hsz : l.length + ys.length ≤ 1000000) (hB : B ≤ w.heap.size)
    (hK : ∀ va vn vc w', OwnTxts B w' (.slice va vn vc) (l ++ ys) → Below B w w' → w.grownBy w' v.ownBlock → (Value.slice va vn vc = .slice none 0 0 → v = .slice none 0 0) → K (a.put o.dst (.slice va vn vc)) w') :
    if Region.wanted o (yielded ops a.tmps) = true then Oper.wp Tryz.prog o a w K Q else E := by
  have hw : Region.wanted o (yielded ops a.tmps) = true := by simp [Region.wanted, hg]
  rw [if_pos hw]
  obtain ⟨i, hii, hz0, hz1, hz2⟩ := info_of (t := 9) (z := .string ⟨#[]⟩) (n := 1) (b := 16) (by kernel_rfl)
  obtain ⟨_, ao, c, hv, hc⟩ := id hsrc
  by_cases h0 : 0 < ys.length
  · obtain ⟨b, off, rfl, _, _⟩ := hc h0
    subst hv
    refine wp_append_own w  s x 27 ho B 9 i (.string ⟨#[]⟩) 1 16 Tryz.underlying27 hii hz0 hz1 hz2 rfl (by decide) v l.length (TxtsRow l) hs hown ⟨b, off, none⟩ ys.length c (TxtsRow ys) hx (TxtsRow_length ys) hsrc.news (fun u hu => TxtsRow_one hu) ?_ ?_ hB ?_
    · unfold maxLen; omega
    · omega
    · intro v' w' h1 h2 h3
      have h4 : OwnTxts B w' v' (l ++ ys) := by
        unfold OwnTxts
        rw [TxtsRow_append, List.length_append]
        exact h1
      have h5 := (Below.refl _ w).grown h2 hB (OwnTxts.block hown)
      rcases h4.2 with ⟨rfl, _⟩ | ⟨g, cap, cur, rfl, _⟩
      · exact hK _ _ _ w' h4 h5 h2 (fun e => (h3.1 e).1)
      · exact hK _ _ _ w' h4 h5 h2 (fun e => (h3.1 e).1)
  · have hy : ys = [] := List.length_eq_zero_iff.1 (by omega)
    subst hy
    subst hv
    have hrun : (Builtin.append_ #[27, 27] o.type #[v, .slice ao 0 c]).run Tryz.prog w = .ok v w := run_append_zero Tryz.underlying27 hii v _ _ hown ao c
    unfold Oper.wp
    simp only [List.length_nil] at hx
    simp [execOp, ho, resolve, invoke, builtin, hs, hx, hrun, Result.andThen]
    obtain ⟨va, vc, hvv, _⟩ := hown.value
    subst hvv
    exact hK _ _ _ w (by simpa using hown) (Below.refl _ _) (grown_refl _ _) id
theorem OwnSettings.block {B : Nat} {w : World} {v : Value} {l : List Setting} (h : OwnSettings B w v l) : ∀ k, v.ownBlock = some k → B ≤ k := by
  intro k hk
  rcases h.2 with ⟨rfl, _⟩ | ⟨g, cap, cur, rfl, hB, _⟩
  · simp [Value.ownBlock] at hk
  · simp [Value.ownBlock] at hk; omega
theorem OwnSettings.kept {B : Nat} {w w' : World} {v : Value} {l : List Setting} {row : Option Nat} (h : OwnSettings B w v l) (hg : w.grownBy w' row) (hne : v.ownBlock = none ∨ v.ownBlock ≠ row) : OwnSettings B w' v l :=
  World.ownsRow.kept h hg hne
theorem OwnSettings.empty (B : Nat) (w : World) (hB : B ≤ w.heap.size) : OwnSettings B (w.alloc (.cells #[] 99)) (.slice (some ⟨w.heap.size, 0, none⟩) 0 0) [] :=
  ⟨rfl, .inr ⟨w.heap.size, 0, #[], rfl, hB, heap_alloc_last w _, Nat.le_refl _, Nat.zero_le _, rfl, rfl⟩⟩
theorem OwnSettings.nil (B : Nat) (w : World) : OwnSettings B w (.slice none 0 0) [] := ⟨rfl, .inl ⟨rfl, rfl⟩⟩
/-- A row of one that is built. -/
theorem SettingsAt.new (w : World) (x0 : ByteArray) (x1 : ByteArray) (x2 : ByteArray) : SettingsAt (fun b => b = w.heap.size) (w.alloc (.cells #[.string x0, .string x1, .string x2] 99)) (.slice (some ⟨w.heap.size, 0, none⟩) 1 1) [⟨x0, x1, x2⟩] := by
  refine ⟨by simp [maxLen], _, 1, rfl, fun _ => ⟨w.heap.size, 0, rfl, rfl, fun i hi => ?_⟩⟩
  have hi0 : i = 0 := by simpa using hi
  subst hi0
  have hb : Blk (w.alloc (.cells #[.string x0, .string x1, .string x2] 99)) w.heap.size 99 #[.string x0, .string x1, .string x2] := heap_alloc_last w _
  exact ⟨hb.cell 0, hb.cell 1, hb.cell 2⟩
theorem SettingsAt.news {S : Nat → Prop} {w : World} {b off len cap : Nat} {ys : List Setting} (h : SettingsAt S w (.slice (some ⟨b, off, none⟩) len cap) ys) : ∀ j u, (SettingsRow ys)[j]? = some u → w.cell? ((⟨b, off, none⟩ : Addr).add j) = some u := by
  intro j u hj
  have hlt : j < ys.length * 3 := by
    have := (List.getElem?_eq_some_iff.1 hj).1
    rwa [SettingsRow_length] at this
  obtain ⟨_, a, c, hv, hc⟩ := h
  obtain ⟨b', off', ha, _, hcell⟩ := hc (by omega)
  simp only [Value.slice.injEq] at hv
  obtain ⟨rfl, _, _⟩ := hv
  simp only [Option.some.injEq, Addr.mk.injEq] at ha
  obtain ⟨rfl, rfl, _⟩ := ha
  have hk : j / 3 < ys.length := by omega
  have hcc := hcell (j / 3) hk
  have hrr := SettingsRow_at ys (j / 3) hk
  rw [addr_at]
  obtain ⟨c0, c1, c2⟩ := hcc
  obtain ⟨r0, r1, r2⟩ := hrr
  have h3 : j % 3 = 0 ∨ j % 3 = 1 ∨ j % 3 = 2 := by omega
  rcases h3 with h3 | h3 | h3
  · have e : j = j / 3 * 3 := by omega
    rw [e] at hj
    rw [r0] at hj
    rw [show off + j = off + j / 3 * 3 by omega, c0, ← hj]
  · have e : j = j / 3 * 3 + 1 := by omega
    rw [e] at hj
    rw [r1] at hj
    rw [show off + j = off + j / 3 * 3 + 1 by omega, c1, ← hj]
  · have e : j = j / 3 * 3 + 2 := by omega
    rw [e] at hj
    rw [r2] at hj
    rw [show off + j = off + j / 3 * 3 + 2 by omega, c2, ← hj]
theorem wpList_appendSettings {ops : Array Oper} {rest : List Oper} {o : Oper} {a : Act} {w : World} {Q : Exit → Act → World → Prop} (hgd : o.guard = none) (s x : Operand)
    (ho : o.op = .call { callee := .builtin .append, args := #[s, x], argTypes := #[96, 96] })
    (B : Nat) (v : Value) (l : List Setting) (hs : a.eval s = v) (hown : OwnSettings B w v l) {S : Nat → Prop} (u : Value) (ys : List Setting) (hx : a.eval x = u) (hsrc : SettingsAt S w u ys)
    (hsz : l.length + ys.length ≤ 1000000) (hB : B ≤ w.heap.size)
    (h : ∀ v' w', OwnSettings B w' v' (l ++ ys) → Below B w w' → w.grownBy w' v.ownBlock → (v' = .slice none 0 0 → v = .slice none 0 0) → wpList Tryz.prog ops Q rest (a.put o.dst v') w') : wpList Tryz.prog ops Q (o :: rest) a w := by
  obtain ⟨i, hii, hz0, hz1, hz2⟩ := info_of (t := 99) (z := .agg #[.string ⟨#[]⟩, .string ⟨#[]⟩, .string ⟨#[]⟩]) (n := 3) (b := 48) (by kernel_rfl)
  obtain ⟨_, ao, c, hv, hc⟩ := id hsrc
  by_cases h0 : 0 < ys.length
  · obtain ⟨b, off, rfl, _, _⟩ := hc h0
    subst hv
    refine wpList_append_own w hgd s x 96 ho B 99 i (.agg #[.string ⟨#[]⟩, .string ⟨#[]⟩, .string ⟨#[]⟩]) 3 48 Tryz.underlying96 hii hz0 hz1 hz2 rfl (by decide) v l.length (SettingsRow l) hs hown ⟨b, off, none⟩ ys.length c (SettingsRow ys) hx (SettingsRow_length ys) hsrc.news (fun u hu => SettingsRow_one hu) ?_ ?_ hB ?_
    · unfold maxLen; omega
    · omega
    · intro v' w' h1 h2 h3
      have h4 : OwnSettings B w' v' (l ++ ys) := by
        unfold OwnSettings
        rw [SettingsRow_append, List.length_append]
        exact h1
      have h5 := (Below.refl _ w).grown h2 hB (OwnSettings.block hown)
      exact h v' w' h4 h5 h2 (fun e => (h3.1 e).1)
  · have hy : ys = [] := List.length_eq_zero_iff.1 (by omega)
    subst hy
    subst hv
    have hrun : (Builtin.append_ #[96, 96] o.type #[v, .slice ao 0 c]).run Tryz.prog w = .ok v w := run_append_zero Tryz.underlying96 hii v _ _ hown ao c
    refine wpList_plain hgd fun K hK => ?_
    unfold Oper.wp
    simp only [List.length_nil] at hx
    simp [execOp, ho, resolve, invoke, builtin, hs, hx, hrun, Result.andThen]
    exact hK _ _ (h v w (by simpa using hown) (Below.refl _ _) (grown_refl _ _) id)
theorem step_appendSettings {ops : Array Oper} {o : Oper} {a : Act} {w : World} {K : Act → World → Prop} {Q : Exit → Act → World → Prop} {E : Prop}
    (hg : o.guard = none) (s x : Operand) (ho : o.op = Op.call { callee := Callee.builtin Builtin.append, args := #[s, x], argTypes := #[96, 96] })
    (B : Nat) (v : Value) (l : List Setting) (hs : a.eval s = v) (hown : OwnSettings B w v l) {S : Nat → Prop} (u : Value) (ys : List Setting) (hx : a.eval x = u) (hsrc : SettingsAt S w u ys)
    (hsz : l.length + ys.length ≤ 1000000) (hB : B ≤ w.heap.size)
    (hK : ∀ va vn vc w', OwnSettings B w' (.slice va vn vc) (l ++ ys) → Below B w w' → w.grownBy w' v.ownBlock → (Value.slice va vn vc = .slice none 0 0 → v = .slice none 0 0) → K (a.put o.dst (.slice va vn vc)) w') :
    if Region.wanted o (yielded ops a.tmps) = true then Oper.wp Tryz.prog o a w K Q else E := by
  have hw : Region.wanted o (yielded ops a.tmps) = true := by simp [Region.wanted, hg]
  rw [if_pos hw]
  obtain ⟨i, hii, hz0, hz1, hz2⟩ := info_of (t := 99) (z := .agg #[.string ⟨#[]⟩, .string ⟨#[]⟩, .string ⟨#[]⟩]) (n := 3) (b := 48) (by kernel_rfl)
  obtain ⟨_, ao, c, hv, hc⟩ := id hsrc
  by_cases h0 : 0 < ys.length
  · obtain ⟨b, off, rfl, _, _⟩ := hc h0
    subst hv
    refine wp_append_own w  s x 96 ho B 99 i (.agg #[.string ⟨#[]⟩, .string ⟨#[]⟩, .string ⟨#[]⟩]) 3 48 Tryz.underlying96 hii hz0 hz1 hz2 rfl (by decide) v l.length (SettingsRow l) hs hown ⟨b, off, none⟩ ys.length c (SettingsRow ys) hx (SettingsRow_length ys) hsrc.news (fun u hu => SettingsRow_one hu) ?_ ?_ hB ?_
    · unfold maxLen; omega
    · omega
    · intro v' w' h1 h2 h3
      have h4 : OwnSettings B w' v' (l ++ ys) := by
        unfold OwnSettings
        rw [SettingsRow_append, List.length_append]
        exact h1
      have h5 := (Below.refl _ w).grown h2 hB (OwnSettings.block hown)
      rcases h4.2 with ⟨rfl, _⟩ | ⟨g, cap, cur, rfl, _⟩
      · exact hK _ _ _ w' h4 h5 h2 (fun e => (h3.1 e).1)
      · exact hK _ _ _ w' h4 h5 h2 (fun e => (h3.1 e).1)
  · have hy : ys = [] := List.length_eq_zero_iff.1 (by omega)
    subst hy
    subst hv
    have hrun : (Builtin.append_ #[96, 96] o.type #[v, .slice ao 0 c]).run Tryz.prog w = .ok v w := run_append_zero Tryz.underlying96 hii v _ _ hown ao c
    unfold Oper.wp
    simp only [List.length_nil] at hx
    simp [execOp, ho, resolve, invoke, builtin, hs, hx, hrun, Result.andThen]
    obtain ⟨va, vc, hvv, _⟩ := hown.value
    subst hvv
    exact hK _ _ _ w (by simpa using hown) (Below.refl _ _) (grown_refl _ _) id
end Go.Proofs.YtcbabajfdihcdaaGreatDoor
