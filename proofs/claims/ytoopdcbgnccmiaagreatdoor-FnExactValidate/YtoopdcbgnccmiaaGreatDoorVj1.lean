/-
  Rows are marked, and held again. Copies are marked: which blocks are touched. What came in is opened. The law on Watch: its walk, over what both Watch answer. Rules as plain data; how large they are. No statement of the seat is proved here.
-/
import Derived.Test.YtoopdcbgnccmiaaGreatDoorVj0
import Derived.Deep.SlicePairs
import Derived.Deep.Cut
namespace Go.Proofs.YtoopdcbgnccmiaaGreatDoor
open Go.ChangeShapes Go.WideShapes Go.ChangeAt Go.RowKit
set_option linter.unusedVariables false
set_option linter.unusedSimpArgs false

/-- Of the blocks that were there, only some of S have turned. -/
structure OutS (S : Nat → Prop) (w w' : World) : Prop where
  os : w'.os = w.os
  tape : w'.tape = w.tape
  output : w'.output = w.output
  size : w.heap.size ≤ w'.heap.size
  block : ∀ k, k < w.heap.size → ¬ S k → w'.heap[k]? = w.heap[k]?
theorem OutS.refl (S : Nat → Prop) (w : World) : OutS S w w := ⟨rfl, rfl, rfl, Nat.le_refl _, fun _ _ _ => rfl⟩
theorem OutS.trans {S : Nat → Prop} {a b c : World} (h : OutS S a b) (k : OutS S b c) : OutS S a c :=
  ⟨k.os.trans h.os, k.tape.trans h.tape, k.output.trans h.output, Nat.le_trans h.size k.size, fun i hi hs => (k.block i (Nat.lt_of_lt_of_le hi h.size) hs).trans (h.block i hi hs)⟩
theorem OutS.mono {S S' : Nat → Prop} {a b : World} (h : OutS S a b) (hS : ∀ k, S k → S' k) : OutS S' a b :=
  ⟨h.os, h.tape, h.output, h.size, fun i hi hs => h.block i hi (fun h => hs (hS i h))⟩
theorem OutS.of {S : Nat → Prop} {a b : World} (h : Below a.heap.size a b) : OutS S a b := ⟨h.os, h.tape, h.output, h.size, fun i hi _ => h.block i hi⟩
theorem OutS.set {S : Nat → Prop} {a b : World} (h : OutS S a b) {g i : Nat} (hg : S g) (v : Value) : OutS S a (b.setCell ⟨g, i, none⟩ v) :=
  ⟨h.os, h.tape, h.output, by rw [World.size_setCell]; exact h.size, fun k hk hs => by rw [Below.heap_setCell _ _ _ _ (fun e => hs (by rw [e]; exact hg))]; exact h.block k hk hs⟩
theorem OutS.below {S : Nat → Prop} {a b : World} {B : Nat} (h : OutS S a b) (hS : ∀ k, S k → B ≤ k) (hB : B ≤ a.heap.size) : Below B a b :=
  ⟨h.os, h.tape, h.output, h.size, fun k hk => h.block k (by omega) (fun hs => by have := hS k hs; omega)⟩

/-- The block of a slice. -/
def BlkOf (v : Value) (b : Nat) : Prop := ∃ n c, v = .slice (some ⟨b, 0, none⟩) n c
theorem BlkOf.mk {b n c : Nat} : BlkOf (.slice (some ⟨b, 0, none⟩) n c) b := ⟨n, c, rfl⟩
theorem BlkOf.eq {g b n c : Nat} (h : BlkOf (.slice (some ⟨g, 0, none⟩) n c) b) : b = g := by
  obtain ⟨_, _, h⟩ := h
  injection h with h
  injection h with h
  injection h with h
  exact h.symm

/-- The digits of k ahead of acc. -/
def digs (k : Nat) (acc : List UInt8) : List UInt8 := if h : k = 0 then acc else digs (k / 10) (UInt8.ofNat (48 + k % 10) :: acc)
termination_by k
decreasing_by omega

theorem digs_zero (acc : List UInt8) : digs 0 acc = acc := by unfold digs; simp
theorem digs_pos {k : Nat} (h : k ≠ 0) (acc : List UInt8) : digs k acc = digs (k / 10) (UInt8.ofNat (48 + k % 10) :: acc) := by
  conv => lhs; unfold digs
  rw [dif_neg h]

/-- markText's text. -/
def markOf (k : Nat) : ByteArray := ⟨(109 :: digs k []).toArray⟩

set_option maxRecDepth 100000 in
set_option maxHeartbeats 400000 in
theorem lawText (k : Nat) (h0 : 0 < k) (hk : k ≤ 1000000000000000) (w : World) :
    Calls Tryz.prog 56 #[.int .i64 (k : Int)] w fun e w' => e = .returned (.string (markOf k)) ∧ Below w.heap.size w w' := by
  obtain ⟨D, hD⟩ : ∃ D, digs k [] = D := ⟨_, rfl⟩
  have HD : Hid (digs k [] = D) := hD
  unfold markOf
  rw [hD]
  clear hD
  have hkb : decide (k = 0) = false := by simp; omega
  go_enter Tryz.func56, Tryz.ntmps56
  go_wp2

  go_loopw [0, 3] (fun i0 i3 wr => ∃ (n : Nat) (acc : List UInt8), i0 = .int .i64 (n : Int) ∧ i3 = .string ⟨acc.toArray⟩ ∧ acc.length + n ≤ 1000000000000000 ∧ digs n acc = D ∧ Below w.heap.size w wr) (fun i0 _ _ => (intOf i0).toNat)
  case atStart => exact ⟨k, [], rfl, rfl, by simpa using hk, HD, Below.refl _ _⟩
  case round =>
    obtain ⟨n, acc, rfl, rfl, hb, hd, hB⟩ := hrel
    have HDg : Hid (digs n acc = D) := hd
    clear hd HD
    by_cases hn : n = 0
    · subst hn
      go_wp2
      go_ret
      refine ⟨?_, hB⟩
      rw [← HDg.out, digs_zero]
      congr 2
    · have hn' : (0 : Int) < (n : Int) := by omega
      have hown : OwnB w.heap.size (wr.alloc (.cells #[.int .u8 (48 + (n : Int) % 10)] 5)) (.slice (some ⟨wr.heap.size, 0, none⟩) 1 1) [UInt8.ofNat (48 + n % 10)] := by
        refine ⟨rfl, .inr ⟨wr.heap.size, 1, _, rfl, hB.size, heap_alloc_last wr _, by simp, by decide, rfl, ?_⟩⟩
        simp [bv]
        omega
      obtain ⟨c, hc⟩ : ∃ c, UInt8.ofNat (48 + n % 10) = c := ⟨_, rfl⟩
      have HS : Hid (digs (n / 10) (c :: acc) = D) := by
        show _ = _
        rw [← hc, ← digs_pos hn acc]; exact HDg
      rw [hc] at hown
      clear hc HDg
      go_wp2_with (refine wpList_stringOf rfl 147 9 (.tmp 12) rfl Tryz.underlying9 Tryz.underlying147 Tryz.underlying5 w.heap.size _ _ rfl hown ?_)
      go_roundw
      case rel => exact ⟨n / 10, c :: acc, by go_num, by congr 1, by simp; omega, HS, hB.alloc hB.size _⟩
      case measure => simp [intOf]; omega


def ChangesCells (x : Change) : List Value := [.string x.path, .string x.old, .string x.new']
def ChangesRow (l : List Change) : List Value := l.flatMap ChangesCells
theorem ChangesRow_length (l : List Change) : (ChangesRow l).length = l.length * 3 := by
  induction l with
  | nil => rfl
  | cons a t ih => simp only [ChangesRow, List.flatMap_cons, List.length_append, List.length_cons] at ih ⊢; rw [ih]; simp [ChangesCells] <;> omega
theorem ChangesRow_append (l k : List Change) : ChangesRow (l ++ k) = ChangesRow l ++ ChangesRow k := by simp [ChangesRow]
theorem ChangesRow_one {l : List Change} {u : Value} (hu : u ∈ ChangesRow l) : u.oneCell' = true := by
  obtain ⟨x, _, hx⟩ := List.mem_flatMap.1 hu
  simp only [ChangesCells, List.mem_cons, List.mem_nil_iff, or_false] at hx
  rcases hx with rfl | rfl | rfl <;> rfl
theorem ChangesRow_at (l : List Change) (k : Nat) (hk : k < l.length) : (ChangesRow l)[k * 3]? = some (.string l[k].path) ∧ (ChangesRow l)[k * 3 + 1]? = some (.string l[k].old) ∧ (ChangesRow l)[k * 3 + 2]? = some (.string l[k].new') := by
  induction l generalizing k with
  | nil => simp at hk
  | cons a t ih =>
    have hc : ChangesRow (a :: t) = ChangesCells a ++ ChangesRow t := by simp [ChangesRow]
    rw [hc]
    cases k with
    | zero => simp [ChangesCells]
    | succ k =>
      rw [List.getElem?_append_right (by simp [ChangesCells] <;> omega), List.getElem?_append_right (by simp [ChangesCells] <;> omega), List.getElem?_append_right (by simp [ChangesCells] <;> omega)]
      have e0 : (k + 1) * 3 - (ChangesCells a).length = k * 3 := by simp [ChangesCells] <;> omega
      have e1 : (k + 1) * 3 + 1 - (ChangesCells a).length = k * 3 + 1 := by simp [ChangesCells] <;> omega
      have e2 : (k + 1) * 3 + 2 - (ChangesCells a).length = k * 3 + 2 := by simp [ChangesCells] <;> omega
      rw [e0, e1, e2]
      simpa using ih k (by simpa using hk)
/-- A row of one's own. -/
def OwnChanges (B : Nat) (w : World) (v : Value) (l : List Change) : Prop := w.ownsRow B 113 3 v l.length (ChangesRow l)
theorem OwnChanges.below {B : Nat} {w w' : World} {v : Value} {l : List Change} (h : OwnChanges B w v l) (hb : Below w.heap.size w w') : OwnChanges B w' v l := by
  obtain ⟨hl, h⟩ := h
  refine ⟨hl, ?_⟩
  rcases h with h | ⟨g, cap, cur, hv, hB, hg, h1, h2, h3, h4⟩
  · exact .inl h
  · refine .inr ⟨g, cap, cur, hv, hB, ?_, h1, h2, h3, h4⟩
    rw [hb.block g (Array.getElem?_eq_some_iff.1 hg).1]; exact hg
theorem OwnChanges.mono {B B' : Nat} {w : World} {v : Value} {l : List Change} (h : OwnChanges B w v l) (hB : B' ≤ B) : OwnChanges B' w v l := by
  obtain ⟨hl, h⟩ := h
  refine ⟨hl, ?_⟩
  rcases h with h | ⟨g, cap, cur, hv, hg, h1⟩
  · exact .inl h
  · exact .inr ⟨g, cap, cur, hv, Nat.le_trans hB hg, h1⟩
theorem OwnChanges.value {B : Nat} {w : World} {v : Value} {l : List Change} (h : OwnChanges B w v l) :
    ∃ a cap, v = .slice a l.length cap ∧ l.length ≤ maxLen ∧ (0 < l.length → ∃ g, a = some ⟨g, 0, none⟩ ∧ B ≤ g ∧ g < w.heap.size ∧ ∀ j (hj : j < l.length), w.cell? ⟨g, j * 3, none⟩ = some (.string l[j].path) ∧ w.cell? ⟨g, j * 3 + 1, none⟩ = some (.string l[j].old) ∧ w.cell? ⟨g, j * 3 + 2, none⟩ = some (.string l[j].new')) := by
  rcases h.2 with ⟨rfl, h0⟩ | ⟨g, cap, cur, rfl, hB, hg, h1, h2, h3, h4⟩
  · exact ⟨none, 0, by rw [h0], by omega, fun h => by omega⟩
  · refine ⟨_, cap, rfl, by omega, fun _ => ⟨g, rfl, hB, (Array.getElem?_eq_some_iff.1 hg).1, fun j hj => ?_⟩⟩
    simp only [World.cell?, hg]
    have h5 := ChangesRow_at l j hj
    rw [← h4, List.getElem?_take, List.getElem?_take, List.getElem?_take, if_pos (by omega), if_pos (by omega), if_pos (by omega)] at h5
    simpa using h5
theorem OwnChanges.at {B : Nat} {w : World} {v : Value} {l : List Change} (h : OwnChanges B w v l) : ChangesAt (fun b => B ≤ b ∧ b < w.heap.size) w v l := by
  obtain ⟨a, cap, hv, hl, hc⟩ := h.value
  refine ⟨hl, a, cap, hv, fun h0 => ?_⟩
  obtain ⟨g, rfl, hB, hg, hcell⟩ := hc h0
  refine ⟨g, 0, rfl, ⟨hB, hg⟩, fun i hi => ?_⟩
  simpa using hcell i hi
theorem OwnChanges.out {B : Nat} {S : Nat → Prop} {w w' : World} {v : Value} {l : List Change} (h : OwnChanges B w v l) (ho : OutS S w w') (hS : ∀ b, S b → b < B) : OwnChanges B w' v l := by
  obtain ⟨hl, h⟩ := h
  refine ⟨hl, ?_⟩
  rcases h with h | ⟨g, cap, cur, hv, hB, hg, h1⟩
  · exact .inl h
  · refine .inr ⟨g, cap, cur, hv, hB, ?_, h1⟩
    rw [ho.block g (Array.getElem?_eq_some_iff.1 hg).1 (fun hs => by have := hS g hs; omega)]; exact hg
theorem OwnChanges.blk {B b : Nat} {w : World} {v : Value} {l : List Change} (h : OwnChanges B w v l) (hb : BlkOf v b) : B ≤ b := by
  rcases h.2 with ⟨rfl, _⟩ | ⟨g, cap, cur, rfl, hB, _⟩
  · obtain ⟨_, _, h⟩ := hb; simp at h
  · rw [hb.eq]; exact hB
def SettingsCells (x : Setting) : List Value := [.string x.path, .string x.text, .string x.from']
def SettingsRow (l : List Setting) : List Value := l.flatMap SettingsCells
theorem SettingsRow_length (l : List Setting) : (SettingsRow l).length = l.length * 3 := by
  induction l with
  | nil => rfl
  | cons a t ih => simp only [SettingsRow, List.flatMap_cons, List.length_append, List.length_cons] at ih ⊢; rw [ih]; simp [SettingsCells] <;> omega
theorem SettingsRow_append (l k : List Setting) : SettingsRow (l ++ k) = SettingsRow l ++ SettingsRow k := by simp [SettingsRow]
theorem SettingsRow_one {l : List Setting} {u : Value} (hu : u ∈ SettingsRow l) : u.oneCell' = true := by
  obtain ⟨x, _, hx⟩ := List.mem_flatMap.1 hu
  simp only [SettingsCells, List.mem_cons, List.mem_nil_iff, or_false] at hx
  rcases hx with rfl | rfl | rfl <;> rfl
theorem SettingsRow_at (l : List Setting) (k : Nat) (hk : k < l.length) : (SettingsRow l)[k * 3]? = some (.string l[k].path) ∧ (SettingsRow l)[k * 3 + 1]? = some (.string l[k].text) ∧ (SettingsRow l)[k * 3 + 2]? = some (.string l[k].from') := by
  induction l generalizing k with
  | nil => simp at hk
  | cons a t ih =>
    have hc : SettingsRow (a :: t) = SettingsCells a ++ SettingsRow t := by simp [SettingsRow]
    rw [hc]
    cases k with
    | zero => simp [SettingsCells]
    | succ k =>
      rw [List.getElem?_append_right (by simp [SettingsCells] <;> omega), List.getElem?_append_right (by simp [SettingsCells] <;> omega), List.getElem?_append_right (by simp [SettingsCells] <;> omega)]
      have e0 : (k + 1) * 3 - (SettingsCells a).length = k * 3 := by simp [SettingsCells] <;> omega
      have e1 : (k + 1) * 3 + 1 - (SettingsCells a).length = k * 3 + 1 := by simp [SettingsCells] <;> omega
      have e2 : (k + 1) * 3 + 2 - (SettingsCells a).length = k * 3 + 2 := by simp [SettingsCells] <;> omega
      rw [e0, e1, e2]
      simpa using ih k (by simpa using hk)
/-- A row of one's own. -/
def OwnSettings (B : Nat) (w : World) (v : Value) (l : List Setting) : Prop := w.ownsRow B 81 3 v l.length (SettingsRow l)
theorem OwnSettings.below {B : Nat} {w w' : World} {v : Value} {l : List Setting} (h : OwnSettings B w v l) (hb : Below w.heap.size w w') : OwnSettings B w' v l := by
  obtain ⟨hl, h⟩ := h
  refine ⟨hl, ?_⟩
  rcases h with h | ⟨g, cap, cur, hv, hB, hg, h1, h2, h3, h4⟩
  · exact .inl h
  · refine .inr ⟨g, cap, cur, hv, hB, ?_, h1, h2, h3, h4⟩
    rw [hb.block g (Array.getElem?_eq_some_iff.1 hg).1]; exact hg
theorem OwnSettings.mono {B B' : Nat} {w : World} {v : Value} {l : List Setting} (h : OwnSettings B w v l) (hB : B' ≤ B) : OwnSettings B' w v l := by
  obtain ⟨hl, h⟩ := h
  refine ⟨hl, ?_⟩
  rcases h with h | ⟨g, cap, cur, hv, hg, h1⟩
  · exact .inl h
  · exact .inr ⟨g, cap, cur, hv, Nat.le_trans hB hg, h1⟩
theorem OwnSettings.value {B : Nat} {w : World} {v : Value} {l : List Setting} (h : OwnSettings B w v l) :
    ∃ a cap, v = .slice a l.length cap ∧ l.length ≤ maxLen ∧ (0 < l.length → ∃ g, a = some ⟨g, 0, none⟩ ∧ B ≤ g ∧ g < w.heap.size ∧ ∀ j (hj : j < l.length), w.cell? ⟨g, j * 3, none⟩ = some (.string l[j].path) ∧ w.cell? ⟨g, j * 3 + 1, none⟩ = some (.string l[j].text) ∧ w.cell? ⟨g, j * 3 + 2, none⟩ = some (.string l[j].from')) := by
  rcases h.2 with ⟨rfl, h0⟩ | ⟨g, cap, cur, rfl, hB, hg, h1, h2, h3, h4⟩
  · exact ⟨none, 0, by rw [h0], by omega, fun h => by omega⟩
  · refine ⟨_, cap, rfl, by omega, fun _ => ⟨g, rfl, hB, (Array.getElem?_eq_some_iff.1 hg).1, fun j hj => ?_⟩⟩
    simp only [World.cell?, hg]
    have h5 := SettingsRow_at l j hj
    rw [← h4, List.getElem?_take, List.getElem?_take, List.getElem?_take, if_pos (by omega), if_pos (by omega), if_pos (by omega)] at h5
    simpa using h5
theorem OwnSettings.at {B : Nat} {w : World} {v : Value} {l : List Setting} (h : OwnSettings B w v l) : SettingsAt (fun b => B ≤ b ∧ b < w.heap.size) w v l := by
  obtain ⟨a, cap, hv, hl, hc⟩ := h.value
  refine ⟨hl, a, cap, hv, fun h0 => ?_⟩
  obtain ⟨g, rfl, hB, hg, hcell⟩ := hc h0
  refine ⟨g, 0, rfl, ⟨hB, hg⟩, fun i hi => ?_⟩
  simpa using hcell i hi
theorem OwnSettings.out {B : Nat} {S : Nat → Prop} {w w' : World} {v : Value} {l : List Setting} (h : OwnSettings B w v l) (ho : OutS S w w') (hS : ∀ b, S b → b < B) : OwnSettings B w' v l := by
  obtain ⟨hl, h⟩ := h
  refine ⟨hl, ?_⟩
  rcases h with h | ⟨g, cap, cur, hv, hB, hg, h1⟩
  · exact .inl h
  · refine .inr ⟨g, cap, cur, hv, hB, ?_, h1⟩
    rw [ho.block g (Array.getElem?_eq_some_iff.1 hg).1 (fun hs => by have := hS g hs; omega)]; exact hg
theorem OwnSettings.blk {B b : Nat} {w : World} {v : Value} {l : List Setting} (h : OwnSettings B w v l) (hb : BlkOf v b) : B ≤ b := by
  rcases h.2 with ⟨rfl, _⟩ | ⟨g, cap, cur, rfl, hB, _⟩
  · obtain ⟨_, _, h⟩ := hb; simp at h
  · rw [hb.eq]; exact hB
def TxtsCells (x : ByteArray) : List Value := [.string x]
def TxtsRow (l : List ByteArray) : List Value := l.flatMap TxtsCells
theorem TxtsRow_length (l : List ByteArray) : (TxtsRow l).length = l.length * 1 := by
  induction l with
  | nil => rfl
  | cons a t ih => simp only [TxtsRow, List.flatMap_cons, List.length_append, List.length_cons] at ih ⊢; rw [ih]; simp [TxtsCells] <;> omega
theorem TxtsRow_append (l k : List ByteArray) : TxtsRow (l ++ k) = TxtsRow l ++ TxtsRow k := by simp [TxtsRow]
theorem TxtsRow_one {l : List ByteArray} {u : Value} (hu : u ∈ TxtsRow l) : u.oneCell' = true := by
  obtain ⟨x, _, hx⟩ := List.mem_flatMap.1 hu
  simp only [TxtsCells, List.mem_cons, List.mem_nil_iff, or_false] at hx
  subst hx; rfl
theorem TxtsRow_at (l : List ByteArray) (k : Nat) (hk : k < l.length) : (TxtsRow l)[k]? = some (.string l[k]) := by
  induction l generalizing k with
  | nil => simp at hk
  | cons a t ih =>
    have hc : TxtsRow (a :: t) = TxtsCells a ++ TxtsRow t := by simp [TxtsRow]
    rw [hc]
    cases k with
    | zero => simp [TxtsCells]
    | succ k =>
      rw [List.getElem?_append_right (by simp [TxtsCells] <;> omega)]
      have e0 : (k + 1) - (TxtsCells a).length = k := by simp [TxtsCells] <;> omega
      rw [e0]
      simpa using ih k (by simpa using hk)
/-- A row of one's own. -/
def OwnTxts (B : Nat) (w : World) (v : Value) (l : List ByteArray) : Prop := w.ownsRow B 9 1 v l.length (TxtsRow l)
theorem OwnTxts.below {B : Nat} {w w' : World} {v : Value} {l : List ByteArray} (h : OwnTxts B w v l) (hb : Below w.heap.size w w') : OwnTxts B w' v l := by
  obtain ⟨hl, h⟩ := h
  refine ⟨hl, ?_⟩
  rcases h with h | ⟨g, cap, cur, hv, hB, hg, h1, h2, h3, h4⟩
  · exact .inl h
  · refine .inr ⟨g, cap, cur, hv, hB, ?_, h1, h2, h3, h4⟩
    rw [hb.block g (Array.getElem?_eq_some_iff.1 hg).1]; exact hg
theorem OwnTxts.mono {B B' : Nat} {w : World} {v : Value} {l : List ByteArray} (h : OwnTxts B w v l) (hB : B' ≤ B) : OwnTxts B' w v l := by
  obtain ⟨hl, h⟩ := h
  refine ⟨hl, ?_⟩
  rcases h with h | ⟨g, cap, cur, hv, hg, h1⟩
  · exact .inl h
  · exact .inr ⟨g, cap, cur, hv, Nat.le_trans hB hg, h1⟩
theorem OwnTxts.value {B : Nat} {w : World} {v : Value} {l : List ByteArray} (h : OwnTxts B w v l) :
    ∃ a cap, v = .slice a l.length cap ∧ l.length ≤ maxLen ∧ (0 < l.length → ∃ g, a = some ⟨g, 0, none⟩ ∧ B ≤ g ∧ g < w.heap.size ∧ ∀ j (hj : j < l.length), w.cell? ⟨g, j, none⟩ = some (.string l[j])) := by
  rcases h.2 with ⟨rfl, h0⟩ | ⟨g, cap, cur, rfl, hB, hg, h1, h2, h3, h4⟩
  · exact ⟨none, 0, by rw [h0], by omega, fun h => by omega⟩
  · refine ⟨_, cap, rfl, by omega, fun _ => ⟨g, rfl, hB, (Array.getElem?_eq_some_iff.1 hg).1, fun j hj => ?_⟩⟩
    simp only [World.cell?, hg]
    have h5 := TxtsRow_at l j hj
    rw [← h4, List.getElem?_take, if_pos (by omega)] at h5
    simpa using h5
theorem OwnTxts.at {B : Nat} {w : World} {v : Value} {l : List ByteArray} (h : OwnTxts B w v l) : TxtsAt (fun b => B ≤ b ∧ b < w.heap.size) w v l := by
  obtain ⟨a, cap, hv, hl, hc⟩ := h.value
  refine ⟨hl, a, cap, hv, fun h0 => ?_⟩
  obtain ⟨g, rfl, hB, hg, hcell⟩ := hc h0
  refine ⟨g, 0, rfl, ⟨hB, hg⟩, fun i hi => ?_⟩
  simpa using hcell i hi
theorem OwnTxts.out {B : Nat} {S : Nat → Prop} {w w' : World} {v : Value} {l : List ByteArray} (h : OwnTxts B w v l) (ho : OutS S w w') (hS : ∀ b, S b → b < B) : OwnTxts B w' v l := by
  obtain ⟨hl, h⟩ := h
  refine ⟨hl, ?_⟩
  rcases h with h | ⟨g, cap, cur, hv, hB, hg, h1⟩
  · exact .inl h
  · refine .inr ⟨g, cap, cur, hv, hB, ?_, h1⟩
    rw [ho.block g (Array.getElem?_eq_some_iff.1 hg).1 (fun hs => by have := hS g hs; omega)]; exact hg
theorem OwnTxts.blk {B b : Nat} {w : World} {v : Value} {l : List ByteArray} (h : OwnTxts B w v l) (hb : BlkOf v b) : B ≤ b := by
  rcases h.2 with ⟨rfl, _⟩ | ⟨g, cap, cur, rfl, hB, _⟩
  · obtain ⟨_, _, h⟩ := hb; simp at h
  · rw [hb.eq]; exact hB
/-- The first m are marked from s on. -/
def MarkEntrys (cur : Array Value) (m s : Nat) : Prop := ∀ i, i < m → cur[i * 2]? = some (.string (markOf (s + 2 * i))) ∧ cur[i * 2 + 1]? = some (.string (markOf (s + 2 * i + 1)))
theorem MarkEntrys.step {cur : Array Value} {k s : Nat} (h : MarkEntrys cur k s) (hc : k * 2 + 1 < cur.size) :
    MarkEntrys ((cur.setIfInBounds (k * 2) (.string (markOf (s + 2 * k)))).setIfInBounds (k * 2 + 1) (.string (markOf (s + 2 * k + 1)))) (k + 1) s := by
  intro i hi
  simp only [Array.getElem?_setIfInBounds, Array.size_setIfInBounds]
  by_cases hik : i = k
  · subst hik
    refine ⟨?_, ?_⟩
    · rw [if_neg (by omega), if_pos rfl, if_pos (by omega)]
    · rw [if_pos rfl, if_pos (by omega)]
  · have := h i (by omega)
    rw [if_neg (by omega), if_neg (by omega), if_neg (by omega), if_neg (by omega)]
    exact this
/-- The slice v has m of these, in the block g of its own that holds cu, or has none. -/
def MkEntrys (hp : Prop) (w : World) (v : Value) (g m : Nat) (cu : Array Value) : Prop := (¬ hp ∧ v = .slice none 0 0 ∧ m = 0) ∨ (hp ∧ ∃ cap, v = .slice (some ⟨g, 0, none⟩) m cap ∧ Blk w g 137 cu ∧ m * 2 ≤ cu.size)
def MkdEntrys (w : World) (v : Value) (m s : Nat) : Prop := (v = .slice none 0 0 ∧ m = 0) ∨ ∃ g cap cur, v = .slice (some ⟨g, 0, none⟩) m cap ∧ Blk w g 137 cur ∧ MarkEntrys cur m s
theorem MkdEntrys.below {w w' : World} {v : Value} {m s : Nat} (h : MkdEntrys w v m s) (hb : Below w.heap.size w w') : MkdEntrys w' v m s := by
  rcases h with h | ⟨g, cap, cur, h1, h2, h3⟩
  · exact .inl h
  · exact .inr ⟨g, cap, cur, h1, h2.below hb, h3⟩
set_option maxRecDepth 100000 in
set_option maxHeartbeats 2000000 in
theorem markEntryS {hp : Prop} {g m : Nat} {v : Value} {cu : Array Value} {w : World} (s : Nat) (hs0 : 0 < s) (hs1 : s ≤ 100000000000000) (hm : m ≤ 1048576) (h : MkEntrys hp w v g m cu) :
    Calls Tryz.prog 57 #[v, .int .i64 s] w fun e w' => e = .returned (.int .i64 (s + 2 * m : Nat)) ∧ OutS (BlkOf v) w w' ∧ (hp → ∃ cur, Blk w' g 137 cur ∧ cur.size = cu.size ∧ MarkEntrys cur m s) := by
  have e1 : ∃ a1 c1, v = .slice a1 m c1 ∧ (0 < m → hp) ∧ (hp → a1 = some ⟨g, 0, none⟩ ∧ Blk w g 137 cu ∧ m * 2 ≤ cu.size) := by
    rcases h with ⟨hn, rfl, rfl⟩ | ⟨hy, cap, rfl, hg, hz⟩
    · exact ⟨none, 0, rfl, fun h => by omega, fun h => absurd h hn⟩
    · exact ⟨_, cap, rfl, fun _ => hy, fun _ => ⟨rfl, hg, hz⟩⟩
  obtain ⟨a1, c1, rfl, q0, q⟩ := e1
  have QP : Hid (0 < m → hp) := q0
  have QQ : Hid _ := q
  clear h
  go_enter Tryz.func57, Tryz.ntmps57
  go_wp2
  go_loopw [1, 5] (fun i1 i5 wr => ∃ k : Nat, i1 = .int .i64 (s + 2 * k : Nat) ∧ i5 = .int .i64 (k : Int) ∧ k ≤ m ∧ OutS (BlkOf (.slice a1 m c1)) w wr ∧ (hp → ∃ cur, Blk wr g 137 cur ∧ cur.size = cu.size ∧ MarkEntrys cur k s)) (fun _ i5 _ => m - (intOf i5).toNat)
  case atStart => exact ⟨0, rfl, rfl, by omega, OutS.refl _ _, fun hq => ⟨cu, (QQ.out hq).2.1, rfl, fun i hi => by omega⟩⟩
  case round =>
    obtain ⟨k, rfl, rfl, hk, hB, hq⟩ := hrel
    by_cases hkn : k < m
    · have hkn' : (k : Int) < (m : Int) := by omega
      obtain ⟨rfl, _, hz⟩ := QQ.out (QP.out (by omega))
      obtain ⟨cur, hblk, hsz, hmc⟩ := hq (QP.out (by omega))
      have z0 : k * 2 < cur.size := by omega
      have z1 : k * 2 + 1 < cur.size := by omega
      have HM : Hid _ := hmc.step z1
      have HB0 : Hid (Blk wr g 137 cur) := hblk
      have ct0 := lawText (s + 2 * k) (by omega) (by omega)
      rw [show ((s + 2 * k : Nat) : Int) = (s : Int) + 2 * (k : Int) by omega] at ct0
      obtain ⟨M0, hM0⟩ : ∃ M, markOf (s + 2 * k) = M := ⟨_, rfl⟩
      rw [hM0] at ct0 HM
      clear hM0
      have ct1 := lawText (s + 2 * k + 1) (by omega) (by omega)
      rw [show ((s + 2 * k + 1 : Nat) : Int) = (s : Int) + 2 * (k : Int) + 1 by omega] at ct1
      obtain ⟨M1, hM1⟩ : ∃ M, markOf (s + 2 * k + 1) = M := ⟨_, rfl⟩
      rw [hM1] at ct1 HM
      clear hM1
      clear hmc hblk
      go_wp2_with (first
        | (go_at_call 56; have hchk := hb_0; (refine (ct1 _).mono ?_; rintro e w_1 ⟨rfl, hB_1⟩; have hb_1 := Blk.below (hb_0.set (k * 2) _) hB_1; have ho_1 := OutS.trans (ho_0.set .mk _) (OutS.of hB_1); have c1_0 := hb_1.cell (k * 2); have c1_1 := hb_1.cell (k * 2 + 1); rw [Array.getElem?_eq_getElem (by first | exact z0 | (simp only [Array.size_setIfInBounds]; exact z0))] at c1_0; rw [Array.getElem?_eq_getElem (by first | exact z1 | (simp only [Array.size_setIfInBounds]; exact z1))] at c1_1; have f1_0 := hb_1.fro (k * 2); have f1_1 := hb_1.fro (k * 2 + 1)))
        | (go_at_call 56; go_must (refine (ct0 _).mono ?_; rintro e w_0 ⟨rfl, hB_0⟩; have hb_0 := Blk.below HB0.out hB_0; have ho_0 := OutS.trans hB (OutS.of hB_0); have c0_0 := hb_0.cell (k * 2); have c0_1 := hb_0.cell (k * 2 + 1); rw [Array.getElem?_eq_getElem (by first | exact z0 | (simp only [Array.size_setIfInBounds]; exact z0))] at c0_0; rw [Array.getElem?_eq_getElem (by first | exact z1 | (simp only [Array.size_setIfInBounds]; exact z1))] at c0_1; have f0_0 := hb_0.fro (k * 2); have f0_1 := hb_0.fro (k * 2 + 1))))
      exact ⟨⟨k + 1, by congr 1 <;> omega, rfl, by omega, (ho_1.set .mk _), fun _ => ⟨_, (hb_1.set (k * 2 + 1) _), by simp [hsz], HM.out⟩⟩, by simp [intOf]; omega⟩
    · have hkn' : ¬ ((k : Int) < (m : Int)) := by omega
      obtain rfl : k = m := by omega
      go_wp2_with fail
      go_ret
      exact ⟨by go_num, hB, hq⟩
/-- The first m are marked from s on. -/
def MarkTxts (cur : Array Value) (m s : Nat) : Prop := ∀ i, i < m → cur[i]? = some (.string (markOf (s + i)))
theorem MarkTxts.step {cur : Array Value} {k s : Nat} (h : MarkTxts cur k s) (hc : k < cur.size) :
    MarkTxts (cur.setIfInBounds (k) (.string (markOf (s + k)))) (k + 1) s := by
  intro i hi
  simp only [Array.getElem?_setIfInBounds, Array.size_setIfInBounds]
  by_cases hik : i = k
  · subst hik
    · rw [if_pos rfl, if_pos (by omega)]
  · have := h i (by omega)
    rw [if_neg (by omega)]
    exact this
/-- The slice v has m of these, in the block g of its own that holds cu, or has none. -/
def MkTxts (hp : Prop) (w : World) (v : Value) (g m : Nat) (cu : Array Value) : Prop := (¬ hp ∧ v = .slice none 0 0 ∧ m = 0) ∨ (hp ∧ ∃ cap, v = .slice (some ⟨g, 0, none⟩) m cap ∧ Blk w g 9 cu ∧ m * 1 ≤ cu.size)
def MkdTxts (w : World) (v : Value) (m s : Nat) : Prop := (v = .slice none 0 0 ∧ m = 0) ∨ ∃ g cap cur, v = .slice (some ⟨g, 0, none⟩) m cap ∧ Blk w g 9 cur ∧ MarkTxts cur m s
theorem MkdTxts.below {w w' : World} {v : Value} {m s : Nat} (h : MkdTxts w v m s) (hb : Below w.heap.size w w') : MkdTxts w' v m s := by
  rcases h with h | ⟨g, cap, cur, h1, h2, h3⟩
  · exact .inl h
  · exact .inr ⟨g, cap, cur, h1, h2.below hb, h3⟩
set_option maxRecDepth 100000 in
set_option maxHeartbeats 2000000 in
theorem markStringS {hp : Prop} {g m : Nat} {v : Value} {cu : Array Value} {w : World} (s : Nat) (hs0 : 0 < s) (hs1 : s ≤ 100000000000000) (hm : m ≤ 1048576) (h : MkTxts hp w v g m cu) :
    Calls Tryz.prog 28 #[v, .int .i64 s] w fun e w' => e = .returned (.int .i64 (s + m : Nat)) ∧ OutS (BlkOf v) w w' ∧ (hp → ∃ cur, Blk w' g 9 cur ∧ cur.size = cu.size ∧ MarkTxts cur m s) := by
  have e1 : ∃ a1 c1, v = .slice a1 m c1 ∧ (0 < m → hp) ∧ (hp → a1 = some ⟨g, 0, none⟩ ∧ Blk w g 9 cu ∧ m * 1 ≤ cu.size) := by
    rcases h with ⟨hn, rfl, rfl⟩ | ⟨hy, cap, rfl, hg, hz⟩
    · exact ⟨none, 0, rfl, fun h => by omega, fun h => absurd h hn⟩
    · exact ⟨_, cap, rfl, fun _ => hy, fun _ => ⟨rfl, hg, hz⟩⟩
  obtain ⟨a1, c1, rfl, q0, q⟩ := e1
  have QP : Hid (0 < m → hp) := q0
  have QQ : Hid _ := q
  clear h
  go_enter Tryz.func28, Tryz.ntmps28
  go_wp2
  go_loopw [1, 5] (fun i1 i5 wr => ∃ k : Nat, i1 = .int .i64 (s + k : Nat) ∧ i5 = .int .i64 (k : Int) ∧ k ≤ m ∧ OutS (BlkOf (.slice a1 m c1)) w wr ∧ (hp → ∃ cur, Blk wr g 9 cur ∧ cur.size = cu.size ∧ MarkTxts cur k s)) (fun _ i5 _ => m - (intOf i5).toNat)
  case atStart => exact ⟨0, rfl, rfl, by omega, OutS.refl _ _, fun hq => ⟨cu, (QQ.out hq).2.1, rfl, fun i hi => by omega⟩⟩
  case round =>
    obtain ⟨k, rfl, rfl, hk, hB, hq⟩ := hrel
    by_cases hkn : k < m
    · have hkn' : (k : Int) < (m : Int) := by omega
      obtain ⟨rfl, _, hz⟩ := QQ.out (QP.out (by omega))
      obtain ⟨cur, hblk, hsz, hmc⟩ := hq (QP.out (by omega))
      have z0 : k < cur.size := by omega
      have HM : Hid _ := hmc.step z0
      have HB0 : Hid (Blk wr g 9 cur) := hblk
      have ct0 := lawText (s + k) (by omega) (by omega)
      rw [show ((s + k : Nat) : Int) = (s : Int) + (k : Int) by omega] at ct0
      obtain ⟨M0, hM0⟩ : ∃ M, markOf (s + k) = M := ⟨_, rfl⟩
      rw [hM0] at ct0 HM
      clear hM0
      clear hmc hblk
      go_wp2_with (go_at_call 56; go_must (refine (ct0 _).mono ?_; rintro e w_0 ⟨rfl, hB_0⟩; have hb_0 := Blk.below HB0.out hB_0; have ho_0 := OutS.trans hB (OutS.of hB_0); have c0_0 := hb_0.cell (k); rw [Array.getElem?_eq_getElem (by first | exact z0 | (simp only [Array.size_setIfInBounds]; exact z0))] at c0_0; have f0_0 := hb_0.fro (k)))
      exact ⟨⟨k + 1, by congr 1 <;> omega, rfl, by omega, (ho_0.set .mk _), fun _ => ⟨_, (hb_0.set (k) _), by simp [hsz], HM.out⟩⟩, by simp [intOf]; omega⟩
    · have hkn' : ¬ ((k : Int) < (m : Int)) := by omega
      obtain rfl : k = m := by omega
      go_wp2_with fail
      go_ret
      exact ⟨by go_num, hB, hq⟩
/-- The first m are marked from s on. -/
def MarkChanges (cur : Array Value) (m s : Nat) : Prop := ∀ i, i < m → cur[i * 3]? = some (.string (markOf (s + 3 * i))) ∧ cur[i * 3 + 1]? = some (.string (markOf (s + 3 * i + 1))) ∧ cur[i * 3 + 2]? = some (.string (markOf (s + 3 * i + 2)))
theorem MarkChanges.step {cur : Array Value} {k s : Nat} (h : MarkChanges cur k s) (hc : k * 3 + 2 < cur.size) :
    MarkChanges (((cur.setIfInBounds (k * 3) (.string (markOf (s + 3 * k)))).setIfInBounds (k * 3 + 1) (.string (markOf (s + 3 * k + 1)))).setIfInBounds (k * 3 + 2) (.string (markOf (s + 3 * k + 2)))) (k + 1) s := by
  intro i hi
  simp only [Array.getElem?_setIfInBounds, Array.size_setIfInBounds]
  by_cases hik : i = k
  · subst hik
    refine ⟨?_, ?_, ?_⟩
    · rw [if_neg (by omega), if_neg (by omega), if_pos rfl, if_pos (by omega)]
    · rw [if_neg (by omega), if_pos rfl, if_pos (by omega)]
    · rw [if_pos rfl, if_pos (by omega)]
  · have := h i (by omega)
    rw [if_neg (by omega), if_neg (by omega), if_neg (by omega), if_neg (by omega), if_neg (by omega), if_neg (by omega), if_neg (by omega), if_neg (by omega), if_neg (by omega)]
    exact this
/-- The slice v has m of these, in the block g of its own that holds cu, or has none. -/
def MkChanges (hp : Prop) (w : World) (v : Value) (g m : Nat) (cu : Array Value) : Prop := (¬ hp ∧ v = .slice none 0 0 ∧ m = 0) ∨ (hp ∧ ∃ cap, v = .slice (some ⟨g, 0, none⟩) m cap ∧ Blk w g 113 cu ∧ m * 3 ≤ cu.size)
def MkdChanges (w : World) (v : Value) (m s : Nat) : Prop := (v = .slice none 0 0 ∧ m = 0) ∨ ∃ g cap cur, v = .slice (some ⟨g, 0, none⟩) m cap ∧ Blk w g 113 cur ∧ MarkChanges cur m s
theorem MkdChanges.below {w w' : World} {v : Value} {m s : Nat} (h : MkdChanges w v m s) (hb : Below w.heap.size w w') : MkdChanges w' v m s := by
  rcases h with h | ⟨g, cap, cur, h1, h2, h3⟩
  · exact .inl h
  · exact .inr ⟨g, cap, cur, h1, h2.below hb, h3⟩
set_option maxRecDepth 100000 in
set_option maxHeartbeats 2000000 in
theorem markChangeS {hp : Prop} {g m : Nat} {v : Value} {cu : Array Value} {w : World} (s : Nat) (hs0 : 0 < s) (hs1 : s ≤ 100000000000000) (hm : m ≤ 1048576) (h : MkChanges hp w v g m cu) :
    Calls Tryz.prog 29 #[v, .int .i64 s] w fun e w' => e = .returned (.int .i64 (s + 3 * m : Nat)) ∧ OutS (BlkOf v) w w' ∧ (hp → ∃ cur, Blk w' g 113 cur ∧ cur.size = cu.size ∧ MarkChanges cur m s) := by
  have e1 : ∃ a1 c1, v = .slice a1 m c1 ∧ (0 < m → hp) ∧ (hp → a1 = some ⟨g, 0, none⟩ ∧ Blk w g 113 cu ∧ m * 3 ≤ cu.size) := by
    rcases h with ⟨hn, rfl, rfl⟩ | ⟨hy, cap, rfl, hg, hz⟩
    · exact ⟨none, 0, rfl, fun h => by omega, fun h => absurd h hn⟩
    · exact ⟨_, cap, rfl, fun _ => hy, fun _ => ⟨rfl, hg, hz⟩⟩
  obtain ⟨a1, c1, rfl, q0, q⟩ := e1
  have QP : Hid (0 < m → hp) := q0
  have QQ : Hid _ := q
  clear h
  go_enter Tryz.func29, Tryz.ntmps29
  go_wp2
  go_loopw [1, 5] (fun i1 i5 wr => ∃ k : Nat, i1 = .int .i64 (s + 3 * k : Nat) ∧ i5 = .int .i64 (k : Int) ∧ k ≤ m ∧ OutS (BlkOf (.slice a1 m c1)) w wr ∧ (hp → ∃ cur, Blk wr g 113 cur ∧ cur.size = cu.size ∧ MarkChanges cur k s)) (fun _ i5 _ => m - (intOf i5).toNat)
  case atStart => exact ⟨0, rfl, rfl, by omega, OutS.refl _ _, fun hq => ⟨cu, (QQ.out hq).2.1, rfl, fun i hi => by omega⟩⟩
  case round =>
    obtain ⟨k, rfl, rfl, hk, hB, hq⟩ := hrel
    by_cases hkn : k < m
    · have hkn' : (k : Int) < (m : Int) := by omega
      obtain ⟨rfl, _, hz⟩ := QQ.out (QP.out (by omega))
      obtain ⟨cur, hblk, hsz, hmc⟩ := hq (QP.out (by omega))
      have z0 : k * 3 < cur.size := by omega
      have z1 : k * 3 + 1 < cur.size := by omega
      have z2 : k * 3 + 2 < cur.size := by omega
      have HM : Hid _ := hmc.step z2
      have HB0 : Hid (Blk wr g 113 cur) := hblk
      have ct0 := lawText (s + 3 * k) (by omega) (by omega)
      rw [show ((s + 3 * k : Nat) : Int) = (s : Int) + 3 * (k : Int) by omega] at ct0
      obtain ⟨M0, hM0⟩ : ∃ M, markOf (s + 3 * k) = M := ⟨_, rfl⟩
      rw [hM0] at ct0 HM
      clear hM0
      have ct1 := lawText (s + 3 * k + 1) (by omega) (by omega)
      rw [show ((s + 3 * k + 1 : Nat) : Int) = (s : Int) + 3 * (k : Int) + 1 by omega] at ct1
      obtain ⟨M1, hM1⟩ : ∃ M, markOf (s + 3 * k + 1) = M := ⟨_, rfl⟩
      rw [hM1] at ct1 HM
      clear hM1
      have ct2 := lawText (s + 3 * k + 2) (by omega) (by omega)
      rw [show ((s + 3 * k + 2 : Nat) : Int) = (s : Int) + 3 * (k : Int) + 2 by omega] at ct2
      obtain ⟨M2, hM2⟩ : ∃ M, markOf (s + 3 * k + 2) = M := ⟨_, rfl⟩
      rw [hM2] at ct2 HM
      clear hM2
      clear hmc hblk
      go_wp2_with (first
        | (go_at_call 56; have hchk := hb_1; (refine (ct2 _).mono ?_; rintro e w_2 ⟨rfl, hB_2⟩; have hb_2 := Blk.below (hb_1.set (k * 3 + 1) _) hB_2; have ho_2 := OutS.trans (ho_1.set .mk _) (OutS.of hB_2); have c2_0 := hb_2.cell (k * 3); have c2_1 := hb_2.cell (k * 3 + 1); have c2_2 := hb_2.cell (k * 3 + 2); rw [Array.getElem?_eq_getElem (by first | exact z0 | (simp only [Array.size_setIfInBounds]; exact z0))] at c2_0; rw [Array.getElem?_eq_getElem (by first | exact z1 | (simp only [Array.size_setIfInBounds]; exact z1))] at c2_1; rw [Array.getElem?_eq_getElem (by first | exact z2 | (simp only [Array.size_setIfInBounds]; exact z2))] at c2_2; have f2_0 := hb_2.fro (k * 3); have f2_1 := hb_2.fro (k * 3 + 1); have f2_2 := hb_2.fro (k * 3 + 2)))
        | (go_at_call 56; have hchk := hb_0; (refine (ct1 _).mono ?_; rintro e w_1 ⟨rfl, hB_1⟩; have hb_1 := Blk.below (hb_0.set (k * 3) _) hB_1; have ho_1 := OutS.trans (ho_0.set .mk _) (OutS.of hB_1); have c1_0 := hb_1.cell (k * 3); have c1_1 := hb_1.cell (k * 3 + 1); have c1_2 := hb_1.cell (k * 3 + 2); rw [Array.getElem?_eq_getElem (by first | exact z0 | (simp only [Array.size_setIfInBounds]; exact z0))] at c1_0; rw [Array.getElem?_eq_getElem (by first | exact z1 | (simp only [Array.size_setIfInBounds]; exact z1))] at c1_1; rw [Array.getElem?_eq_getElem (by first | exact z2 | (simp only [Array.size_setIfInBounds]; exact z2))] at c1_2; have f1_0 := hb_1.fro (k * 3); have f1_1 := hb_1.fro (k * 3 + 1); have f1_2 := hb_1.fro (k * 3 + 2)))
        | (go_at_call 56; go_must (refine (ct0 _).mono ?_; rintro e w_0 ⟨rfl, hB_0⟩; have hb_0 := Blk.below HB0.out hB_0; have ho_0 := OutS.trans hB (OutS.of hB_0); have c0_0 := hb_0.cell (k * 3); have c0_1 := hb_0.cell (k * 3 + 1); have c0_2 := hb_0.cell (k * 3 + 2); rw [Array.getElem?_eq_getElem (by first | exact z0 | (simp only [Array.size_setIfInBounds]; exact z0))] at c0_0; rw [Array.getElem?_eq_getElem (by first | exact z1 | (simp only [Array.size_setIfInBounds]; exact z1))] at c0_1; rw [Array.getElem?_eq_getElem (by first | exact z2 | (simp only [Array.size_setIfInBounds]; exact z2))] at c0_2; have f0_0 := hb_0.fro (k * 3); have f0_1 := hb_0.fro (k * 3 + 1); have f0_2 := hb_0.fro (k * 3 + 2))))
      exact ⟨⟨k + 1, by congr 1 <;> omega, rfl, by omega, (ho_2.set .mk _), fun _ => ⟨_, (hb_2.set (k * 3 + 2) _), by simp [hsz], HM.out⟩⟩, by simp [intOf]; omega⟩
    · have hkn' : ¬ ((k : Int) < (m : Int)) := by omega
      obtain rfl : k = m := by omega
      go_wp2_with fail
      go_ret
      exact ⟨by go_num, hB, hq⟩
set_option maxRecDepth 100000 in
set_option maxHeartbeats 2000000 in
theorem heldChangeS {v : Value} {m s : Nat} {w : World} (hs0 : 0 < s) (hs1 : s ≤ 100000000000000) (hm : m ≤ 1048576) (h : MkdChanges w v m s) :
    Calls Tryz.prog 30 #[v, .int .i64 s] w fun e w' => e = .returned (.int .i64 (s + 3 * m : Nat)) ∧ Below w.heap.size w w' := by
  have e1 : ∃ g0 a1 c1 cu, v = .slice a1 m c1 ∧ (0 < m → a1 = some ⟨g0, 0, none⟩ ∧ Blk w g0 113 cu ∧ MarkChanges cu m s) := by
    rcases h with ⟨rfl, rfl⟩ | ⟨g, cap, cur, rfl, hg, hm⟩
    · exact ⟨0, none, 0, #[], rfl, fun h => by omega⟩
    · exact ⟨g, _, cap, cur, rfl, fun _ => ⟨rfl, hg, hm⟩⟩
  obtain ⟨g, a1, c1, cu, rfl, q⟩ := e1
  clear h
  go_enter Tryz.func30, Tryz.ntmps30
  go_wp2
  go_loopw [1, 5] (fun i1 i5 wr => ∃ k : Nat, i1 = .int .i64 (s + 3 * k : Nat) ∧ i5 = .int .i64 (k : Int) ∧ k ≤ m ∧ Below w.heap.size w wr) (fun _ i5 _ => m - (intOf i5).toNat)
  case atStart => exact ⟨0, rfl, rfl, by omega, Below.refl _ _⟩
  case round =>
    obtain ⟨k, rfl, rfl, hk, hB⟩ := hrel
    by_cases hkn : k < m
    · have hkn' : (k : Int) < (m : Int) := by omega
      obtain ⟨rfl, hblk, hmc⟩ := q (by omega)
      obtain ⟨v0, v1, v2⟩ := hmc k hkn
      have y0 : ∀ N : GoodW (fun W => Below w.heap.size w W), N.W.cell? ⟨g, k * 3, none⟩ = some (.string (markOf (s + 3 * k))) := fun N => by rw [(hblk.below N.ok).cell, v0]
      have y1 : ∀ N : GoodW (fun W => Below w.heap.size w W), N.W.cell? ⟨g, k * 3 + 1, none⟩ = some (.string (markOf (s + 3 * k + 1))) := fun N => by rw [(hblk.below N.ok).cell, v1]
      have y2 : ∀ N : GoodW (fun W => Below w.heap.size w W), N.W.cell? ⟨g, k * 3 + 2, none⟩ = some (.string (markOf (s + 3 * k + 2))) := fun N => by rw [(hblk.below N.ok).cell, v2]
      have ct0 := lawText (s + 3 * k) (by omega) (by omega)
      rw [show ((s + 3 * k : Nat) : Int) = (s : Int) + 3 * (k : Int) by omega] at ct0
      obtain ⟨M0, hM0⟩ : ∃ M, markOf (s + 3 * k) = M := ⟨_, rfl⟩
      rw [hM0] at ct0 y0
      clear hM0
      have ct1 := lawText (s + 3 * k + 1) (by omega) (by omega)
      rw [show ((s + 3 * k + 1 : Nat) : Int) = (s : Int) + 3 * (k : Int) + 1 by omega] at ct1
      obtain ⟨M1, hM1⟩ : ∃ M, markOf (s + 3 * k + 1) = M := ⟨_, rfl⟩
      rw [hM1] at ct1 y1
      clear hM1
      have ct2 := lawText (s + 3 * k + 2) (by omega) (by omega)
      rw [show ((s + 3 * k + 2 : Nat) : Int) = (s : Int) + 3 * (k : Int) + 2 by omega] at ct2
      obtain ⟨M2, hM2⟩ : ∃ M, markOf (s + 3 * k + 2) = M := ⟨_, rfl⟩
      rw [hM2] at ct2 y2
      clear hM2
      have Y0 : Hid _ := y0
      have Y1 : Hid _ := y1
      have Y2 : Hid _ := y2
      have CT0 : Hid _ := ct0
      have CT1 : Hid _ := ct1
      have CT2 : Hid _ := ct2
      clear hblk hmc q v0 v1 v2 y0 y1 y2 ct0 ct1 ct2
      go_wp2_with fail
      have y0 := Y0.out
      have ct0 := CT0.out
      haveI ne0 : Nonempty (GoodW (fun W => Below w.heap.size w W)) := ⟨⟨_, hB⟩⟩
      refine wp_region_calm (fun W => Below w.heap.size w W) (by kernel_rfl) (by kernel_rfl) hB.drew ?_
      repeat (go_big_quiet_step ((go_at_call 56; exact Calls.calm _ (fun w2 hb => good_below (GoodW.ok _) hb) (ct0 _))))
      refine wpQuiet_nil ?_
      rintro W0 ⟨⟨X0, hX0⟩, hE0⟩
      have hW0 : Below w.heap.size w W0 := by rw [hE0]; exact hX0
      clear hE0 hX0 X0 y0 ct0
      go_wp2_with fail
      have y1 := Y1.out
      have ct1 := CT1.out
      haveI ne1 : Nonempty (GoodW (fun W => Below w.heap.size w W)) := ⟨⟨_, hW0⟩⟩
      refine wp_region_calm (fun W => Below w.heap.size w W) (by kernel_rfl) (by kernel_rfl) hW0.drew ?_
      repeat (go_big_quiet_step ((go_at_call 56; exact Calls.calm _ (fun w2 hb => good_below (GoodW.ok _) hb) (ct1 _))))
      refine wpQuiet_nil ?_
      rintro W1 ⟨⟨X1, hX1⟩, hE1⟩
      have hW1 : Below w.heap.size w W1 := by rw [hE1]; exact hX1
      clear hE1 hX1 X1 y1 ct1
      go_wp2_with fail
      have y2 := Y2.out
      have ct2 := CT2.out
      haveI ne2 : Nonempty (GoodW (fun W => Below w.heap.size w W)) := ⟨⟨_, hW1⟩⟩
      refine wp_region_calm (fun W => Below w.heap.size w W) (by kernel_rfl) (by kernel_rfl) hW1.drew ?_
      repeat (go_big_quiet_step ((go_at_call 56; exact Calls.calm _ (fun w2 hb => good_below (GoodW.ok _) hb) (ct2 _))))
      refine wpQuiet_nil ?_
      rintro W2 ⟨⟨X2, hX2⟩, hE2⟩
      have hW2 : Below w.heap.size w W2 := by rw [hE2]; exact hX2
      clear hE2 hX2 X2 y2 ct2
      go_wp2_with fail
      exact ⟨⟨k + 1, by congr 1 <;> omega, rfl, by omega, hW2⟩, by simp [intOf]; omega⟩
    · have hkn' : ¬ ((k : Int) < (m : Int)) := by omega
      obtain rfl : k = m := by omega
      go_wp2_with fail
      go_ret
      exact ⟨by go_num, hB⟩
end Go.Proofs.YtoopdcbgnccmiaaGreatDoor

namespace Go.Proofs.YtoopdcbgnccmiaaGreatDoor
open Go.ChangeShapes Go.WideShapes Go.ChangeAt Go.RowKit
set_option linter.unusedVariables false
set_option linter.unusedSimpArgs false

def ShEntrys (w : World) (g : Nat) (v : Value) (m : Nat) : Prop := v = .slice (some ⟨g, 0, none⟩) m m ∧ ∃ cur, Blk w g 137 cur ∧ cur.size = m * 2
theorem ShEntrys.keep {w w' : World} {g : Nat} {v : Value} {m : Nat} (h : ShEntrys w g v m) (hk : w'.heap[g]? = w.heap[g]?) : ShEntrys w' g v m := by
  obtain ⟨h1, cur, h2, h3⟩ := h
  exact ⟨h1, cur, by unfold Blk at *; rw [hk]; exact h2, h3⟩
theorem RowEntrys.sh {w : World} {g : Nat} {v : Value} {l : List Entry} (h : RowEntrys w g v l) : ShEntrys w g v l.length := by
  obtain ⟨_, h1, cur, h2, h3, _⟩ := h
  exact ⟨h1, cur, h2, h3⟩
theorem markShEntrys {g m : Nat} {v : Value} {w : World} (s : Nat) (hs0 : 0 < s) (hs1 : s ≤ 100000000000000) (hm : m ≤ 1048576) (h : ShEntrys w g v m) :
    Calls Tryz.prog 57 #[v, .int .i64 s] w fun e w' => e = .returned (.int .i64 (s + 2 * m : Nat)) ∧ OutS (fun b => b = g) w w' ∧ ∃ cur, Blk w' g 137 cur ∧ cur.size = m * 2 := by
  obtain ⟨rfl, cu, h2, h3⟩ := h
  refine (markEntryS (hp := True) s hs0 hs1 hm (.inr ⟨trivial, m, rfl, h2, by omega⟩)).mono ?_
  rintro e w' ⟨he, ho, hq⟩
  obtain ⟨cur, q1, q2, _⟩ := hq trivial
  exact ⟨he, ho.mono (fun b hb => hb.eq), cur, q1, by omega⟩
def ShTxts (w : World) (g : Nat) (v : Value) (m : Nat) : Prop := v = .slice (some ⟨g, 0, none⟩) m m ∧ ∃ cur, Blk w g 9 cur ∧ cur.size = m * 1
theorem ShTxts.keep {w w' : World} {g : Nat} {v : Value} {m : Nat} (h : ShTxts w g v m) (hk : w'.heap[g]? = w.heap[g]?) : ShTxts w' g v m := by
  obtain ⟨h1, cur, h2, h3⟩ := h
  exact ⟨h1, cur, by unfold Blk at *; rw [hk]; exact h2, h3⟩
theorem RowTxts.sh {w : World} {g : Nat} {v : Value} {l : List ByteArray} (h : RowTxts w g v l) : ShTxts w g v l.length := by
  obtain ⟨_, h1, cur, h2, h3, _⟩ := h
  exact ⟨h1, cur, h2, h3⟩
theorem markShTxts {g m : Nat} {v : Value} {w : World} (s : Nat) (hs0 : 0 < s) (hs1 : s ≤ 100000000000000) (hm : m ≤ 1048576) (h : ShTxts w g v m) :
    Calls Tryz.prog 28 #[v, .int .i64 s] w fun e w' => e = .returned (.int .i64 (s + m : Nat)) ∧ OutS (fun b => b = g) w w' ∧ ∃ cur, Blk w' g 9 cur ∧ cur.size = m * 1 := by
  obtain ⟨rfl, cu, h2, h3⟩ := h
  refine (markStringS (hp := True) s hs0 hs1 hm (.inr ⟨trivial, m, rfl, h2, by omega⟩)).mono ?_
  rintro e w' ⟨he, ho, hq⟩
  obtain ⟨cur, q1, q2, _⟩ := hq trivial
  exact ⟨he, ho.mono (fun b hb => hb.eq), cur, q1, by omega⟩
def ShLayersC (L U : Nat) (w : World) (cur : Array Value) (ms : List Nat) : Prop := ∀ i (h : i < ms.length), ∃ nv g, cur[i * 3 + 2]? = some nv ∧ L < g ∧ g < U ∧ ShEntrys w g nv ms[i]
theorem ShLayersC.keep {L U : Nat} {w w' : World} {cur : Array Value} {ms : List Nat} (h : ShLayersC L U w cur ms) (hk : ∀ b, L < b → b < U → w'.heap[b]? = w.heap[b]?) : ShLayersC L U w' cur ms := by
  intro i hi
  obtain ⟨nv, g, h1, h2, h3, h4⟩ := h i hi
  exact ⟨nv, g, h1, h2, h3, h4.keep (hk g h2 h3)⟩
theorem ShLayersC.set {L U : Nat} {w : World} {cur : Array Value} {ms : List Nat} (h : ShLayersC L U w cur ms) (k j : Nat) (hj : j < 3) (hp : j ≠ 2) (v : Value) : ShLayersC L U w (cur.setIfInBounds (k * 3 + j) v) ms := by
  intro i hi
  obtain ⟨nv, g, h1, h2⟩ := h i hi
  refine ⟨nv, g, ?_, h2⟩
  rw [Array.getElem?_setIfInBounds, if_neg (by omega)]
  exact h1
theorem ShLayersC.mark {L U : Nat} {w w' : World} {cur : Array Value} {ms : List Nat} (h : ShLayersC L U w cur ms) {g m : Nat} {v : Value} (hg : ShEntrys w g v m) (hU : U ≤ w.heap.size) (ho : OutS (fun b => b = g) w w') (hn : ∃ cur, Blk w' g 137 cur ∧ cur.size = m * 2) : ShLayersC L U w' cur ms := by
  intro i hi
  obtain ⟨nv, g', h1, h2, h3, h4⟩ := h i hi
  refine ⟨nv, g', h1, h2, h3, ?_⟩
  by_cases he : g' = g
  · subst he
    obtain ⟨hv, c1, hb1, hs1⟩ := h4
    obtain ⟨_, c2, hb2, hs2⟩ := hg
    obtain ⟨c3, hb3, hs3⟩ := hn
    refine ⟨hv, c3, hb3, ?_⟩
    unfold Blk at hb1 hb2
    rw [hb1] at hb2
    simp at hb2
    rw [hs3, ← hs2, ← hb2, hs1]
  · exact h4.keep (ho.block g' (by omega) he)
def ShLayers (L U : Nat) (w : World) (v : Value) (ms : List Nat) : Prop := v = .slice (some ⟨L, 0, none⟩) ms.length ms.length ∧ ∃ cur, Blk w L 63 cur ∧ cur.size = ms.length * 3 ∧ ShLayersC L U w cur ms
theorem RowLayers.sh {L U : Nat} {w : World} {v : Value} {l : List Layer} (h : RowLayers L U w v l) : ShLayers L U w v (l.map fun x => x.entries.length) := by
  obtain ⟨_, h1, cur, h2, h3, h4⟩ := h
  refine ⟨by simpa using h1, cur, h2, by simpa using h3, fun i hi => ?_⟩
  simp at hi
  obtain ⟨_, _, nv, g, q3, q4, q5, q6⟩ := h4 i hi hi
  exact ⟨nv, g, q3, q4, q5, by simpa using q6.sh⟩
set_option maxRecDepth 100000 in
set_option maxHeartbeats 2000000 in
theorem markLayerS {L U : Nat} {ms : List Nat} {v : Value} {w : World} (s : Nat) (hs0 : 0 < s) (hs1 : s ≤ 10000000000000) (hn : ms.length ≤ 1048576) (hm : ∀ m ∈ ms, m ≤ 1048576) (hU : L < U) (hUw : U ≤ w.heap.size) (h : ShLayers L U w v ms) :
    Calls Tryz.prog 17 #[v, .int .i64 s] w fun e w' => (∃ r : Nat, e = .returned (.int .i64 (r : Int)) ∧ 0 < r ∧ r ≤ s + ms.length * 2097154) ∧ OutS (fun b => L ≤ b ∧ b < U) w w' := by
  obtain ⟨n, hnl⟩ : ∃ n, ms.length = n := ⟨_, rfl⟩
  obtain ⟨rfl, cu, hcu, hcs, hsc⟩ := h
  have HCU : Hid (Blk w L 63 cu) := hcu
  have HSC : Hid (ShLayersC L U w cu ms) := hsc
  have HM : Hid (∀ m ∈ ms, m ≤ 1048576) := hm
  clear hcu hsc hm
  rw [hnl] at hn hcs ⊢
  go_enter Tryz.func17, Tryz.ntmps17
  go_wp2
  go_loopw [1, 5] (fun i1 i5 wr => ∃ (k r : Nat) (cur : Array Value), i1 = .int .i64 (r : Int) ∧ i5 = .int .i64 (k : Int) ∧ k ≤ n ∧ 0 < r ∧ r ≤ s + k * 2097154 ∧ OutS (fun b => L ≤ b ∧ b < U) w wr ∧ Blk wr L 63 cur ∧ cur.size = n * 3 ∧ ShLayersC L U wr cur ms) (fun _ i5 _ => n - (intOf i5).toNat)
  case atStart => exact ⟨0, s, cu, rfl, rfl, by omega, hs0, by omega, OutS.refl _ _, HCU.out, hcs, HSC.out⟩
  case round =>
    obtain ⟨k, r, cur, rfl, rfl, hk, hr0, hr1, hB, hblk, hsz, hsc⟩ := hrel
    have HB : Hid (Blk wr L 63 cur) := hblk
    have HS : Hid (ShLayersC L U wr cur ms) := hsc
    clear hblk hsc
    by_cases hkn : k < n
    · have hkn' : (k : Int) < (n : Int) := by omega
      have hkl : k < ms.length := by omega
      have z0 : k * 3 < cur.size := by rw [hsz]; omega
      have z1 : k * 3 + 1 < cur.size := by rw [hsz]; omega
      have z2 : k * 3 + 2 < cur.size := by rw [hsz]; omega
      obtain ⟨nv, g, q1, q2, q3, q4⟩ := HS.out k hkl
      have hmk := HM.out _ (List.getElem_mem hkl)
      obtain ⟨m, hmm⟩ : ∃ m, ms[k] = m := ⟨_, rfl⟩
      rw [hmm] at q4 hmk
      have HQ4 : Hid (ShEntrys wr g nv m) := q4
      obtain rfl := q4.1
      clear hmm q4
      have hglt : g < wr.heap.size := by have := hB.size; omega
      have hUr : U ≤ wr.heap.size := Nat.le_trans hUw hB.size
      have ct0 := lawText (r) (by omega) (by omega)
      rw [show ((r : Nat) : Int) = (r : Int) by omega] at ct0
      obtain ⟨M0, hM0⟩ : ∃ M, markOf (r) = M := ⟨_, rfl⟩
      rw [hM0] at ct0
      clear hM0
      have cm := fun (W : World) (hW : W.heap[g]? = wr.heap[g]?) => markShEntrys (r + 2) (by omega) (by omega) hmk (HQ4.out.keep hW)
      rw [show ((r + 2 : Nat) : Int) = (r : Int) + 2 by omega] at cm
      have hb_0 := HB.out
      have c0_0 := hb_0.cell (k * 3)
      rw [Array.getElem?_eq_getElem (by first | exact z0 | (simp only [Array.size_setIfInBounds]; exact z0))] at c0_0
      have f0_0 := hb_0.fro (k * 3)
      have c0_1 := hb_0.cell (k * 3 + 1)
      rw [Array.getElem?_eq_getElem (by first | exact z1 | (simp only [Array.size_setIfInBounds]; exact z1))] at c0_1
      have f0_1 := hb_0.fro (k * 3 + 1)
      have c0_2 := hb_0.cell (k * 3 + 2)
      have k0 := (show _ = some (Value.slice (some ⟨g, 0, none⟩) m m) from c0_2.trans (by first | exact q1 | (simp only [Array.getElem?_setIfInBounds]; (repeat rw [if_neg (by omega)]); exact q1)))
      go_wp2_with (first
        | (go_at_call 57; go_must (have o1 := (OutS.set (g := L) (i := k * 3 + 1) (OutS.set (g := L) (i := k * 3) ho_t0 rfl (.string M0)) rfl (.int .i64 ((r : Int) + 1))); have b1 := (Blk.set (Blk.set hb_t0 (k * 3) (.string M0)) (k * 3 + 1) (.int .i64 ((r : Int) + 1))); refine (cm _ (o1.block g hglt (by omega))).mono ?_; rintro e w_sub ⟨rfl, hB_sub, hcur_sub⟩; have hb_sub : Blk w_sub L 63 _ := (by unfold Blk at b1 ⊢; rw [hB_sub.block L (Array.getElem?_eq_some_iff.1 b1).1 (by omega)]; exact b1); have csub_0 := hb_sub.cell (k * 3); rw [Array.getElem?_eq_getElem (by first | exact z0 | (simp only [Array.size_setIfInBounds]; exact z0))] at csub_0; have fsub_0 := hb_sub.fro (k * 3); have csub_1 := hb_sub.cell (k * 3 + 1); rw [Array.getElem?_eq_getElem (by first | exact z1 | (simp only [Array.size_setIfInBounds]; exact z1))] at csub_1; have fsub_1 := hb_sub.fro (k * 3 + 1); have csub_2 := hb_sub.cell (k * 3 + 2); have ksub := (show _ = some (Value.slice (some ⟨g, 0, none⟩) m m) from csub_2.trans (by first | exact q1 | (simp only [Array.getElem?_setIfInBounds]; (repeat rw [if_neg (by omega)]); exact q1)))))
        | (go_at_call 56; go_must (refine (ct0 _).mono ?_; rintro e w_t0 ⟨rfl, hB_t0⟩; have hb_t0 := Blk.below hb_0 hB_t0; have ho_t0 := OutS.trans (OutS.refl (fun b => b = L) wr) (OutS.of hB_t0); have ct0_0 := hb_t0.cell (k * 3); rw [Array.getElem?_eq_getElem (by first | exact z0 | (simp only [Array.size_setIfInBounds]; exact z0))] at ct0_0; have ft0_0 := hb_t0.fro (k * 3); have ct0_1 := hb_t0.cell (k * 3 + 1); rw [Array.getElem?_eq_getElem (by first | exact z1 | (simp only [Array.size_setIfInBounds]; exact z1))] at ct0_1; have ft0_1 := hb_t0.fro (k * 3 + 1); have ct0_2 := hb_t0.cell (k * 3 + 2); have kt0 := (show _ = some (Value.slice (some ⟨g, 0, none⟩) m m) from ct0_2.trans (by first | exact q1 | (simp only [Array.getElem?_setIfInBounds]; (repeat rw [if_neg (by omega)]); exact q1))))))
      have b3 := hb_sub
      have o3 := (OutS.refl (fun b => b = L) w_sub)
      have hUx := Nat.le_trans hUr o1.size
      have hUy := Nat.le_trans hUx hB_sub.size
      refine ⟨⟨k + 1, r + 2 + 2 * m, _, by congr 1 <;> omega, rfl, by omega, by omega, by omega, ((hB.trans (o1.mono (fun b hb => by subst hb; exact ⟨Nat.le_refl _, hU⟩))).trans (hB_sub.mono (fun b hb => by subst hb; omega))).trans (o3.mono (fun b hb => by subst hb; exact ⟨Nat.le_refl _, hU⟩)), b3, by simp [hsz], ?_⟩, by simp [intOf]; omega⟩
      exact ShLayersC.keep (ShLayersC.mark (ShLayersC.keep (ShLayersC.set (ShLayersC.set HS.out k 0 (by omega) (by omega) _) k 1 (by omega) (by omega) _) (fun b hb1 hb2 => o1.block b (by omega) (by omega))) (HQ4.out.keep (o1.block g hglt (by omega))) hUx hB_sub hcur_sub) (fun b hb1 hb2 => o3.block b (by omega) (by omega))
    · have hkn' : ¬ ((k : Int) < (n : Int)) := by omega
      obtain rfl : k = n := by omega
      go_wp2_with fail
      go_ret
      exact ⟨⟨r, rfl, hr0, hr1⟩, hB⟩
theorem markOwnChanges {B : Nat} {v : Value} {l : List Change} {w : World} (s : Nat) (hs0 : 0 < s) (hs1 : s ≤ 100000000000000) (hl : l.length ≤ 1048576) (h : OwnChanges B w v l) :
    Calls Tryz.prog 29 #[v, .int .i64 s] w fun e w' => e = .returned (.int .i64 (s + 3 * l.length : Nat)) ∧ OutS (BlkOf v) w w' ∧ MkdChanges w' v l.length s := by
  rcases h.2 with ⟨rfl, h0⟩ | ⟨g, cap, cur, rfl, hB, hg, h1, h2, h3, h4⟩
  · refine (markChangeS (hp := False) (g := 0) (cu := #[]) s hs0 hs1 hl (.inl ⟨id, rfl, h0⟩)).mono ?_
    rintro e w' ⟨he, ho, _⟩
    exact ⟨he, ho, .inl ⟨rfl, h0⟩⟩
  · refine (markChangeS (hp := True) s hs0 hs1 hl (.inr ⟨trivial, cap, rfl, hg, by omega⟩)).mono ?_
    rintro e w' ⟨he, ho, hq⟩
    obtain ⟨cu, q1, _, q3⟩ := hq trivial
    exact ⟨he, ho, .inr ⟨g, cap, cu, rfl, q1, q3⟩⟩
end Go.Proofs.YtoopdcbgnccmiaaGreatDoor

namespace Go.Proofs.YtoopdcbgnccmiaaGreatDoor
open Go.ChangeShapes Go.WideShapes Go.ChangeAt Go.RowKit
set_option linter.unusedVariables false
set_option linter.unusedSimpArgs false

/-- From a family of things, one for each place, to a list. -/
theorem list_of {α : Type} (n : Nat) (R : Nat → α → Prop) (h : ∀ i, i < n → ∃ x, R i x) : ∃ l : List α, l.length = n ∧ ∀ i (hi : i < l.length), R i l[i] := by
  induction n with
  | zero => exact ⟨[], rfl, fun i hi => by simp at hi⟩
  | succ n ih =>
    obtain ⟨l, hl, hr⟩ := ih (fun i hi => h i (by omega))
    obtain ⟨x, hx⟩ := h n (by omega)
    refine ⟨l ++ [x], by simp [hl], fun i hi => ?_⟩
    by_cases hin : i < l.length
    · rw [List.getElem_append_left hin]; exact hr i hin
    · have : i = l.length := by simp at hi; omega
      subst this
      simp
      rw [hl]; exact hx
section
variable {H : Type} {enc : TypeId × Value → H} {w : World} {base : Nat} {spare : Nat → Bool} {held : Bool}
set_option maxRecDepth 100000 in
theorem open_rows2 {t e : TypeId} {f0 f1 : Field} {fuel : Nat} {cs : List Value} {x : DataW H × List MemPlace} (ht : Tryz.prog.underlying t = some (.slice e)) (he : Tryz.prog.underlying e = some (.struct #[f0, f1]))
    (ce : Tryz.prog.cellsOf e = 2) (o0 : f0.offset = 0) (o1 : f1.offset = 1) (c0 : Tryz.prog.cellsOf f0.type = 1) (c1 : Tryz.prog.cellsOf f1.type = 1)
    (h : DataW.trod enc Tryz.prog w base spare held fuel t cs = some x) :
    ∃ (a : Option Addr) (len cap n : Nat), cs = [.slice a len cap] ∧ len ≤ maxLen ∧ ((a = none ∧ len = 0 ∧ cap = 0) ∨ ∃ a', a = some a') ∧
      ∀ i, i < len → ∃ b off, a = some ⟨b, off, none⟩ ∧ b < w.heap.size ∧ ∃ v0 v1 y0 y1, w.cell? ⟨b, off + i * 2, none⟩ = some v0 ∧ w.cell? ⟨b, off + i * 2 + 1, none⟩ = some v1 ∧ DataW.trod enc Tryz.prog w base spare held n f0.type [v0] = some y0 ∧ DataW.trod enc Tryz.prog w base spare held n f1.type [v1] = some y1 := by
  rcases Deep.open_slice ht h with ⟨rfl, _⟩ | ⟨a, len, cap, m, n, D, Pl, rfl, hb, hl, hm, hmm, rfl, hx⟩
  · exact ⟨none, 0, 0, 0, rfl, Nat.zero_le _, .inl ⟨rfl, rfl, rfl⟩, fun i hi => by omega⟩
  have hlm : len ≤ m := by rw [hmm]; split <;> omega
  refine ⟨some a, len, cap, n - 1, rfl, by omega, .inr ⟨a, rfl⟩, fun i hi => ?_⟩
  obtain ⟨cs', h1, h2⟩ := hx i (by omega)
  rw [ce] at h1
  obtain ⟨_, hlen, hcell⟩ := World.cells?_some h1
  obtain ⟨xs, k, hk, hxy, _, hxl, hf⟩ := DataW.trod_struct he h2
  have hk' : k = n - 1 := by omega
  subst hk'
  match xs, hxl, cs', hlen with
  | [y0, y1], _, [v0, v1], _ =>
    have g0 := hf 0 f0 rfl
    have g1 := hf 1 f1 rfl
    simp [o0, o1, c0, c1] at g0 g1
    have e0 := hcell 0 (by omega)
    have e1 := hcell 1 (by omega)
    simp only [List.getElem?_cons_zero, List.getElem?_cons_succ] at e0 e1
    have hsp : a.spot = none := by
      obtain ⟨cs0, h10, _⟩ := hx 0 (by omega)
      rw [ce] at h10
      obtain ⟨_, hlen0, hcell0⟩ := World.cells?_some h10
      have e00 := hcell0 0 (by omega)
      rw [List.getElem?_eq_getElem (by omega)] at e00
      have := World.cell?_spot e00
      simpa [Addr.add] using this
    obtain ⟨b, off, spot⟩ := a
    have hspot : spot = none := hsp
    subst hspot
    simp only [add_plain] at e0 e1
    refine ⟨b, off, rfl, ?_, v0, v1, y0, y1, by simpa using e0, by simpa using e1, g0, g1⟩
    cases hh : w.heap[b]? with
    | none => simp [World.cell?, hh] at e0
    | some o => exact (Array.getElem?_eq_some_iff.1 hh).1
set_option maxRecDepth 100000 in
theorem open_rows3 {t e : TypeId} {f0 f1 f2 : Field} {fuel : Nat} {cs : List Value} {x : DataW H × List MemPlace} (ht : Tryz.prog.underlying t = some (.slice e)) (he : Tryz.prog.underlying e = some (.struct #[f0, f1, f2]))
    (ce : Tryz.prog.cellsOf e = 3) (o0 : f0.offset = 0) (o1 : f1.offset = 1) (o2 : f2.offset = 2) (c0 : Tryz.prog.cellsOf f0.type = 1) (c1 : Tryz.prog.cellsOf f1.type = 1) (c2 : Tryz.prog.cellsOf f2.type = 1)
    (h : DataW.trod enc Tryz.prog w base spare held fuel t cs = some x) :
    ∃ (a : Option Addr) (len cap n : Nat), cs = [.slice a len cap] ∧ len ≤ maxLen ∧ ((a = none ∧ len = 0 ∧ cap = 0) ∨ ∃ a', a = some a') ∧
      ∀ i, i < len → ∃ b off, a = some ⟨b, off, none⟩ ∧ b < w.heap.size ∧ ∃ v0 v1 v2 y0 y1 y2, w.cell? ⟨b, off + i * 3, none⟩ = some v0 ∧ w.cell? ⟨b, off + i * 3 + 1, none⟩ = some v1 ∧ w.cell? ⟨b, off + i * 3 + 2, none⟩ = some v2 ∧ DataW.trod enc Tryz.prog w base spare held n f0.type [v0] = some y0 ∧ DataW.trod enc Tryz.prog w base spare held n f1.type [v1] = some y1 ∧ DataW.trod enc Tryz.prog w base spare held n f2.type [v2] = some y2 := by
  rcases Deep.open_slice ht h with ⟨rfl, _⟩ | ⟨a, len, cap, m, n, D, Pl, rfl, hb, hl, hm, hmm, rfl, hx⟩
  · exact ⟨none, 0, 0, 0, rfl, Nat.zero_le _, .inl ⟨rfl, rfl, rfl⟩, fun i hi => by omega⟩
  have hlm : len ≤ m := by rw [hmm]; split <;> omega
  refine ⟨some a, len, cap, n - 1, rfl, by omega, .inr ⟨a, rfl⟩, fun i hi => ?_⟩
  obtain ⟨cs', h1, h2⟩ := hx i (by omega)
  rw [ce] at h1
  obtain ⟨_, hlen, hcell⟩ := World.cells?_some h1
  obtain ⟨xs, k, hk, hxy, _, hxl, hf⟩ := DataW.trod_struct he h2
  have hk' : k = n - 1 := by omega
  subst hk'
  match xs, hxl, cs', hlen with
  | [y0, y1, y2], _, [v0, v1, v2], _ =>
    have g0 := hf 0 f0 rfl
    have g1 := hf 1 f1 rfl
    have g2 := hf 2 f2 rfl
    simp [o0, o1, o2, c0, c1, c2] at g0 g1 g2
    have e0 := hcell 0 (by omega)
    have e1 := hcell 1 (by omega)
    have e2 := hcell 2 (by omega)
    simp only [List.getElem?_cons_zero, List.getElem?_cons_succ] at e0 e1 e2
    have hsp : a.spot = none := by
      obtain ⟨cs0, h10, _⟩ := hx 0 (by omega)
      rw [ce] at h10
      obtain ⟨_, hlen0, hcell0⟩ := World.cells?_some h10
      have e00 := hcell0 0 (by omega)
      rw [List.getElem?_eq_getElem (by omega)] at e00
      have := World.cell?_spot e00
      simpa [Addr.add] using this
    obtain ⟨b, off, spot⟩ := a
    have hspot : spot = none := hsp
    subst hspot
    simp only [add_plain] at e0 e1 e2
    refine ⟨b, off, rfl, ?_, v0, v1, v2, y0, y1, y2, by simpa using e0, by simpa using e1, by simpa using e2, g0, g1, g2⟩
    cases hh : w.heap[b]? with
    | none => simp [World.cell?, hh] at e0
    | some o => exact (Array.getElem?_eq_some_iff.1 hh).1
set_option maxRecDepth 100000 in
theorem openEntrys {fuel : Nat} {cs : List Value} {x : DataW H × List MemPlace} (h : DataW.trod enc Tryz.prog w base spare held fuel 53 cs = some x) :
    ∃ v l, cs = [v] ∧ EntrysAt (fun b => b < w.heap.size) w v l ∧ ∀ y ∈ l, EntrysFit y := by
  obtain ⟨a, len, cap, n, rfl, hlm, ha, hall⟩ := open_rows2 Tryz.underlying53 Tryz.underlying167 (by kernel_rfl) rfl rfl (by kernel_rfl) (by kernel_rfl) h
  obtain ⟨l, hl, hr⟩ := list_of len (fun i (y : Entry) => EntrysFit y ∧ ∃ b off, a = some ⟨b, off, none⟩ ∧ b < w.heap.size ∧ w.cell? ⟨b, off + i * 2, none⟩ = some (.string y.path) ∧ w.cell? ⟨b, off + i * 2 + 1, none⟩ = some (.string y.text)) (fun i hi => by
    obtain ⟨b, off, rfl, hb, v0, v1, y0, y1, c0, c1, t0, t1⟩ := hall i hi
    obtain ⟨s0, q0, _, fit0⟩ := DataW.trod_string Tryz.underlying9 t0
    obtain ⟨s1, q1, _, fit1⟩ := DataW.trod_string Tryz.underlying9 t1
    simp at q0 q1
    subst q0 q1
    exact ⟨⟨s0, s1⟩, ⟨fit0, fit1⟩, b, off, rfl, hb, c0, c1⟩)
  refine ⟨_, l, rfl, ⟨by omega, a, cap, by rw [hl], fun h0 => ?_⟩, fun y hy => ?_⟩
  · obtain ⟨_, b, off, rfl, hb, _⟩ := hr 0 h0
    refine ⟨b, off, rfl, hb, fun i hi => ?_⟩
    obtain ⟨_, b', off', he, _, c0, c1⟩ := hr i hi
    simp at he
    obtain ⟨rfl, rfl⟩ := he
    exact ⟨c0, c1⟩
  · obtain ⟨i, hi, rfl⟩ := List.getElem_of_mem hy
    exact (hr i hi).1
set_option maxRecDepth 100000 in
theorem openLayers {fuel : Nat} {cs : List Value} {x : DataW H × List MemPlace} (h : DataW.trod enc Tryz.prog w base spare held fuel 23 cs = some x) :
    ∃ v l, cs = [v] ∧ LayersAt (fun b => b < w.heap.size) w v l ∧ ∀ y ∈ l, LayersFit y := by
  obtain ⟨a, len, cap, n, rfl, hlm, ha, hall⟩ := open_rows3 Tryz.underlying23 Tryz.underlying55 (by kernel_rfl) rfl rfl rfl (by kernel_rfl) (by kernel_rfl) (by kernel_rfl) h
  obtain ⟨l, hl, hr⟩ := list_of len (fun i (y : Layer) => LayersFit y ∧ ∃ b off, a = some ⟨b, off, none⟩ ∧ b < w.heap.size ∧ w.cell? ⟨b, off + i * 3, none⟩ = some (.string y.name) ∧ w.cell? ⟨b, off + i * 3 + 1, none⟩ = some (.int .i64 y.rank) ∧ ∃ nv, w.cell? ⟨b, off + i * 3 + 2, none⟩ = some nv ∧ EntrysAt (fun b => b < w.heap.size) w nv y.entries) (fun i hi => by
    obtain ⟨b, off, rfl, hb, v0, v1, v2, y0, y1, y2, c0, c1, c2, t0, t1, t2⟩ := hall i hi
    obtain ⟨s0, q0, _, fit0⟩ := DataW.trod_string Tryz.underlying9 t0
    obtain ⟨s1, q1, _, _⟩ := DataW.trod_int Tryz.underlying3 t1
    obtain ⟨nv, s2, q2, hn, fit2⟩ := openEntrys t2
    simp at q0 q1 q2
    subst q0 q1 q2
    exact ⟨⟨s0, s1, s2⟩, ⟨fit0, fit2⟩, b, off, rfl, hb, c0, c1, _, c2, hn⟩)
  refine ⟨_, l, rfl, ⟨by omega, a, cap, by rw [hl], fun h0 => ?_⟩, fun y hy => ?_⟩
  · obtain ⟨_, b, off, rfl, hb, _⟩ := hr 0 h0
    refine ⟨b, off, rfl, hb, fun i hi => ?_⟩
    obtain ⟨_, b', off', he, _, c0, c1, nv, c2, hn⟩ := hr i hi
    simp at he
    obtain ⟨rfl, rfl⟩ := he
    exact ⟨c0, c1, nv, c2, hn⟩
  · obtain ⟨i, hi, rfl⟩ := List.getElem_of_mem hy
    exact (hr i hi).1
end
end Go.Proofs.YtoopdcbgnccmiaaGreatDoor

namespace Go.Proofs.YtoopdcbgnccmiaaGreatDoor
open Go.ChangeShapes Go.WideShapes Go.ChangeAt Go.RowKit
set_option linter.unusedVariables false
set_option linter.unusedSimpArgs false

/-- A copy, in blocks between L and U. -/
def CpLayers (L U : Nat) (w : World) (v : Value) (l : List Layer) : Prop := L < U ∧ RowLayers L U w v l
theorem CpLayers.keepU {L U : Nat} {w w' : World} {v : Value} {l : List Layer} (h : CpLayers L U w v l) (hk : ∀ b, L ≤ b → b < U → w'.heap[b]? = w.heap[b]?) : CpLayers L U w' v l := ⟨h.1, h.2.keep hk h.1⟩
theorem CpLayers.at {L U : Nat} {w : World} {v : Value} {l : List Layer} (h : CpLayers L U w v l) : LayersAt (fun b => L ≤ b ∧ b < U) w v l := h.2.at h.1
theorem cpToLayers {S : Nat → Prop} {l : List Layer} {v : Value} {w : World} (hS : ∀ b, S b → b < w.heap.size) (h : LayersAt S w v l) (hl : l.length ≤ 1048576) (hok : ∀ x ∈ l, LayersOK 1048576 x) :
    Calls Tryz.prog 11 #[v] w fun e w' => (∃ v', e = .returned v' ∧ CpLayers w.heap.size w'.heap.size w' v' l) ∧ Below w.heap.size w w' :=
  (toLayerS hS h hl (fun x hx => by have := (hok x hx).2.1; omega)).mono fun e w' ⟨⟨v', he, hr, hlt⟩, hb⟩ => ⟨⟨v', he, hlt, hr⟩, hb⟩
theorem cpMarkLayers {L U : Nat} {l : List Layer} {v : Value} {w : World} (s : Nat) (hs0 : 0 < s) (hs1 : s ≤ 10000000000000) (hl : l.length ≤ 1048576) (hok : ∀ x ∈ l, LayersOK 1048576 x) (hUw : U ≤ w.heap.size) (h : CpLayers L U w v l) :
    Calls Tryz.prog 17 #[v, .int .i64 s] w fun e w' => (∃ r : Nat, e = .returned (.int .i64 (r : Int)) ∧ 0 < r ∧ r ≤ s + 2300000000000) ∧ OutS (fun b => L ≤ b ∧ b < U) w w' := by
  refine (markLayerS s hs0 hs1 (by simpa using hl) (fun m hm => by
    obtain ⟨x, hx, rfl⟩ := List.mem_map.1 hm
    have := (hok x hx).2.1
    omega) h.1 hUw h.2.sh).mono ?_
  rintro e w' ⟨⟨r, he, h1, h2⟩, ho⟩
  simp only [List.length_map] at h2
  exact ⟨⟨r, he, h1, by omega⟩, ho⟩
theorem CpLayers.below {B L U : Nat} {w w' : World} {v : Value} {l : List Layer} (h : CpLayers L U w v l) (hb : Below B w w') (hU : U ≤ B) : CpLayers L U w' v l := h.keepU (fun b _ hb2 => hb.block b (Nat.lt_of_lt_of_le hb2 hU))
theorem CpLayers.outS {S : Nat → Prop} {L U : Nat} {w w' : World} {v : Value} {l : List Layer} (h : CpLayers L U w v l) (ho : OutS S w w') (hS : ∀ b, S b → b < L ∨ U ≤ b) (hU : U ≤ w.heap.size) : CpLayers L U w' v l := h.keepU (fun b h1 h2 => ho.block b (Nat.lt_of_lt_of_le h2 hU) (fun hs => by have := hS b hs; omega))
/-- A copy, in a block between L and U. -/
def CpTxts (L U : Nat) (w : World) (v : Value) (l : List ByteArray) : Prop := ∃ g, L ≤ g ∧ g < U ∧ RowTxts w g v l
theorem CpTxts.keepU {L U : Nat} {w w' : World} {v : Value} {l : List ByteArray} (h : CpTxts L U w v l) (hk : ∀ b, L ≤ b → b < U → w'.heap[b]? = w.heap[b]?) : CpTxts L U w' v l := by
  obtain ⟨g, h1, h2, h3⟩ := h
  exact ⟨g, h1, h2, h3.keep (hk g h1 h2)⟩
theorem CpTxts.at {L U : Nat} {w : World} {v : Value} {l : List ByteArray} (h : CpTxts L U w v l) : TxtsAt (fun b => L ≤ b ∧ b < U) w v l := by
  obtain ⟨g, h1, h2, h3⟩ := h
  exact h3.at ⟨h1, h2⟩
theorem cpToTxts {S : Nat → Prop} {l : List ByteArray} {v : Value} {w : World} (hS : ∀ b, S b → b < w.heap.size) (h : TxtsAt S w v l) (hl : l.length ≤ 1048576) (hok : ∀ x ∈ l, TxtsOK 1048576 x) :
    Calls Tryz.prog 24 #[v] w fun e w' => (∃ v', e = .returned v' ∧ CpTxts w.heap.size w'.heap.size w' v' l) ∧ Below w.heap.size w w' :=
  (toStringS hS h hl).mono fun e w' ⟨⟨v', he, hr⟩, hb⟩ => ⟨⟨v', he, w.heap.size, Nat.le_refl _, hr.lt, hr⟩, hb⟩
theorem cpMarkTxts {L U : Nat} {l : List ByteArray} {v : Value} {w : World} (s : Nat) (hs0 : 0 < s) (hs1 : s ≤ 10000000000000) (hl : l.length ≤ 1048576) (hok : ∀ x ∈ l, TxtsOK 1048576 x) (hUw : U ≤ w.heap.size) (h : CpTxts L U w v l) :
    Calls Tryz.prog 28 #[v, .int .i64 s] w fun e w' => (∃ r : Nat, e = .returned (.int .i64 (r : Int)) ∧ 0 < r ∧ r ≤ s + 2300000000000) ∧ OutS (fun b => L ≤ b ∧ b < U) w w' := by
  obtain ⟨g, h1, h2, h3⟩ := h
  refine (markShTxts s hs0 (by omega) hl h3.sh).mono ?_
  rintro e w' ⟨he, ho, _⟩
  exact ⟨⟨_, he, by omega, by omega⟩, ho.mono (fun b hb => by subst hb; exact ⟨h1, h2⟩)⟩
theorem CpTxts.below {B L U : Nat} {w w' : World} {v : Value} {l : List ByteArray} (h : CpTxts L U w v l) (hb : Below B w w') (hU : U ≤ B) : CpTxts L U w' v l := h.keepU (fun b _ hb2 => hb.block b (Nat.lt_of_lt_of_le hb2 hU))
theorem CpTxts.outS {S : Nat → Prop} {L U : Nat} {w w' : World} {v : Value} {l : List ByteArray} (h : CpTxts L U w v l) (ho : OutS S w w') (hS : ∀ b, S b → b < L ∨ U ≤ b) (hU : U ≤ w.heap.size) : CpTxts L U w' v l := h.keepU (fun b h1 h2 => ho.block b (Nat.lt_of_lt_of_le h2 hU) (fun hs => by have := hS b hs; omega))
/-- What a Watch answers, whatever it is. -/
def WatchC (f : Nat) (T : World → Prop) (C0 : (List Layer) → (List Layer) → (List ByteArray) → List Change) (C1 : (List Layer) → (List Layer) → (List ByteArray) → Int) : Prop := ∀ (S : Nat → Prop) (l0 : List Layer) (l1 : List Layer) (l2 : List ByteArray) (v0 : Value) (v1 : Value) (v2 : Value) (w : World), (∀ b, S b → b < w.heap.size) → LayersAt S w v0 l0 → l0.length ≤ 1048576 → (∀ x ∈ l0, LayersOK 1048576 x) → LayersAt S w v1 l1 → l1.length ≤ 1048576 → (∀ x ∈ l1, LayersOK 1048576 x) → TxtsAt S w v2 l2 → l2.length ≤ 1048576 → (∀ x ∈ l2, TxtsOK 1048576 x) → (∀ W, Below w.heap.size w W → T W) →
  Calls Tryz.prog f #[v0, v1, v2] w fun e w' => (∃ p0, e = .returned (.tuple #[p0, .int .i64 (C1 l0 l1 l2)]) ∧ OwnChanges w.heap.size w' p0 (C0 l0 l1 l2)) ∧ Below w.heap.size w w'

set_option maxRecDepth 100000 in
set_option maxHeartbeats 16000000 in
theorem watchWalk {T : World → Prop} {C0 : (List Layer) → (List Layer) → (List ByteArray) → List Change} {C1 : (List Layer) → (List Layer) → (List ByteArray) → Int} (hSp : WatchC 23 T C0 C1) (hIm : WatchC 25 T C0 C1) (hlen0 : ∀ l0 l1 l2, (C0 l0 l1 l2).length ≤ 1000000)
    (w : World) (v0 : Value) (v1 : Value) (v2 : Value) (l0 : List Layer) (l1 : List Layer) (l2 : List ByteArray) (h0 : LayersAt (fun b => b < w.heap.size) w v0 l0) (hf0 : ∀ y ∈ l0, LayersFit y) (h1 : LayersAt (fun b => b < w.heap.size) w v1 l1) (hf1 : ∀ y ∈ l1, LayersFit y) (h2 : TxtsAt (fun b => b < w.heap.size) w v2 l2) (hf2 : ∀ y ∈ l2, TxtsFit y) (hT : ∀ W, Below w.heap.size w W → T W) :
    Calls Tryz.prog 5 #[v0, v1, v2] w fun e w' => e = .returned (.bool true) ∧ Below w.heap.size w w' := by
  have HT : Hid (∀ W, Below w.heap.size w W → T W) := hT
  have HR0 : Hid (LayersAt (fun b => b < w.heap.size) w v0 l0) := h0
  have HF0 : Hid (∀ y ∈ l0, LayersFit y) := hf0
  obtain ⟨a0, cap0, hv0⟩ := h0.shape
  subst hv0
  have HR1 : Hid (LayersAt (fun b => b < w.heap.size) w v1 l1) := h1
  have HF1 : Hid (∀ y ∈ l1, LayersFit y) := hf1
  obtain ⟨a1, cap1, hv1⟩ := h1.shape
  subst hv1
  have HR2 : Hid (TxtsAt (fun b => b < w.heap.size) w v2 l2) := h2
  have HF2 : Hid (∀ y ∈ l2, TxtsFit y) := hf2
  obtain ⟨a2, cap2, hv2⟩ := h2.shape
  subst hv2
  have hP0 := hlen0 l0 l1 l2
  have cs := fun S v0 v1 v2 w => hSp S l0 l1 l2 v0 v1 v2 w
  have ci := fun S v0 v1 v2 w => hIm S l0 l1 l2 v0 v1 v2 w
  obtain ⟨P0, hPe0⟩ : ∃ P, C0 l0 l1 l2 = P := ⟨_, rfl⟩
  rw [hPe0] at cs ci hP0
  clear hPe0
  obtain ⟨P1, hPe1⟩ : ∃ P, C1 l0 l1 l2 = P := ⟨_, rfl⟩
  rw [hPe1] at cs ci
  clear hPe1
  clear hSp hIm hT h0 hf0 h1 hf1 h2 hf2 hlen0
  have ct0 : l0.length ≤ 1048576 → (∀ x ∈ l0, LayersOK 1048576 x) → ∀ W, Below w.heap.size w W → Calls Tryz.prog 11 #[.slice a0 l0.length cap0] W fun e w' => (∃ v', e = .returned v' ∧ CpLayers W.heap.size w'.heap.size w' v' l0) ∧ Below W.heap.size W w' := fun h1 h2 W hW =>
    cpToLayers (S := fun b => b < w.heap.size) (fun b hb => Nat.lt_of_lt_of_le hb hW.size) (HR0.out.keep (cells_below (fun b hb => hb) hW)) h1 h2
  have ct1 : l1.length ≤ 1048576 → (∀ x ∈ l1, LayersOK 1048576 x) → ∀ W, Below w.heap.size w W → Calls Tryz.prog 11 #[.slice a1 l1.length cap1] W fun e w' => (∃ v', e = .returned v' ∧ CpLayers W.heap.size w'.heap.size w' v' l1) ∧ Below W.heap.size W w' := fun h1 h2 W hW =>
    cpToLayers (S := fun b => b < w.heap.size) (fun b hb => Nat.lt_of_lt_of_le hb hW.size) (HR1.out.keep (cells_below (fun b hb => hb) hW)) h1 h2
  have ct2 : l2.length ≤ 1048576 → (∀ x ∈ l2, TxtsOK 1048576 x) → ∀ W, Below w.heap.size w W → Calls Tryz.prog 24 #[.slice a2 l2.length cap2] W fun e w' => (∃ v', e = .returned v' ∧ CpTxts W.heap.size w'.heap.size w' v' l2) ∧ Below W.heap.size W w' := fun h1 h2 W hW =>
    cpToTxts (S := fun b => b < w.heap.size) (fun b hb => Nat.lt_of_lt_of_le hb hW.size) (HR2.out.keep (cells_below (fun b hb => hb) hW)) h1 h2
  go_enter Tryz.func5, Tryz.ntmps5
  have hbq : Below w.heap.size w w := Below.refl _ w
  have hr1 : (1048576 : Int) ≤ 1048576 := by omega
  have hr0 : (0 : Int) ≤ 1048576 := by omega
  have cz0 := szLayerS (w := w) (fun b hb => Nat.lt_of_lt_of_le hb hbq.size) (HR0.out.keep (cells_below (fun b hb => hb) hbq)) HF0.out (1048576) hr0 hr1
  go_upto_region 2 with fail
  go_cut [7] from 20 (fun s3 wx => ∃ r : Int, s3 = .int .i64 r ∧ (r = -1 ∨ (0 ≤ r ∧ r ≤ 1048576 ∧ (l0.length : Int) ≤ 1048576 ∧ ∀ x ∈ l0, LayersOK (1048576) x)) ∧ Below w.heap.size w wx)
  case first =>
    go_wp2_with (go_at_call 8; go_must (refine cz0.mono ?_; rintro e w1 ⟨⟨r, rfl, hr⟩, hb1⟩))
    go_meet
    exact ⟨r, rfl, hr, good_below hbq hb1⟩
  case rest =>
    clear cz0
    obtain ⟨r0, rfl, hr, hbq0⟩ := hcut
    rcases hr with rfl | ⟨ha0, hc0, hll0, hok0⟩
    case inl =>
      go_wp2_with fail
      go_ret
      exact ⟨rfl, hbq0⟩
    have hok0' : ∀ x ∈ l0, LayersOK 1048576 x := fun x hx => (hok0 x hx).mono (by omega)
    have HOK0 : Hid (∀ x ∈ l0, LayersOK 1048576 x) := hok0'
    have hlc0 : l0.length ≤ 1048576 := by omega
    have hrn0 : ¬ (r0 < 0) := by omega
    clear hok0 hok0' hbq hr0 hr1
    obtain ⟨wq0, hwq0⟩ : ∃ wq, wq = wc := ⟨_, rfl⟩
    subst hwq0
    have hbq := hbq0
    have hr0 := ha0
    have hr1 : r0 ≤ 1048576 := by omega
    clear hbq0
    have cz1 := szLayerS (w := wq0) (fun b hb => Nat.lt_of_lt_of_le hb hbq.size) (HR1.out.keep (cells_below (fun b hb => hb) hbq)) HF1.out (r0) hr0 hr1
    go_upto_region 5 with fail
    go_cut [7] from 20 (fun s3 wx => ∃ r : Int, s3 = .int .i64 r ∧ (r = -1 ∨ (0 ≤ r ∧ r ≤ r0 ∧ (l1.length : Int) ≤ r0 ∧ ∀ x ∈ l1, LayersOK (r0) x)) ∧ Below w.heap.size w wx)
    case first =>
      go_wp2_with (go_at_call 8; go_must (refine cz1.mono ?_; rintro e w1 ⟨⟨r, rfl, hr⟩, hb1⟩))
      go_meet
      exact ⟨r, rfl, hr, good_below hbq hb1⟩
    case rest =>
      clear cz1
      obtain ⟨r1, rfl, hr, hbq1⟩ := hcut
      rcases hr with rfl | ⟨ha1, hc1, hll1, hok1⟩
      case inl =>
        go_wp2_with fail
        go_ret
        exact ⟨rfl, hbq1⟩
      have hok1' : ∀ x ∈ l1, LayersOK 1048576 x := fun x hx => (hok1 x hx).mono (by omega)
      have HOK1 : Hid (∀ x ∈ l1, LayersOK 1048576 x) := hok1'
      have hlc1 : l1.length ≤ 1048576 := by omega
      have hrn1 : ¬ (r1 < 0) := by omega
      clear hok1 hok1' hbq hr0 hr1
      obtain ⟨wq1, hwq1⟩ : ∃ wq, wq = wc := ⟨_, rfl⟩
      subst hwq1
      have hbq := hbq1
      have hr0 := ha1
      have hr1 : r1 ≤ 1048576 := by omega
      clear hbq1
      have cz2 := szStringS (w := wq1) (fun b hb => Nat.lt_of_lt_of_le hb hbq.size) (HR2.out.keep (cells_below (fun b hb => hb) hbq)) HF2.out (r1) hr0 hr1
      go_upto_region 8 with fail
      go_cut [7] from 20 (fun s3 wx => ∃ r : Int, s3 = .int .i64 r ∧ (r = -1 ∨ (0 ≤ r ∧ r ≤ r1 ∧ (l2.length : Int) ≤ r1 ∧ ∀ x ∈ l2, TxtsOK (r1) x)) ∧ Below w.heap.size w wx)
      case first =>
        go_wp2_with (go_at_call 22; go_must (refine cz2.mono ?_; rintro e w1 ⟨⟨r, rfl, hr⟩, hb1⟩))
        go_meet
        exact ⟨r, rfl, hr, good_below hbq hb1⟩
      case rest =>
        clear cz2
        obtain ⟨r2, rfl, hr, hbq2⟩ := hcut
        rcases hr with rfl | ⟨ha2, hc2, hll2, hok2⟩
        case inl =>
          go_wp2_with fail
          go_ret
          exact ⟨rfl, hbq2⟩
        have hok2' : ∀ x ∈ l2, TxtsOK 1048576 x := fun x hx => (hok2 x hx).mono (by omega)
        have HOK2 : Hid (∀ x ∈ l2, TxtsOK 1048576 x) := hok2'
        have hlc2 : l2.length ≤ 1048576 := by omega
        have hrn2 : ¬ (r2 < 0) := by omega
        clear hok2 hok2' hbq hr0 hr1
        obtain ⟨wq2, hwq2⟩ : ∃ wq, wq = wc := ⟨_, rfl⟩
        subst hwq2
        have hbq := hbq2
        have hr0 := ha2
        have hr1 : r2 ≤ 1048576 := by omega
        clear hbq2
        have cs' := fun S v0 v1 v2 W (hW : Below w.heap.size w W) hS h0 h1 h2 => cs S v0 v1 v2 W hS h0 hlc0 HOK0.out h1 hlc1 HOK1.out h2 hlc2 HOK2.out (fun W' hW' => HT.out W' (good_below hW hW'))
        have ci' := fun S v0 v1 v2 W (hW : Below w.heap.size w W) hS h0 h1 h2 => ci S v0 v1 v2 W hS h0 hlc0 HOK0.out h1 hlc1 HOK1.out h2 hlc2 HOK2.out (fun W' hW' => HT.out W' (good_below hW hW'))
        clear cs ci
        go_upto_region 11 with fail
        go_cut [8, 9] from 20 (fun s8 s9 wx => s9 = .int .i64 P1 ∧ (∃ B, OwnChanges B wx s8 P0) ∧ Below w.heap.size w wx)
        case first =>
          go_wp2_with (first
                    | (go_at_call 23; have hchk := bs2; refine (cs' (fun b => b < ws2.heap.size) _ _ _ _ Bs2 (fun b hb => hb) ((ks0_2).at.mono (S' := fun b => b < ws2.heap.size) (fun b hb => Nat.lt_of_lt_of_le hb.2 (us0_2))) ((ks1_2).at.mono (S' := fun b => b < ws2.heap.size) (fun b hb => Nat.lt_of_lt_of_le hb.2 (us1_2))) ((ks2).at.mono (S' := fun b => b < ws2.heap.size) (fun b hb => Nat.lt_of_lt_of_le hb.2 (Nat.le_refl _)))).mono ?_; rintro e ws ⟨⟨qs0, rfl, os0⟩, bs⟩; have Bs := good_below Bs2 bs)
                    | (go_at_call 24; have hchk := bs1; refine (ct2 hlc2 HOK2.out _ Bs1).mono ?_; rintro e ws2 ⟨⟨ys2, rfl, ks2⟩, bs2⟩; have Bs2 := good_below Bs1 bs2; have ks0_2 := CpLayers.below ks0_1 bs2 (us0_1); have us0_2 := Nat.le_trans (us0_1) bs2.size; have ks1_2 := CpLayers.below ks1 bs2 (Nat.le_refl _); have us1_2 := Nat.le_trans (Nat.le_refl _) bs2.size)
                    | (go_at_call 11; have hchk := bs0; refine (ct1 hlc1 HOK1.out _ Bs0).mono ?_; rintro e ws1 ⟨⟨ys1, rfl, ks1⟩, bs1⟩; have Bs1 := good_below Bs0 bs1; have ks0_1 := CpLayers.below ks0 bs1 (Nat.le_refl _); have us0_1 := Nat.le_trans (Nat.le_refl _) bs1.size)
                    | (go_at_call 11; refine (ct0 hlc0 HOK0.out _ hbq).mono ?_; rintro e ws0 ⟨⟨ys0, rfl, ks0⟩, bs0⟩; have Bs0 := good_below hbq bs0))
          go_meet
          exact ⟨rfl, ⟨_, os0⟩, Bs⟩
        case rest =>
          obtain ⟨rfl, ⟨Bw0, ow0⟩, hb5⟩ := hcut
          obtain ⟨aw0, cw0, hvw0, -⟩ := ow0.value
          subst hvw0
          clear cs' hbq
          obtain ⟨w5, hw5⟩ : ∃ w5, w5 = wc := ⟨_, rfl⟩
          subst hw5
          have K5 : Below w5.heap.size w5 w5 := Below.refl _ _
          have hneg0 : ¬ ((1 : Int) + 3 * (P0.length : Int) < 0) := by omega
          go_upto_region 38 with (first
                        | (go_at_call 30; have hchk := on0; refine (heldChangeS (by omega) (by omega) (by omega) dn0).mono ?_; rintro e wp0 ⟨rfl, bp0⟩; have Kp0 := good_below Kn0 bp0; have D0_p0 := MkdChanges.below dn0 bp0)
                        | (go_at_call 29; have hchk := bi0; refine (markOwnChanges (1) (by omega) (by omega) (by omega) G0_i0).mono ?_; rintro e wn0 ⟨rfl, on0, dn0⟩; have Kn0 := Below.trans Ki0 (OutS.below on0 (fun b hb => Nat.le_trans HWX.out (OwnChanges.blk G0_i0 hb)) Ki0.size))
                        | (go_at_call 26; have hchk := om2; refine (eqChangeS (fun b hb => hb.2) (fun b hb => hb.2) G0_m2.at (OwnChanges.below ow0 Km2).at).mono ?_; rintro e wi0 ⟨rfl, bi0⟩; have Ki0 := good_below Km2 bi0; have G0_i0 := OwnChanges.below G0_m2 bi0)
                        | (go_at_call 28; have hchk := om1; refine (cpMarkTxts (rm1) (by omega) (by omega) hlc2 HOK2.out uX2_m1 X2_m1).mono ?_; rintro e wm2 ⟨⟨rm2, rfl, pm2, zm2⟩, om2⟩; have Km2 := Below.trans Km1 (OutS.below om2 (fun b hb => Nat.le_trans Lw2.out hb.1) Km1.size); have G0_m2 := OwnChanges.out G0_m1 om2 (fun b hb => Nat.lt_of_lt_of_le hb.2 (Nat.le_refl _)); have hneg : ¬ ((rm2 : Int) < 0) := by omega)
                        | (go_at_call 17; have hchk := om0; refine (cpMarkLayers (rm0) (by omega) (by omega) hlc1 HOK1.out uX1_m0 X1_m0).mono ?_; rintro e wm1 ⟨⟨rm1, rfl, pm1, zm1⟩, om1⟩; have Km1 := Below.trans Km0 (OutS.below om1 (fun b hb => Nat.le_trans Lw1.out hb.1) Km0.size); have X2_m1 := CpTxts.outS X2_m0 om1 (fun b hb => .inl (Nat.lt_of_lt_of_le hb.2 (Nat.le_refl _))) uX2_m0; have uX2_m1 := Nat.le_trans uX2_m0 om1.size; have G0_m1 := OwnChanges.out G0_m0 om1 (fun b hb => Nat.lt_of_lt_of_le hb.2 (bx2.size)))
                        | (go_at_call 17; have hchk := bh2; refine (cpMarkLayers (1) (by omega) (by omega) hlc0 HOK0.out uX0_h2 X0_h2).mono ?_; rintro e wm0 ⟨⟨rm0, rfl, pm0, zm0⟩, om0⟩; have Km0 := Below.trans Kh2 (OutS.below om0 (fun b hb => Nat.le_trans Lw0.out hb.1) Kh2.size); have X1_m0 := CpLayers.outS X1_h2 om0 (fun b hb => .inl (Nat.lt_of_lt_of_le hb.2 (Nat.le_refl _))) uX1_h2; have uX1_m0 := Nat.le_trans uX1_h2 om0.size; have X2_m0 := CpTxts.outS X2_h2 om0 (fun b hb => .inl (Nat.lt_of_lt_of_le hb.2 (bx1.size))) uX2_h2; have uX2_m0 := Nat.le_trans uX2_h2 om0.size; have G0_m0 := OwnChanges.out G0_h2 om0 (fun b hb => Nat.lt_of_lt_of_le hb.2 ((Nat.le_trans bx1.size bx2.size))))
                        | (go_at_call 27; have hchk := bf2; refine (eqStringS (fun b hb => Nat.lt_of_lt_of_le hb.2 uX2_f2) (fun b hb => hb.2) X2_f2.at kf2.at).mono ?_; rintro e wh2 ⟨rfl, bh2⟩; have Kh2 := good_below Kf2 bh2; have X0_h2 := CpLayers.below X0_f2 bh2 uX0_f2; have uX0_h2 := Nat.le_trans uX0_f2 bh2.size; have X1_h2 := CpLayers.below X1_f2 bh2 uX1_f2; have uX1_h2 := Nat.le_trans uX1_f2 bh2.size; have X2_h2 := CpTxts.below X2_f2 bh2 uX2_f2; have uX2_h2 := Nat.le_trans uX2_f2 bh2.size; have G0_h2 := OwnChanges.below G0_f2 bh2)
                        | (go_at_call 24; have hchk := bh1; refine (ct2 hlc2 HOK2.out _ (good_below hb5 Kh1)).mono ?_; rintro e wf2 ⟨⟨yf2, rfl, kf2⟩, bf2⟩; have Kf2 := good_below Kh1 bf2; have X0_f2 := CpLayers.below X0_h1 bf2 uX0_h1; have uX0_f2 := Nat.le_trans uX0_h1 bf2.size; have X1_f2 := CpLayers.below X1_h1 bf2 uX1_h1; have uX1_f2 := Nat.le_trans uX1_h1 bf2.size; have X2_f2 := CpTxts.below X2_h1 bf2 uX2_h1; have uX2_f2 := Nat.le_trans uX2_h1 bf2.size; have G0_f2 := OwnChanges.below G0_h1 bf2)
                        | (go_at_call 15; have hchk := bf1; refine (eqLayerS (fun b hb => Nat.lt_of_lt_of_le hb.2 uX1_f1) (fun b hb => hb.2) X1_f1.at kf1.at).mono ?_; rintro e wh1 ⟨rfl, bh1⟩; have Kh1 := good_below Kf1 bh1; have X0_h1 := CpLayers.below X0_f1 bh1 uX0_f1; have uX0_h1 := Nat.le_trans uX0_f1 bh1.size; have X1_h1 := CpLayers.below X1_f1 bh1 uX1_f1; have uX1_h1 := Nat.le_trans uX1_f1 bh1.size; have X2_h1 := CpTxts.below X2_f1 bh1 uX2_f1; have uX2_h1 := Nat.le_trans uX2_f1 bh1.size; have G0_h1 := OwnChanges.below G0_f1 bh1)
                        | (go_at_call 11; have hchk := bh0; refine (ct1 hlc1 HOK1.out _ (good_below hb5 Kh0)).mono ?_; rintro e wf1 ⟨⟨yf1, rfl, kf1⟩, bf1⟩; have Kf1 := good_below Kh0 bf1; have X0_f1 := CpLayers.below X0_h0 bf1 uX0_h0; have uX0_f1 := Nat.le_trans uX0_h0 bf1.size; have X1_f1 := CpLayers.below X1_h0 bf1 uX1_h0; have uX1_f1 := Nat.le_trans uX1_h0 bf1.size; have X2_f1 := CpTxts.below X2_h0 bf1 uX2_h0; have uX2_f1 := Nat.le_trans uX2_h0 bf1.size; have G0_f1 := OwnChanges.below G0_h0 bf1)
                        | (go_at_call 15; have hchk := bf0; refine (eqLayerS (fun b hb => Nat.lt_of_lt_of_le hb.2 uX0_f0) (fun b hb => hb.2) X0_f0.at kf0.at).mono ?_; rintro e wh0 ⟨rfl, bh0⟩; have Kh0 := good_below Kf0 bh0; have X0_h0 := CpLayers.below X0_f0 bh0 uX0_f0; have uX0_h0 := Nat.le_trans uX0_f0 bh0.size; have X1_h0 := CpLayers.below X1_f0 bh0 uX1_f0; have uX1_h0 := Nat.le_trans uX1_f0 bh0.size; have X2_h0 := CpTxts.below X2_f0 bh0 uX2_f0; have uX2_h0 := Nat.le_trans uX2_f0 bh0.size; have G0_h0 := OwnChanges.below G0_f0 bh0)
                        | (go_at_call 11; have hchk := be0; refine (ct0 hlc0 HOK0.out _ (good_below hb5 Ke0)).mono ?_; rintro e wf0 ⟨⟨yf0, rfl, kf0⟩, bf0⟩; have Kf0 := good_below Ke0 bf0; have X0_f0 := CpLayers.below X0_e0 bf0 uX0_e0; have uX0_f0 := Nat.le_trans uX0_e0 bf0.size; have X1_f0 := CpLayers.below X1_e0 bf0 uX1_e0; have uX1_f0 := Nat.le_trans uX1_e0 bf0.size; have X2_f0 := CpTxts.below X2_e0 bf0 uX2_e0; have uX2_f0 := Nat.le_trans uX2_e0 bf0.size; have G0_f0 := OwnChanges.below G0_e0 bf0)
                        | (go_at_call 26; have hchk := bg; refine (eqChangeS (fun b hb => hb.2) (fun b hb => hb.2) og0.at (OwnChanges.below ow0 Kg).at).mono ?_; rintro e we0 ⟨rfl, be0⟩; have Ke0 := good_below Kg be0; have X0_e0 := CpLayers.below X0_g be0 uX0_g; have uX0_e0 := Nat.le_trans uX0_g be0.size; have X1_e0 := CpLayers.below X1_g be0 uX1_g; have uX1_e0 := Nat.le_trans uX1_g be0.size; have X2_e0 := CpTxts.below X2_g be0 uX2_g; have uX2_e0 := Nat.le_trans uX2_g be0.size; have G0_e0 := OwnChanges.below og0 be0)
                        | (go_at_call 25; have hchk := bx2; refine (ci' (fun b => b < wx2.heap.size) _ _ _ _ (good_below hb5 Kx2) (fun b hb => hb) (X0_x2.at.mono (S' := fun b => b < wx2.heap.size) (fun b hb => Nat.lt_of_lt_of_le hb.2 uX0_x2)) (X1_x2.at.mono (S' := fun b => b < wx2.heap.size) (fun b hb => Nat.lt_of_lt_of_le hb.2 uX1_x2)) (kx2.at.mono (S' := fun b => b < wx2.heap.size) (fun b hb => Nat.lt_of_lt_of_le hb.2 Ux2))).mono ?_; rintro e wg ⟨⟨qg0, rfl, og0⟩, bg⟩; have Kg := good_below Kx2 bg; have X0_g := CpLayers.below X0_x2 bg uX0_x2; have uX0_g := Nat.le_trans uX0_x2 bg.size; have X1_g := CpLayers.below X1_x2 bg uX1_x2; have uX1_g := Nat.le_trans uX1_x2 bg.size; have X2_g := CpTxts.below kx2 bg Ux2; have uX2_g := Nat.le_trans Ux2 bg.size; have HWX : Hid (w5.heap.size ≤ wx2.heap.size) := Kx2.size; obtain ⟨ag0, cg0, hvg0, -⟩ := og0.value; subst hvg0)
                        | (go_at_call 24; have hchk := bx1; refine (ct2 hlc2 HOK2.out _ (good_below hb5 Kx1)).mono ?_; rintro e wx2 ⟨⟨yx2, rfl, kx2⟩, bx2⟩; have Kx2 := good_below Kx1 bx2; have X0_x2 := CpLayers.below X0_x1 bx2 uX0_x1; have uX0_x2 := Nat.le_trans uX0_x1 bx2.size; have X1_x2 := CpLayers.below kx1 bx2 Ux1; have uX1_x2 := Nat.le_trans Ux1 bx2.size; have Ux2 : wx2.heap.size ≤ wx2.heap.size := Nat.le_refl _; have Lw2 : Hid (w5.heap.size ≤ wx1.heap.size) := Kx1.size)
                        | (go_at_call 11; have hchk := bx0; refine (ct1 hlc1 HOK1.out _ (good_below hb5 Kx0)).mono ?_; rintro e wx1 ⟨⟨yx1, rfl, kx1⟩, bx1⟩; have Kx1 := good_below Kx0 bx1; have X0_x1 := CpLayers.below kx0 bx1 Ux0; have uX0_x1 := Nat.le_trans Ux0 bx1.size; have Ux1 : wx1.heap.size ≤ wx1.heap.size := Nat.le_refl _; have Lw1 : Hid (w5.heap.size ≤ wx0.heap.size) := Kx0.size)
                        | (go_at_call 11; refine (ct0 hlc0 HOK0.out _ (good_below hb5 K5)).mono ?_; rintro e wx0 ⟨⟨yx0, rfl, kx0⟩, bx0⟩; have Kx0 := good_below K5 bx0; have Ux0 : wx0.heap.size ≤ wx0.heap.size := Nat.le_refl _; have Lw0 : Hid (w5.heap.size ≤ w5.heap.size) := K5.size))
          have hb22 := good_below hb5 Kp0
          have ow22_0 := OwnChanges.below ow0 Kp0
          have dm22_0 := D0_p0
          obtain ⟨w22, hw22⟩ : ∃ w22, w22 = wp0 := ⟨_, rfl⟩
          subst hw22
          have HB22 : Hid (Below w.heap.size w w22) := hb22
          go_cut [18, 19] from 20 (fun s18 s19 wx => s19 = .int .i64 P1 ∧ (∃ B, OwnChanges B wx s18 P0) ∧ Below w22.heap.size w22 wx)
          case first =>
            go_wp2_with (first
                        | (go_at_call 25; have hchk := bz2; refine (ci' (fun b => b < wz2.heap.size) _ _ _ _ Bz2 (fun b hb => hb) ((kz0_2).at.mono (S' := fun b => b < wz2.heap.size) (fun b hb => Nat.lt_of_lt_of_le hb.2 (uz0_2))) ((kz1_2).at.mono (S' := fun b => b < wz2.heap.size) (fun b hb => Nat.lt_of_lt_of_le hb.2 (uz1_2))) ((kz2).at.mono (S' := fun b => b < wz2.heap.size) (fun b hb => Nat.lt_of_lt_of_le hb.2 (Nat.le_refl _)))).mono ?_; rintro e wz ⟨⟨qz0, rfl, oz0⟩, bz⟩)
                        | (go_at_call 24; have hchk := bz1; refine (ct2 hlc2 HOK2.out _ Bz1).mono ?_; rintro e wz2 ⟨⟨yz2, rfl, kz2⟩, bz2⟩; have Bz2 := good_below Bz1 bz2; have kz0_2 := CpLayers.below kz0_1 bz2 (uz0_1); have uz0_2 := Nat.le_trans (uz0_1) bz2.size; have kz1_2 := CpLayers.below kz1 bz2 (Nat.le_refl _); have uz1_2 := Nat.le_trans (Nat.le_refl _) bz2.size)
                        | (go_at_call 11; have hchk := bz0; refine (ct1 hlc1 HOK1.out _ Bz0).mono ?_; rintro e wz1 ⟨⟨yz1, rfl, kz1⟩, bz1⟩; have Bz1 := good_below Bz0 bz1; have kz0_1 := CpLayers.below kz0 bz1 (Nat.le_refl _); have uz0_1 := Nat.le_trans (Nat.le_refl _) bz1.size)
                        | (go_at_call 11; refine (ct0 hlc0 HOK0.out _ HB22.out).mono ?_; rintro e wz0 ⟨⟨yz0, rfl, kz0⟩, bz0⟩; have Bz0 := good_below HB22.out bz0))
            go_meet
            exact ⟨rfl, ⟨_, oz0⟩, good_below (good_below (good_below bz0 bz1) bz2) bz⟩
          case rest =>
            obtain ⟨rfl, ⟨Bh0, oh0⟩, bh⟩ := hcut
            go_wp2_with (first
                            | (go_at_call 30; have hchk := bj0; refine (heldChangeS (by omega) (by omega) (by omega) (MkdChanges.below dm22_0 Kj0)).mono ?_; rintro e wk0 ⟨rfl, bk0⟩; have Kk0 := good_below Kj0 bk0)
                            | (go_at_call 26; refine (eqChangeS (fun b hb => hb.2) (fun b hb => hb.2) oh0.at (OwnChanges.below ow22_0 bh).at).mono ?_; rintro e wj0 ⟨rfl, bj0⟩; have Kj0 := good_below bh bj0))
            go_ret
            exact ⟨rfl, good_below HB22.out Kk0⟩
end Go.Proofs.YtoopdcbgnccmiaaGreatDoor

namespace Go.Proofs.YtoopdcbgnccmiaaGreatDoor
open Go.ChangeShapes Go.WideShapes Go.ChangeAt Go.RowKit
set_option linter.unusedVariables false
set_option linter.unusedSimpArgs false

structure Rule where
  path : ByteArray
  kind : Int
  min' : Int
  max' : Int
  choices : List ByteArray
  must : Bool
  default' : ByteArray
/-- The slice v reads in w, out of blocks of S, as these. -/
def RulesAt (S : Nat → Prop) (w : World) (v : Value) (l : List Rule) : Prop := l.length ≤ maxLen ∧ ∃ a cap, v = .slice a l.length cap ∧ (0 < l.length → ∃ b off, a = some ⟨b, off, none⟩ ∧ S b ∧
  ∀ i (h : i < l.length), w.cell? ⟨b, off + i * 7, none⟩ = some (.string l[i].path) ∧ w.cell? ⟨b, off + i * 7 + 1, none⟩ = some (.int .i64 l[i].kind) ∧ w.cell? ⟨b, off + i * 7 + 2, none⟩ = some (.int .i64 l[i].min') ∧ w.cell? ⟨b, off + i * 7 + 3, none⟩ = some (.int .i64 l[i].max') ∧ w.cell? ⟨b, off + i * 7 + 5, none⟩ = some (.bool l[i].must) ∧ w.cell? ⟨b, off + i * 7 + 6, none⟩ = some (.string l[i].default') ∧ ∃ nv, w.cell? ⟨b, off + i * 7 + 4, none⟩ = some nv ∧ TxtsAt S w nv l[i].choices)
theorem RulesAt.keep {S : Nat → Prop} {w w' : World} {v : Value} {l : List Rule} (h : RulesAt S w v l) (hk : ∀ b i, S b → w'.cell? ⟨b, i, none⟩ = w.cell? ⟨b, i, none⟩) : RulesAt S w' v l := by
  obtain ⟨hl, a, cap, hv, h⟩ := h
  refine ⟨hl, a, cap, hv, fun h0 => ?_⟩
  obtain ⟨b, off, ha, hbB, hc⟩ := h h0
  refine ⟨b, off, ha, hbB, fun i hi => ?_⟩
  obtain ⟨c0, c1, c2, c3, c5, c6, nv, d1, d2⟩ := hc i hi
  exact ⟨(hk _ _ hbB).trans c0, (hk _ _ hbB).trans c1, (hk _ _ hbB).trans c2, (hk _ _ hbB).trans c3, (hk _ _ hbB).trans c5, (hk _ _ hbB).trans c6, nv, (hk _ _ hbB).trans d1, d2.keep hk⟩
theorem RulesAt.mono {S S' : Nat → Prop} {w : World} {v : Value} {l : List Rule} (h : RulesAt S w v l) (hS : ∀ b, S b → S' b) : RulesAt S' w v l := by
  obtain ⟨hl, a, cap, hv, h⟩ := h
  refine ⟨hl, a, cap, hv, fun h0 => ?_⟩
  obtain ⟨b, off, ha, hbB, hc⟩ := h h0
  refine ⟨b, off, ha, hS b hbB, fun i hi => ?_⟩
  obtain ⟨c0, c1, c2, c3, c5, c6, nv, d1, d2⟩ := hc i hi
  exact ⟨c0, c1, c2, c3, c5, c6, nv, d1, d2.mono hS⟩
theorem RulesAt.shape {S : Nat → Prop} {w : World} {v : Value} {l : List Rule} (h : RulesAt S w v l) : ∃ a c, v = .slice a l.length c := by
  obtain ⟨_, a, c, hv, _⟩ := h
  exact ⟨a, c, hv⟩
def RulesOK (left : Int) (x : Rule) : Prop := (x.path.size : Int) ≤ left ∧ (x.default'.size : Int) ≤ left ∧ (x.choices.length : Int) ≤ left ∧ ∀ y ∈ x.choices, TxtsOK left y
def RulesFit (x : Rule) : Prop := x.path.size ≤ maxLen ∧ x.default'.size ≤ maxLen ∧ ∀ y ∈ x.choices, TxtsFit y
theorem RulesOK.mono {a b : Int} {x : Rule} (h : RulesOK a x) (hab : a ≤ b) : RulesOK b x := by
  unfold RulesOK at *
  obtain ⟨h0, h1, h2, h3⟩ := h
  exact ⟨by omega, by omega, by omega, fun y hy => (h3 y hy).mono hab⟩
set_option maxRecDepth 100000 in
theorem szRule {S : Nat → Prop} (x : Rule) (nv : Value) (w : World) (hS : ∀ b, S b → b < w.heap.size) (h : TxtsAt S w nv x.choices) (hf : RulesFit x) (left : Int) (h0 : 0 ≤ left) (h1 : left ≤ 1048576) :
    Calls Tryz.prog 43 #[.agg #[.string x.path, .int .i64 x.kind, .int .i64 x.min', .int .i64 x.max', nv, .bool x.must, .string x.default'], .int .i64 left] w fun e w' => (∃ r : Int, e = .returned (.int .i64 r) ∧ (r = -1 ∨ (0 ≤ r ∧ r ≤ left ∧ RulesOK left x))) ∧ Below w.heap.size w w' := by
  have hw1 : ∀ o, Below w.heap.size w (w.alloc o) := fun o => (Below.refl _ w).alloc (Nat.le_refl _) _
  unfold RulesFit at hf
  obtain ⟨z0, z6, zz⟩ := hf
  have m0 : (x.path.size : Int) ≤ 9223372036854775807 := by have := z0; simp [maxLen] at this; omega
  have m6 : (x.default'.size : Int) ≤ 9223372036854775807 := by have := z6; simp [maxLen] at this; omega
  have cs := fun o left' (h0' : 0 ≤ left') (h1' : left' ≤ 1048576) => szStringS (w := w.alloc o) (fun b hb => Nat.lt_of_lt_of_le (hS b hb) (hw1 o).size) (h.keep (cells_below hS (hw1 o))) zz left' h0' h1'
  unfold RulesOK
  obtain ⟨x0, x1, x2, x3, x4, x5, x6⟩ := x
  dsimp only at cs m0 m6 ⊢
  clear h zz z0 z6
  by_cases n0 : left - (x0.size : Int) < 0
  · clear cs
    go_enter Tryz.func43, Tryz.ntmps43
    go_wp2_with fail
    go_ret
    exact ⟨⟨-1, rfl, .inl rfl⟩, hw1 _⟩
  have cs' := fun o => cs o (left - (x0.size : Int)) (by omega) (by omega)
  clear cs
  go_enter Tryz.func43, Tryz.ntmps43
  go_wp2_with (go_at_call 22; go_must (refine (cs' _).mono ?_; rintro e w1 ⟨⟨r1, rfl, hr⟩, hb1⟩; have hbk1 : Blk w1 w.heap.size 75 #[.string x0, .int .i64 x1, .int .i64 x2, .int .i64 x3, nv, .bool x5, .string x6] := Blk.below (heap_alloc_last w _) hb1; have p6 := hbk1.cell 6; simp at p6; clear hbk1))
  · go_ret
    exact ⟨⟨-1, rfl, .inl rfl⟩, good_below (hw1 _) hb1⟩
  · go_ret
    exact ⟨⟨-1, rfl, .inl rfl⟩, good_below (hw1 _) hb1⟩
  · go_ret
    rcases hr with h | ⟨q0, q1, q2, q3⟩
    · omega
    · exact ⟨⟨_, rfl, .inr ⟨by omega, by omega, by omega, by omega, by omega, fun y hy => (q3 y hy).mono (by omega)⟩⟩, good_below (hw1 _) hb1⟩
set_option maxRecDepth 100000 in
set_option maxHeartbeats 400000 in
theorem szRuleS {S : Nat → Prop} {l : List Rule} {v : Value} {w : World} (hS : ∀ b, S b → b < w.heap.size) (h : RulesAt S w v l) (hx : ∀ x ∈ l, RulesFit x) (left : Int) (h0 : 0 ≤ left) (h1 : left ≤ 1048576) :
    Calls Tryz.prog 7 #[v, .int .i64 left] w fun e w' => (∃ r : Int, e = .returned (.int .i64 r) ∧ (r = -1 ∨ (0 ≤ r ∧ r ≤ left ∧ (l.length : Int) ≤ left ∧ ∀ x ∈ l, RulesOK left x))) ∧ Below w.heap.size w w' := by
  have HX : Hid (∀ x ∈ l, RulesFit x) := hx
  obtain ⟨hlm, a, cap, rfl, hc⟩ := h
  have hlm' : (l.length : Int) ≤ 9223372036854775807 := by simp [maxLen] at hlm; omega
  clear hx hlm
  by_cases hn : left - (l.length : Int) < 0
  · clear hc
    go_enter Tryz.func7, Tryz.ntmps7
    go_wp2_with fail
    go_ret
    exact ⟨⟨-1, rfl, .inl rfl⟩, Below.refl _ _⟩
  · have HC : Hid _ := hc
    clear hc
    go_enter Tryz.func7, Tryz.ntmps7
    go_wp2_with fail
    go_loopw [1, 5] (fun i1 i5 wr => ∃ (k : Nat) (r : Int), i5 = .int .i64 (k : Int) ∧ i1 = .int .i64 r ∧ k ≤ l.length ∧ 0 ≤ r ∧ r ≤ left ∧ (∀ i (h : i < l.length), i < k → RulesOK left l[i]) ∧ Below w.heap.size w wr) (fun _ i5 _ => l.length - (intOf i5).toNat)
    case atStart => exact ⟨0, _, rfl, rfl, by omega, by omega, by omega, fun i _ h => by omega, Below.refl _ _⟩
    case round =>
      obtain ⟨k, r, rfl, rfl, hk, hr0, hr1, hall, hb⟩ := hrel
      have HA : Hid _ := hall
      clear hall
      by_cases hkn : k < l.length
      · have hkn' : (k : Int) < (l.length : Int) := by omega
        obtain ⟨b, off, rfl, hbB, hcell⟩ := HC.out (by omega)
        obtain ⟨c0, c1, c2, c3, c5, c6, nv, e1, e2⟩ := hcell k hkn
        have hbw : b < w.heap.size := hS b hbB
        have d0 := (hb.cell (p := ⟨b, off + k * 7, none⟩) hbw).trans c0
        have d1 := (hb.cell (p := ⟨b, off + k * 7 + 1, none⟩) hbw).trans c1
        have d2 := (hb.cell (p := ⟨b, off + k * 7 + 2, none⟩) hbw).trans c2
        have d3 := (hb.cell (p := ⟨b, off + k * 7 + 3, none⟩) hbw).trans c3
        have d5 := (hb.cell (p := ⟨b, off + k * 7 + 5, none⟩) hbw).trans c5
        have d6 := (hb.cell (p := ⟨b, off + k * 7 + 6, none⟩) hbw).trans c6
        have d4 := (hb.cell (p := ⟨b, off + k * 7 + 4, none⟩) hbw).trans e1
        have cs := szRule l[k] nv wr (fun b hbb => Nat.lt_of_lt_of_le (hS b hbb) hb.size) (e2.keep (cells_below hS hb)) (HX.out _ (List.getElem_mem hkn)) r hr0 (by omega)
        obtain ⟨x, hxk⟩ : ∃ x, l[k] = x := ⟨_, rfl⟩
        rw [hxk] at d0 d1 d2 d3 d5 d6 cs
        have HXK : Hid (l[k] = x) := hxk
        clear hxk c0 c1 c2 c3 c5 c6 e1 e2 hcell
        obtain ⟨x0, x1, x2, x3, x4, x5, x6⟩ := x
        dsimp only at d0 d1 d2 d3 d5 d6 cs
        go_wp2_with (go_at_call 43; go_must (refine cs.mono ?_; rintro e w1 ⟨⟨r1, rfl, hr⟩, hb1⟩))
        · go_ret
          exact ⟨⟨-1, rfl, .inl rfl⟩, good_below hb hb1⟩
        · have hr2 : 0 ≤ r1 := by omega
          have hr3 : r1 ≤ r ∧ RulesOK r ⟨x0, x1, x2, x3, x4, x5, x6⟩ := hr.elim (fun h => by omega) (fun h => h.2)
          refine ⟨⟨k + 1, r1, rfl, rfl, by omega, hr2, by omega, fun i hi hik => ?_, good_below hb hb1⟩, by simp [intOf]; omega⟩
          by_cases hik2 : i < k
          · exact HA.out i hi hik2
          · obtain rfl : i = k := by omega
            rw [HXK.out]
            exact hr3.2.mono hr1
      · have hkn' : ¬ ((k : Int) < (l.length : Int)) := by omega
        go_wp2_with fail
        go_ret
        refine ⟨⟨r, rfl, .inr ⟨hr0, hr1, by omega, fun x hx => ?_⟩⟩, hb⟩
        obtain ⟨i, hi, rfl⟩ := List.getElem_of_mem hx
        exact HA.out i hi (by omega)
end Go.Proofs.YtoopdcbgnccmiaaGreatDoor
