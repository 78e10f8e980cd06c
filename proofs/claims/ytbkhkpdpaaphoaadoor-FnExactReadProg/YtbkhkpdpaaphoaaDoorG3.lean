/-
  Rows are marked, and held again. No statement of the seat is proved here.
-/
import Derived.Test.YtbkhkpdpaaphoaaDoorG2
import Derived.Test.YtbkhkpdpaaphoaaDoorBytes
namespace Go.Proofs.YtbkhkpdpaaphoaaDoor
open Go.ChangeShapes Go.WideShapes Go.ChangeAt Go.RowKit
set_option linter.unusedVariables false
set_option linter.unusedSimpArgs false

/-- Of the blocks that were there, only some of S have turned. -/
structure OutS (S : Nat → Prop) (w w' : World) : Prop where
  os : w'.os = w.os
  tape : w'.tape = w.tape
  output : w'.output = w.output
  size : w.heap.size ≤ w'.heap.size
  block : ∀ k, k < w.heap.size → ¬ S k → w'.heap[k]? = w.heap[k]?
theorem OutS.refl (S : Nat → Prop) (w : World) : OutS S w w := ⟨rfl, rfl, rfl, Nat.le_refl _, fun _ _ _ => rfl⟩
theorem OutS.trans {S : Nat → Prop} {a b c : World} (h : OutS S a b) (k : OutS S b c) : OutS S a c :=
  ⟨k.os.trans h.os, k.tape.trans h.tape, k.output.trans h.output, Nat.le_trans h.size k.size, fun i hi hs => (k.block i (Nat.lt_of_lt_of_le hi h.size) hs).trans (h.block i hi hs)⟩
theorem OutS.mono {S S' : Nat → Prop} {a b : World} (h : OutS S a b) (hS : ∀ k, S k → S' k) : OutS S' a b :=
  ⟨h.os, h.tape, h.output, h.size, fun i hi hs => h.block i hi (fun h => hs (hS i h))⟩
theorem OutS.of {S : Nat → Prop} {a b : World} (h : Below a.heap.size a b) : OutS S a b := ⟨h.os, h.tape, h.output, h.size, fun i hi _ => h.block i hi⟩
theorem OutS.set {S : Nat → Prop} {a b : World} (h : OutS S a b) {g i : Nat} (hg : S g) (v : Value) : OutS S a (b.setCell ⟨g, i, none⟩ v) :=
  ⟨h.os, h.tape, h.output, by rw [World.size_setCell]; exact h.size, fun k hk hs => by rw [Below.heap_setCell _ _ _ _ (fun e => hs (by rw [e]; exact hg))]; exact h.block k hk hs⟩
theorem OutS.below {S : Nat → Prop} {a b : World} {B : Nat} (h : OutS S a b) (hS : ∀ k, S k → B ≤ k) (hB : B ≤ a.heap.size) : Below B a b :=
  ⟨h.os, h.tape, h.output, h.size, fun k hk => h.block k (by omega) (fun hs => by have := hS k hs; omega)⟩

/-- The block of a slice. -/
def BlkOf (v : Value) (b : Nat) : Prop := ∃ n c, v = .slice (some ⟨b, 0, none⟩) n c
theorem BlkOf.mk {b n c : Nat} : BlkOf (.slice (some ⟨b, 0, none⟩) n c) b := ⟨n, c, rfl⟩
theorem BlkOf.eq {g b n c : Nat} (h : BlkOf (.slice (some ⟨g, 0, none⟩) n c) b) : b = g := by
  obtain ⟨_, _, h⟩ := h
  injection h with h
  injection h with h
  injection h with h
  exact h.symm

def TxtsCells (x : ByteArray) : List Value := [.string x]
def TxtsRow (l : List ByteArray) : List Value := l.flatMap TxtsCells
theorem TxtsRow_length (l : List ByteArray) : (TxtsRow l).length = l.length * 1 := by
  induction l with
  | nil => rfl
  | cons a t ih => simp only [TxtsRow, List.flatMap_cons, List.length_append, List.length_cons] at ih ⊢; rw [ih]; simp [TxtsCells] <;> omega
theorem TxtsRow_append (l k : List ByteArray) : TxtsRow (l ++ k) = TxtsRow l ++ TxtsRow k := by simp [TxtsRow]
theorem TxtsRow_one {l : List ByteArray} {u : Value} (hu : u ∈ TxtsRow l) : u.oneCell' = true := by
  obtain ⟨x, _, hx⟩ := List.mem_flatMap.1 hu
  simp only [TxtsCells, List.mem_cons, List.mem_nil_iff, or_false] at hx
  subst hx; rfl
theorem TxtsRow_at (l : List ByteArray) (k : Nat) (hk : k < l.length) : (TxtsRow l)[k]? = some (.string l[k]) := by
  induction l generalizing k with
  | nil => simp at hk
  | cons a t ih =>
    have hc : TxtsRow (a :: t) = TxtsCells a ++ TxtsRow t := by simp [TxtsRow]
    rw [hc]
    cases k with
    | zero => simp [TxtsCells]
    | succ k =>
      rw [List.getElem?_append_right (by simp [TxtsCells] <;> omega)]
      have e0 : (k + 1) - (TxtsCells a).length = k := by simp [TxtsCells] <;> omega
      rw [e0]
      simpa using ih k (by simpa using hk)
/-- A row of one's own. -/
def OwnTxts (B : Nat) (w : World) (v : Value) (l : List ByteArray) : Prop := w.ownsRow B 9 1 v l.length (TxtsRow l)
theorem OwnTxts.below {B : Nat} {w w' : World} {v : Value} {l : List ByteArray} (h : OwnTxts B w v l) (hb : Below w.heap.size w w') : OwnTxts B w' v l := by
  obtain ⟨hl, h⟩ := h
  refine ⟨hl, ?_⟩
  rcases h with h | ⟨g, cap, cur, hv, hB, hg, h1, h2, h3, h4⟩
  · exact .inl h
  · refine .inr ⟨g, cap, cur, hv, hB, ?_, h1, h2, h3, h4⟩
    rw [hb.block g (Array.getElem?_eq_some_iff.1 hg).1]; exact hg
theorem OwnTxts.mono {B B' : Nat} {w : World} {v : Value} {l : List ByteArray} (h : OwnTxts B w v l) (hB : B' ≤ B) : OwnTxts B' w v l := by
  obtain ⟨hl, h⟩ := h
  refine ⟨hl, ?_⟩
  rcases h with h | ⟨g, cap, cur, hv, hg, h1⟩
  · exact .inl h
  · exact .inr ⟨g, cap, cur, hv, Nat.le_trans hB hg, h1⟩
theorem OwnTxts.value {B : Nat} {w : World} {v : Value} {l : List ByteArray} (h : OwnTxts B w v l) :
    ∃ a cap, v = .slice a l.length cap ∧ l.length ≤ maxLen ∧ (0 < l.length → ∃ g, a = some ⟨g, 0, none⟩ ∧ B ≤ g ∧ g < w.heap.size ∧ ∀ j (hj : j < l.length), w.cell? ⟨g, j, none⟩ = some (.string l[j])) := by
  rcases h.2 with ⟨rfl, h0⟩ | ⟨g, cap, cur, rfl, hB, hg, h1, h2, h3, h4⟩
  · exact ⟨none, 0, by rw [h0], by omega, fun h => by omega⟩
  · refine ⟨_, cap, rfl, by omega, fun _ => ⟨g, rfl, hB, (Array.getElem?_eq_some_iff.1 hg).1, fun j hj => ?_⟩⟩
    simp only [World.cell?, hg]
    have h5 := TxtsRow_at l j hj
    rw [← h4, List.getElem?_take, if_pos (by omega)] at h5
    simpa using h5
theorem OwnTxts.at {B : Nat} {w : World} {v : Value} {l : List ByteArray} (h : OwnTxts B w v l) : TxtsAt (fun b => B ≤ b ∧ b < w.heap.size) w v l := by
  obtain ⟨a, cap, hv, hl, hc⟩ := h.value
  refine ⟨hl, a, cap, hv, fun h0 => ?_⟩
  obtain ⟨g, rfl, hB, hg, hcell⟩ := hc h0
  refine ⟨g, 0, rfl, ⟨hB, hg⟩, fun i hi => ?_⟩
  simpa using hcell i hi
theorem OwnTxts.out {B : Nat} {S : Nat → Prop} {w w' : World} {v : Value} {l : List ByteArray} (h : OwnTxts B w v l) (ho : OutS S w w') (hS : ∀ b, S b → b < B) : OwnTxts B w' v l := by
  obtain ⟨hl, h⟩ := h
  refine ⟨hl, ?_⟩
  rcases h with h | ⟨g, cap, cur, hv, hB, hg, h1⟩
  · exact .inl h
  · refine .inr ⟨g, cap, cur, hv, hB, ?_, h1⟩
    rw [ho.block g (Array.getElem?_eq_some_iff.1 hg).1 (fun hs => by have := hS g hs; omega)]; exact hg
theorem OwnTxts.blk {B b : Nat} {w : World} {v : Value} {l : List ByteArray} (h : OwnTxts B w v l) (hb : BlkOf v b) : B ≤ b := by
  rcases h.2 with ⟨rfl, _⟩ | ⟨g, cap, cur, rfl, hB, _⟩
  · obtain ⟨_, _, h⟩ := hb; simp at h
  · rw [hb.eq]; exact hB
def NumsCells (x : Int) : List Value := [.int .i64 x]
def NumsRow (l : List Int) : List Value := l.flatMap NumsCells
theorem NumsRow_length (l : List Int) : (NumsRow l).length = l.length * 1 := by
  induction l with
  | nil => rfl
  | cons a t ih => simp only [NumsRow, List.flatMap_cons, List.length_append, List.length_cons] at ih ⊢; rw [ih]; simp [NumsCells] <;> omega
theorem NumsRow_append (l k : List Int) : NumsRow (l ++ k) = NumsRow l ++ NumsRow k := by simp [NumsRow]
theorem NumsRow_one {l : List Int} {u : Value} (hu : u ∈ NumsRow l) : u.oneCell' = true := by
  obtain ⟨x, _, hx⟩ := List.mem_flatMap.1 hu
  simp only [NumsCells, List.mem_cons, List.mem_nil_iff, or_false] at hx
  subst hx; rfl
theorem NumsRow_at (l : List Int) (k : Nat) (hk : k < l.length) : (NumsRow l)[k]? = some (.int .i64 l[k]) := by
  induction l generalizing k with
  | nil => simp at hk
  | cons a t ih =>
    have hc : NumsRow (a :: t) = NumsCells a ++ NumsRow t := by simp [NumsRow]
    rw [hc]
    cases k with
    | zero => simp [NumsCells]
    | succ k =>
      rw [List.getElem?_append_right (by simp [NumsCells] <;> omega)]
      have e0 : (k + 1) - (NumsCells a).length = k := by simp [NumsCells] <;> omega
      rw [e0]
      simpa using ih k (by simpa using hk)
/-- A row of one's own. -/
def OwnNums (B : Nat) (w : World) (v : Value) (l : List Int) : Prop := w.ownsRow B 3 1 v l.length (NumsRow l)
theorem OwnNums.below {B : Nat} {w w' : World} {v : Value} {l : List Int} (h : OwnNums B w v l) (hb : Below w.heap.size w w') : OwnNums B w' v l := by
  obtain ⟨hl, h⟩ := h
  refine ⟨hl, ?_⟩
  rcases h with h | ⟨g, cap, cur, hv, hB, hg, h1, h2, h3, h4⟩
  · exact .inl h
  · refine .inr ⟨g, cap, cur, hv, hB, ?_, h1, h2, h3, h4⟩
    rw [hb.block g (Array.getElem?_eq_some_iff.1 hg).1]; exact hg
theorem OwnNums.mono {B B' : Nat} {w : World} {v : Value} {l : List Int} (h : OwnNums B w v l) (hB : B' ≤ B) : OwnNums B' w v l := by
  obtain ⟨hl, h⟩ := h
  refine ⟨hl, ?_⟩
  rcases h with h | ⟨g, cap, cur, hv, hg, h1⟩
  · exact .inl h
  · exact .inr ⟨g, cap, cur, hv, Nat.le_trans hB hg, h1⟩
theorem OwnNums.value {B : Nat} {w : World} {v : Value} {l : List Int} (h : OwnNums B w v l) :
    ∃ a cap, v = .slice a l.length cap ∧ l.length ≤ maxLen ∧ (0 < l.length → ∃ g, a = some ⟨g, 0, none⟩ ∧ B ≤ g ∧ g < w.heap.size ∧ ∀ j (hj : j < l.length), w.cell? ⟨g, j, none⟩ = some (.int .i64 l[j])) := by
  rcases h.2 with ⟨rfl, h0⟩ | ⟨g, cap, cur, rfl, hB, hg, h1, h2, h3, h4⟩
  · exact ⟨none, 0, by rw [h0], by omega, fun h => by omega⟩
  · refine ⟨_, cap, rfl, by omega, fun _ => ⟨g, rfl, hB, (Array.getElem?_eq_some_iff.1 hg).1, fun j hj => ?_⟩⟩
    simp only [World.cell?, hg]
    have h5 := NumsRow_at l j hj
    rw [← h4, List.getElem?_take, if_pos (by omega)] at h5
    simpa using h5
theorem OwnNums.at {B : Nat} {w : World} {v : Value} {l : List Int} (h : OwnNums B w v l) : NumsAt (fun b => B ≤ b ∧ b < w.heap.size) w v l := by
  obtain ⟨a, cap, hv, hl, hc⟩ := h.value
  refine ⟨hl, a, cap, hv, fun h0 => ?_⟩
  obtain ⟨g, rfl, hB, hg, hcell⟩ := hc h0
  refine ⟨g, 0, rfl, ⟨hB, hg⟩, fun i hi => ?_⟩
  simpa using hcell i hi
theorem OwnNums.out {B : Nat} {S : Nat → Prop} {w w' : World} {v : Value} {l : List Int} (h : OwnNums B w v l) (ho : OutS S w w') (hS : ∀ b, S b → b < B) : OwnNums B w' v l := by
  obtain ⟨hl, h⟩ := h
  refine ⟨hl, ?_⟩
  rcases h with h | ⟨g, cap, cur, hv, hB, hg, h1⟩
  · exact .inl h
  · refine .inr ⟨g, cap, cur, hv, hB, ?_, h1⟩
    rw [ho.block g (Array.getElem?_eq_some_iff.1 hg).1 (fun hs => by have := hS g hs; omega)]; exact hg
theorem OwnNums.blk {B b : Nat} {w : World} {v : Value} {l : List Int} (h : OwnNums B w v l) (hb : BlkOf v b) : B ≤ b := by
  rcases h.2 with ⟨rfl, _⟩ | ⟨g, cap, cur, rfl, hB, _⟩
  · obtain ⟨_, _, h⟩ := hb; simp at h
  · rw [hb.eq]; exact hB
/-- The first m are marked from s on. -/
def MarkNums (cur : Array Value) (m s : Nat) : Prop := ∀ i, i < m → cur[i]? = some (.int .i64 ((s + i : Nat) : Int))
theorem MarkNums.step {cur : Array Value} {k s : Nat} (h : MarkNums cur k s) (hc : k < cur.size) :
    MarkNums (cur.setIfInBounds (k) (.int .i64 ((s : Int) + (k : Int)))) (k + 1) s := by
  intro i hi
  simp only [Array.getElem?_setIfInBounds, Array.size_setIfInBounds]
  by_cases hik : i = k
  · subst hik
    · rw [if_pos rfl, if_pos (by omega)]
      congr 2
  · have := h i (by omega)
    rw [if_neg (by omega)]
    exact this
/-- The slice v has m of these, in the block g of its own that holds cu, or has none. -/
def MkNums (hp : Prop) (w : World) (v : Value) (g m : Nat) (cu : Array Value) : Prop := (¬ hp ∧ v = .slice none 0 0 ∧ m = 0) ∨ (hp ∧ ∃ cap, v = .slice (some ⟨g, 0, none⟩) m cap ∧ Blk w g 3 cu ∧ m * 1 ≤ cu.size)
def MkdNums (w : World) (v : Value) (m s : Nat) : Prop := (v = .slice none 0 0 ∧ m = 0) ∨ ∃ g cap cur, v = .slice (some ⟨g, 0, none⟩) m cap ∧ Blk w g 3 cur ∧ MarkNums cur m s
theorem MkdNums.below {w w' : World} {v : Value} {m s : Nat} (h : MkdNums w v m s) (hb : Below w.heap.size w w') : MkdNums w' v m s := by
  rcases h with h | ⟨g, cap, cur, h1, h2, h3⟩
  · exact .inl h
  · exact .inr ⟨g, cap, cur, h1, h2.below hb, h3⟩
set_option maxRecDepth 100000 in
set_option maxHeartbeats 2000000 in
theorem markIntS {hp : Prop} {g m : Nat} {v : Value} {cu : Array Value} {w : World} (s : Nat) (hs0 : 0 < s) (hs1 : s ≤ 100000000000000) (hm : m ≤ 1048576) (h : MkNums hp w v g m cu) :
    Calls Tryd.prog 18 #[v, .int .i64 s] w fun e w' => e = .returned (.int .i64 (s + m : Nat)) ∧ OutS (BlkOf v) w w' ∧ (hp → ∃ cur, Blk w' g 3 cur ∧ cur.size = cu.size ∧ MarkNums cur m s) := by
  have e1 : ∃ a1 c1, v = .slice a1 m c1 ∧ (0 < m → hp) ∧ (hp → a1 = some ⟨g, 0, none⟩ ∧ Blk w g 3 cu ∧ m * 1 ≤ cu.size) := by
    rcases h with ⟨hn, rfl, rfl⟩ | ⟨hy, cap, rfl, hg, hz⟩
    · exact ⟨none, 0, rfl, fun h => by omega, fun h => absurd h hn⟩
    · exact ⟨_, cap, rfl, fun _ => hy, fun _ => ⟨rfl, hg, hz⟩⟩
  obtain ⟨a1, c1, rfl, q0, q⟩ := e1
  have QP : Hid (0 < m → hp) := q0
  have QQ : Hid _ := q
  clear h
  go_enter Tryd.func18, Tryd.ntmps18
  go_wp2
  go_loopw [1, 5] (fun i1 i5 wr => ∃ k : Nat, i1 = .int .i64 (s + k : Nat) ∧ i5 = .int .i64 (k : Int) ∧ k ≤ m ∧ OutS (BlkOf (.slice a1 m c1)) w wr ∧ (hp → ∃ cur, Blk wr g 3 cur ∧ cur.size = cu.size ∧ MarkNums cur k s)) (fun _ i5 _ => m - (intOf i5).toNat)
  case atStart => exact ⟨0, rfl, rfl, by omega, OutS.refl _ _, fun hq => ⟨cu, (QQ.out hq).2.1, rfl, fun i hi => by omega⟩⟩
  case round =>
    obtain ⟨k, rfl, rfl, hk, hB, hq⟩ := hrel
    by_cases hkn : k < m
    · have hkn' : (k : Int) < (m : Int) := by omega
      obtain ⟨rfl, _, hz⟩ := QQ.out (QP.out (by omega))
      obtain ⟨cur, hblk, hsz, hmc⟩ := hq (QP.out (by omega))
      have z0 : k < cur.size := by omega
      have HM : Hid _ := hmc.step z0
      have HB0 : Hid (Blk wr g 3 cur) := hblk
      clear hmc hblk
      have hbk := HB0.out
      have d0 := hbk.cell (k)
      rw [Array.getElem?_eq_getElem z0] at d0
      have f0 := hbk.fro (k)
      go_wp2_with fail
      exact ⟨⟨k + 1, by congr 1 <;> omega, rfl, by omega, (hB.set .mk _), fun _ => ⟨_, (HB0.out.set (k) _), by simp [hsz], HM.out⟩⟩, by simp [intOf]; omega⟩
    · have hkn' : ¬ ((k : Int) < (m : Int)) := by omega
      obtain rfl : k = m := by omega
      go_wp2_with fail
      go_ret
      exact ⟨by go_num, hB, hq⟩
set_option maxRecDepth 100000 in
set_option maxHeartbeats 2000000 in
theorem heldIntS {v : Value} {m s : Nat} {w : World} (hs0 : 0 < s) (hs1 : s ≤ 100000000000000) (hm : m ≤ 1048576) (h : MkdNums w v m s) :
    Calls Tryd.prog 20 #[v, .int .i64 s] w fun e w' => e = .returned (.int .i64 (s + m : Nat)) ∧ Below w.heap.size w w' := by
  have e1 : ∃ g0 a1 c1 cu, v = .slice a1 m c1 ∧ (0 < m → a1 = some ⟨g0, 0, none⟩ ∧ Blk w g0 3 cu ∧ MarkNums cu m s) := by
    rcases h with ⟨rfl, rfl⟩ | ⟨g, cap, cur, rfl, hg, hm⟩
    · exact ⟨0, none, 0, #[], rfl, fun h => by omega⟩
    · exact ⟨g, _, cap, cur, rfl, fun _ => ⟨rfl, hg, hm⟩⟩
  obtain ⟨g, a1, c1, cu, rfl, q⟩ := e1
  clear h
  go_enter Tryd.func20, Tryd.ntmps20
  go_wp2
  go_loopw [1, 5] (fun i1 i5 wr => ∃ k : Nat, i1 = .int .i64 (s + k : Nat) ∧ i5 = .int .i64 (k : Int) ∧ k ≤ m ∧ Below w.heap.size w wr) (fun _ i5 _ => m - (intOf i5).toNat)
  case atStart => exact ⟨0, rfl, rfl, by omega, Below.refl _ _⟩
  case round =>
    obtain ⟨k, rfl, rfl, hk, hB⟩ := hrel
    by_cases hkn : k < m
    · have hkn' : (k : Int) < (m : Int) := by omega
      obtain ⟨rfl, hblk, hmc⟩ := q (by omega)
      have v0 := hmc k hkn
      have y0 : ∀ N : GoodW (fun W => Below w.heap.size w W), N.W.cell? ⟨g, k, none⟩ = some (.int .i64 ((s : Int) + (k : Int))) := fun N => by rw [(hblk.below N.ok).cell, v0]; congr 2
      have Y0 : Hid _ := y0
      clear hblk hmc q v0 y0 
      have c0 := Y0.out ⟨wr, hB⟩
      go_wp2_with fail
      exact ⟨⟨k + 1, by congr 1 <;> omega, rfl, by omega, hB⟩, by simp [intOf]; omega⟩
    · have hkn' : ¬ ((k : Int) < (m : Int)) := by omega
      obtain rfl : k = m := by omega
      go_wp2_with fail
      go_ret
      exact ⟨by go_num, hB⟩
end Go.Proofs.YtbkhkpdpaaphoaaDoor
