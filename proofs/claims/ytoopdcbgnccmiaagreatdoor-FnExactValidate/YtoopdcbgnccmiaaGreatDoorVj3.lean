/-
  Faults as plain data: held against each other, marked, appended. The law on Validate: its walk, over what both Validate answer. Plain arithmetic: the model's decoder of UTF-8, in the words of spec.l01Rune, a class of first bytes at a time. DERIVED: THE SHELF's CONTRACTS AT THIS DUMP, IN PLAIN WORDS (tools/lay-plain.mjs out of 'TryzShelf.lean', which tools/lay-shelf.mjs wrote): THE SAME DECLARATIONS UNDER THE SAME NAMES: 'import', 'namespace', 'open', 'def', 'theorem' AND NOTHING ELSE: no command of the shelf's: FOR A HAND-IN. Each laying: the table of numbers ('.._ren') and one theorem, a field a fact of the dump's own or the kernel's comparison; each contract: ONE APPLICATION. No statement of the seat is proved here.
-/
import Derived.Test.YtoopdcbgnccmiaaGreatDoorVj2
import Derived.Deep.Cut
import Derived.Lib.DecodeN
import Derived.Shelf.Small.Bits
import Derived.Shelf.Small.Strs
import Derived.Shelf.Small.Wraps
import Derived.Shelf.Strconv.Itoa0
import Derived.Shelf.LaysM
import Derived.Shelf.Strconv.Clone
import Derived.Shelf.Strings.Search1
import Derived.Shelf.Strings.Search2
import Derived.Shelf.Strings.Search3
import Derived.Shelf.Strings.Count
import Derived.Shelf.Sort.Plain
import Derived.Shelf.Strings.Prefix
import Derived.Shelf.Strings.Split
import Derived.Shelf.Unicode.DecodeSlow
import Derived.Shelf.Unicode.DecodeAny
import Derived.Shelf.Slices.Turned
import Derived.Shelf.Slices.In.SortNone
import Derived.Test.YtoopdcbgnccmiaaGreatDoorProg
namespace Go.Proofs.YtoopdcbgnccmiaaGreatDoor
open Go.ChangeShapes Go.WideShapes Go.ChangeAt Go.RowKit
set_option linter.unusedVariables false
set_option linter.unusedSimpArgs false

structure Fault where
  code : Int
  path : ByteArray
  from' : ByteArray
/-- The slice v reads in w, out of blocks of S, as these. -/
def FaultsAt (S : Nat → Prop) (w : World) (v : Value) (l : List Fault) : Prop := l.length ≤ maxLen ∧ ∃ a cap, v = .slice a l.length cap ∧ (0 < l.length → ∃ b off, a = some ⟨b, off, none⟩ ∧ S b ∧
  ∀ i (h : i < l.length), w.cell? ⟨b, off + i * 3, none⟩ = some (.int .i64 l[i].code) ∧ w.cell? ⟨b, off + i * 3 + 1, none⟩ = some (.string l[i].path) ∧ w.cell? ⟨b, off + i * 3 + 2, none⟩ = some (.string l[i].from'))
theorem FaultsAt.keep {S : Nat → Prop} {w w' : World} {v : Value} {l : List Fault} (h : FaultsAt S w v l) (hk : ∀ b i, S b → w'.cell? ⟨b, i, none⟩ = w.cell? ⟨b, i, none⟩) : FaultsAt S w' v l := by
  obtain ⟨hl, a, cap, hv, h⟩ := h
  refine ⟨hl, a, cap, hv, fun h0 => ?_⟩
  obtain ⟨b, off, ha, hbB, hc⟩ := h h0
  refine ⟨b, off, ha, hbB, fun i hi => ?_⟩
  obtain ⟨c0, c1, c2⟩ := hc i hi
  exact ⟨(hk _ _ hbB).trans c0, (hk _ _ hbB).trans c1, (hk _ _ hbB).trans c2⟩
theorem FaultsAt.mono {S S' : Nat → Prop} {w : World} {v : Value} {l : List Fault} (h : FaultsAt S w v l) (hS : ∀ b, S b → S' b) : FaultsAt S' w v l := by
  obtain ⟨hl, a, cap, hv, h⟩ := h
  refine ⟨hl, a, cap, hv, fun h0 => ?_⟩
  obtain ⟨b, off, ha, hbB, hc⟩ := h h0
  refine ⟨b, off, ha, hS b hbB, fun i hi => ?_⟩
  obtain ⟨c0, c1, c2⟩ := hc i hi
  exact ⟨c0, c1, c2⟩
theorem FaultsAt.shape {S : Nat → Prop} {w : World} {v : Value} {l : List Fault} (h : FaultsAt S w v l) : ∃ a c, v = .slice a l.length c := by
  obtain ⟨_, a, c, hv, _⟩ := h
  exact ⟨a, c, hv⟩
set_option maxRecDepth 100000 in
theorem eqFault (x0 : Int) (x1 : ByteArray) (x2 : ByteArray) (w : World) :
    Calls Tryz.prog 54 #[.agg #[.int .i64 x0, .string x1, .string x2], .agg #[.int .i64 x0, .string x1, .string x2]] w fun e w' => e = .returned (.bool true) ∧ Below w.heap.size w w' := by
  go_enter Tryz.func54, Tryz.ntmps54
  go_wp2
  go_ret
  exact ⟨rfl, ((Below.refl _ w).alloc (Nat.le_refl _) _).alloc (by simp) _⟩
set_option maxRecDepth 100000 in
set_option maxHeartbeats 400000 in
theorem eqFaultS {S1 S2 : Nat → Prop} {v1 v2 : Value} {l : List Fault} {w : World} (hS1 : ∀ b, S1 b → b < w.heap.size) (hS2 : ∀ b, S2 b → b < w.heap.size) (h1 : FaultsAt S1 w v1 l) (h2 : FaultsAt S2 w v2 l) :
    Calls Tryz.prog 13 #[v1, v2] w fun e w' => e = .returned (.bool true) ∧ Below w.heap.size w w' := by
  obtain ⟨hlm, a1, c1, rfl, q1⟩ := h1
  obtain ⟨_, a2, c2, rfl, q2⟩ := h2
  have Q1 : Hid _ := q1
  have Q2 : Hid _ := q2
  have hlm' : (l.length : Int) ≤ 9223372036854775807 := by simp [maxLen] at hlm; omega
  clear q1 q2 hlm
  go_enter Tryz.func13, Tryz.ntmps13
  go_wp2
  go_loopw [5] (fun i5 wr => ∃ k : Nat, i5 = .int .i64 (k : Int) ∧ k ≤ l.length ∧ Below w.heap.size w wr) (fun i5 _ => l.length - (intOf i5).toNat)
  case atStart => exact ⟨0, rfl, by omega, Below.refl _ _⟩
  case round =>
    obtain ⟨k, rfl, hk, hB⟩ := hrel
    by_cases hkn : k < l.length
    · have hkn' : (k : Int) < (l.length : Int) := by omega
      obtain ⟨b1, o1, rfl, hb1, hc1⟩ := Q1.out (by omega)
      obtain ⟨b2, o2, rfl, hb2, hc2⟩ := Q2.out (by omega)
      obtain ⟨x_0, x_1, x_2⟩ := hc1 k hkn
      obtain ⟨y_0, y_1, y_2⟩ := hc2 k hkn
      obtain ⟨x, hx⟩ : ∃ x, l[k] = x := ⟨_, rfl⟩
      rw [hx] at x_0 x_1 x_2 y_0 y_1 y_2
      clear hx hc1 hc2
      obtain ⟨x0, x1, x2⟩ := x
      dsimp only at x_0 x_1 x_2 y_0 y_1 y_2
      have p0 := fun N : GoodW (fun W => Below w.heap.size w W) => (N.ok.cell (p := ⟨b1, o1 + k * 3, none⟩) (hS1 _ hb1)).trans x_0
      have r0 := fun N : GoodW (fun W => Below w.heap.size w W) => (N.ok.cell (p := ⟨b2, o2 + k * 3, none⟩) (hS2 _ hb2)).trans y_0
      have p1 := fun N : GoodW (fun W => Below w.heap.size w W) => (N.ok.cell (p := ⟨b1, o1 + k * 3 + 1, none⟩) (hS1 _ hb1)).trans x_1
      have r1 := fun N : GoodW (fun W => Below w.heap.size w W) => (N.ok.cell (p := ⟨b2, o2 + k * 3 + 1, none⟩) (hS2 _ hb2)).trans y_1
      have p2 := fun N : GoodW (fun W => Below w.heap.size w W) => (N.ok.cell (p := ⟨b1, o1 + k * 3 + 2, none⟩) (hS1 _ hb1)).trans x_2
      have r2 := fun N : GoodW (fun W => Below w.heap.size w W) => (N.ok.cell (p := ⟨b2, o2 + k * 3 + 2, none⟩) (hS2 _ hb2)).trans y_2
      clear x_0 x_1 x_2 y_0 y_1 y_2
      have ce := eqFault x0 x1 x2
      go_wp2_with fail
      haveI ne : Nonempty (GoodW (fun W => Below w.heap.size w W)) := ⟨⟨_, hB⟩⟩
      refine wp_region_calm (fun W => Below w.heap.size w W) (by kernel_rfl) (by kernel_rfl) hB.drew ?_
      repeat (go_big_quiet_step ((go_at_call 54; exact Calls.calm _ (fun w2 hb => good_below (GoodW.ok _) hb) (ce _))))
      refine wpQuiet_nil ?_
      rintro _ ⟨⟨W2, hW2⟩, rfl⟩
      go_wp2_with fail
      go_roundw
      case rel => exact ⟨k + 1, by go_num, by omega, hW2⟩
      case measure => simp [intOf]; omega
    · have hkn' : ¬ ((k : Int) < (l.length : Int)) := by omega
      go_wp2_with fail
      go_ret
      exact ⟨rfl, hB⟩
def FaultsCells (x : Fault) : List Value := [.int .i64 x.code, .string x.path, .string x.from']
def FaultsRow (l : List Fault) : List Value := l.flatMap FaultsCells
theorem FaultsRow_length (l : List Fault) : (FaultsRow l).length = l.length * 3 := by
  induction l with
  | nil => rfl
  | cons a t ih => simp only [FaultsRow, List.flatMap_cons, List.length_append, List.length_cons] at ih ⊢; rw [ih]; simp [FaultsCells] <;> omega
theorem FaultsRow_append (l k : List Fault) : FaultsRow (l ++ k) = FaultsRow l ++ FaultsRow k := by simp [FaultsRow]
theorem FaultsRow_one {l : List Fault} {u : Value} (hu : u ∈ FaultsRow l) : u.oneCell' = true := by
  obtain ⟨x, _, hx⟩ := List.mem_flatMap.1 hu
  simp only [FaultsCells, List.mem_cons, List.mem_nil_iff, or_false] at hx
  rcases hx with rfl | rfl | rfl <;> rfl
theorem FaultsRow_at (l : List Fault) (k : Nat) (hk : k < l.length) : (FaultsRow l)[k * 3]? = some (.int .i64 l[k].code) ∧ (FaultsRow l)[k * 3 + 1]? = some (.string l[k].path) ∧ (FaultsRow l)[k * 3 + 2]? = some (.string l[k].from') := by
  induction l generalizing k with
  | nil => simp at hk
  | cons a t ih =>
    have hc : FaultsRow (a :: t) = FaultsCells a ++ FaultsRow t := by simp [FaultsRow]
    rw [hc]
    cases k with
    | zero => simp [FaultsCells]
    | succ k =>
      rw [List.getElem?_append_right (by simp [FaultsCells] <;> omega), List.getElem?_append_right (by simp [FaultsCells] <;> omega), List.getElem?_append_right (by simp [FaultsCells] <;> omega)]
      have e0 : (k + 1) * 3 - (FaultsCells a).length = k * 3 := by simp [FaultsCells] <;> omega
      have e1 : (k + 1) * 3 + 1 - (FaultsCells a).length = k * 3 + 1 := by simp [FaultsCells] <;> omega
      have e2 : (k + 1) * 3 + 2 - (FaultsCells a).length = k * 3 + 2 := by simp [FaultsCells] <;> omega
      rw [e0, e1, e2]
      simpa using ih k (by simpa using hk)
/-- A row of one's own. -/
def OwnFaults (B : Nat) (w : World) (v : Value) (l : List Fault) : Prop := w.ownsRow B 87 3 v l.length (FaultsRow l)
theorem OwnFaults.below {B : Nat} {w w' : World} {v : Value} {l : List Fault} (h : OwnFaults B w v l) (hb : Below w.heap.size w w') : OwnFaults B w' v l := by
  obtain ⟨hl, h⟩ := h
  refine ⟨hl, ?_⟩
  rcases h with h | ⟨g, cap, cur, hv, hB, hg, h1, h2, h3, h4⟩
  · exact .inl h
  · refine .inr ⟨g, cap, cur, hv, hB, ?_, h1, h2, h3, h4⟩
    rw [hb.block g (Array.getElem?_eq_some_iff.1 hg).1]; exact hg
theorem OwnFaults.mono {B B' : Nat} {w : World} {v : Value} {l : List Fault} (h : OwnFaults B w v l) (hB : B' ≤ B) : OwnFaults B' w v l := by
  obtain ⟨hl, h⟩ := h
  refine ⟨hl, ?_⟩
  rcases h with h | ⟨g, cap, cur, hv, hg, h1⟩
  · exact .inl h
  · exact .inr ⟨g, cap, cur, hv, Nat.le_trans hB hg, h1⟩
theorem OwnFaults.value {B : Nat} {w : World} {v : Value} {l : List Fault} (h : OwnFaults B w v l) :
    ∃ a cap, v = .slice a l.length cap ∧ l.length ≤ maxLen ∧ (0 < l.length → ∃ g, a = some ⟨g, 0, none⟩ ∧ B ≤ g ∧ g < w.heap.size ∧ ∀ j (hj : j < l.length), w.cell? ⟨g, j * 3, none⟩ = some (.int .i64 l[j].code) ∧ w.cell? ⟨g, j * 3 + 1, none⟩ = some (.string l[j].path) ∧ w.cell? ⟨g, j * 3 + 2, none⟩ = some (.string l[j].from')) := by
  rcases h.2 with ⟨rfl, h0⟩ | ⟨g, cap, cur, rfl, hB, hg, h1, h2, h3, h4⟩
  · exact ⟨none, 0, by rw [h0], by omega, fun h => by omega⟩
  · refine ⟨_, cap, rfl, by omega, fun _ => ⟨g, rfl, hB, (Array.getElem?_eq_some_iff.1 hg).1, fun j hj => ?_⟩⟩
    simp only [World.cell?, hg]
    have h5 := FaultsRow_at l j hj
    rw [← h4, List.getElem?_take, List.getElem?_take, List.getElem?_take, if_pos (by omega), if_pos (by omega), if_pos (by omega)] at h5
    simpa using h5
theorem OwnFaults.at {B : Nat} {w : World} {v : Value} {l : List Fault} (h : OwnFaults B w v l) : FaultsAt (fun b => B ≤ b ∧ b < w.heap.size) w v l := by
  obtain ⟨a, cap, hv, hl, hc⟩ := h.value
  refine ⟨hl, a, cap, hv, fun h0 => ?_⟩
  obtain ⟨g, rfl, hB, hg, hcell⟩ := hc h0
  refine ⟨g, 0, rfl, ⟨hB, hg⟩, fun i hi => ?_⟩
  simpa using hcell i hi
theorem OwnFaults.out {B : Nat} {S : Nat → Prop} {w w' : World} {v : Value} {l : List Fault} (h : OwnFaults B w v l) (ho : OutS S w w') (hS : ∀ b, S b → b < B) : OwnFaults B w' v l := by
  obtain ⟨hl, h⟩ := h
  refine ⟨hl, ?_⟩
  rcases h with h | ⟨g, cap, cur, hv, hB, hg, h1⟩
  · exact .inl h
  · refine .inr ⟨g, cap, cur, hv, hB, ?_, h1⟩
    rw [ho.block g (Array.getElem?_eq_some_iff.1 hg).1 (fun hs => by have := hS g hs; omega)]; exact hg
theorem OwnFaults.blk {B b : Nat} {w : World} {v : Value} {l : List Fault} (h : OwnFaults B w v l) (hb : BlkOf v b) : B ≤ b := by
  rcases h.2 with ⟨rfl, _⟩ | ⟨g, cap, cur, rfl, hB, _⟩
  · obtain ⟨_, _, h⟩ := hb; simp at h
  · rw [hb.eq]; exact hB
/-- The first m are marked from s on. -/
def MarkFaults (cur : Array Value) (m s : Nat) : Prop := ∀ i, i < m → cur[i * 3]? = some (.int .i64 ((s + 3 * i : Nat) : Int)) ∧ cur[i * 3 + 1]? = some (.string (markOf (s + 3 * i + 1))) ∧ cur[i * 3 + 2]? = some (.string (markOf (s + 3 * i + 2)))
theorem MarkFaults.step {cur : Array Value} {k s : Nat} (h : MarkFaults cur k s) (hc : k * 3 + 2 < cur.size) :
    MarkFaults (((cur.setIfInBounds (k * 3) (.int .i64 ((s : Int) + 3 * (k : Int)))).setIfInBounds (k * 3 + 1) (.string (markOf (s + 3 * k + 1)))).setIfInBounds (k * 3 + 2) (.string (markOf (s + 3 * k + 2)))) (k + 1) s := by
  intro i hi
  simp only [Array.getElem?_setIfInBounds, Array.size_setIfInBounds]
  by_cases hik : i = k
  · subst hik
    refine ⟨?_, ?_, ?_⟩
    · rw [if_neg (by omega), if_neg (by omega), if_pos rfl, if_pos (by omega)]
      congr 2
    · rw [if_neg (by omega), if_pos rfl, if_pos (by omega)]
    · rw [if_pos rfl, if_pos (by omega)]
  · have := h i (by omega)
    rw [if_neg (by omega), if_neg (by omega), if_neg (by omega), if_neg (by omega), if_neg (by omega), if_neg (by omega), if_neg (by omega), if_neg (by omega), if_neg (by omega)]
    exact this
/-- The slice v has m of these, in the block g of its own that holds cu, or has none. -/
def MkFaults (hp : Prop) (w : World) (v : Value) (g m : Nat) (cu : Array Value) : Prop := (¬ hp ∧ v = .slice none 0 0 ∧ m = 0) ∨ (hp ∧ ∃ cap, v = .slice (some ⟨g, 0, none⟩) m cap ∧ Blk w g 87 cu ∧ m * 3 ≤ cu.size)
def MkdFaults (w : World) (v : Value) (m s : Nat) : Prop := (v = .slice none 0 0 ∧ m = 0) ∨ ∃ g cap cur, v = .slice (some ⟨g, 0, none⟩) m cap ∧ Blk w g 87 cur ∧ MarkFaults cur m s
theorem MkdFaults.below {w w' : World} {v : Value} {m s : Nat} (h : MkdFaults w v m s) (hb : Below w.heap.size w w') : MkdFaults w' v m s := by
  rcases h with h | ⟨g, cap, cur, h1, h2, h3⟩
  · exact .inl h
  · exact .inr ⟨g, cap, cur, h1, h2.below hb, h3⟩
set_option maxRecDepth 100000 in
set_option maxHeartbeats 2000000 in
theorem markFaultS {hp : Prop} {g m : Nat} {v : Value} {cu : Array Value} {w : World} (s : Nat) (hs0 : 0 < s) (hs1 : s ≤ 100000000000000) (hm : m ≤ 1048576) (h : MkFaults hp w v g m cu) :
    Calls Tryz.prog 18 #[v, .int .i64 s] w fun e w' => e = .returned (.int .i64 (s + 3 * m : Nat)) ∧ OutS (BlkOf v) w w' ∧ (hp → ∃ cur, Blk w' g 87 cur ∧ cur.size = cu.size ∧ MarkFaults cur m s) := by
  have e1 : ∃ a1 c1, v = .slice a1 m c1 ∧ (0 < m → hp) ∧ (hp → a1 = some ⟨g, 0, none⟩ ∧ Blk w g 87 cu ∧ m * 3 ≤ cu.size) := by
    rcases h with ⟨hn, rfl, rfl⟩ | ⟨hy, cap, rfl, hg, hz⟩
    · exact ⟨none, 0, rfl, fun h => by omega, fun h => absurd h hn⟩
    · exact ⟨_, cap, rfl, fun _ => hy, fun _ => ⟨rfl, hg, hz⟩⟩
  obtain ⟨a1, c1, rfl, q0, q⟩ := e1
  have QP : Hid (0 < m → hp) := q0
  have QQ : Hid _ := q
  clear h
  go_enter Tryz.func18, Tryz.ntmps18
  go_wp2
  go_loopw [1, 5] (fun i1 i5 wr => ∃ k : Nat, i1 = .int .i64 (s + 3 * k : Nat) ∧ i5 = .int .i64 (k : Int) ∧ k ≤ m ∧ OutS (BlkOf (.slice a1 m c1)) w wr ∧ (hp → ∃ cur, Blk wr g 87 cur ∧ cur.size = cu.size ∧ MarkFaults cur k s)) (fun _ i5 _ => m - (intOf i5).toNat)
  case atStart => exact ⟨0, rfl, rfl, by omega, OutS.refl _ _, fun hq => ⟨cu, (QQ.out hq).2.1, rfl, fun i hi => by omega⟩⟩
  case round =>
    obtain ⟨k, rfl, rfl, hk, hB, hq⟩ := hrel
    by_cases hkn : k < m
    · have hkn' : (k : Int) < (m : Int) := by omega
      obtain ⟨rfl, _, hz⟩ := QQ.out (QP.out (by omega))
      obtain ⟨cur, hblk, hsz, hmc⟩ := hq (QP.out (by omega))
      have z0 : k * 3 < cur.size := by omega
      have z1 : k * 3 + 1 < cur.size := by omega
      have z2 : k * 3 + 2 < cur.size := by omega
      have HM : Hid _ := hmc.step z2
      have HB0 : Hid (Blk wr g 87 cur) := hblk
      have ct1 := lawText (s + 3 * k + 1) (by omega) (by omega)
      rw [show ((s + 3 * k + 1 : Nat) : Int) = (s : Int) + 3 * (k : Int) + 1 by omega] at ct1
      obtain ⟨M1, hM1⟩ : ∃ M, markOf (s + 3 * k + 1) = M := ⟨_, rfl⟩
      rw [hM1] at ct1 HM
      clear hM1
      have ct2 := lawText (s + 3 * k + 2) (by omega) (by omega)
      rw [show ((s + 3 * k + 2 : Nat) : Int) = (s : Int) + 3 * (k : Int) + 2 by omega] at ct2
      obtain ⟨M2, hM2⟩ : ∃ M, markOf (s + 3 * k + 2) = M := ⟨_, rfl⟩
      rw [hM2] at ct2 HM
      clear hM2
      clear hmc hblk
      have hbk := HB0.out
      have d0 := hbk.cell (k * 3)
      rw [Array.getElem?_eq_getElem z0] at d0
      have f0 := hbk.fro (k * 3)
      clear hbk
      go_wp2_with (first
        | (go_at_call 56; have hchk := hb_1; (refine (ct2 _).mono ?_; rintro e w_2 ⟨rfl, hB_2⟩; have hb_2 := Blk.below (hb_1.set (k * 3 + 1) _) hB_2; have ho_2 := OutS.trans (ho_1.set .mk _) (OutS.of hB_2); have c2_0 := hb_2.cell (k * 3); have c2_1 := hb_2.cell (k * 3 + 1); have c2_2 := hb_2.cell (k * 3 + 2); rw [Array.getElem?_eq_getElem (by first | exact z0 | (simp only [Array.size_setIfInBounds]; exact z0))] at c2_0; rw [Array.getElem?_eq_getElem (by first | exact z1 | (simp only [Array.size_setIfInBounds]; exact z1))] at c2_1; rw [Array.getElem?_eq_getElem (by first | exact z2 | (simp only [Array.size_setIfInBounds]; exact z2))] at c2_2; have f2_0 := hb_2.fro (k * 3); have f2_1 := hb_2.fro (k * 3 + 1); have f2_2 := hb_2.fro (k * 3 + 2)))
        | (go_at_call 56; go_must (refine (ct1 _).mono ?_; rintro e w_1 ⟨rfl, hB_1⟩; have hb_1 := Blk.below (HB0.out.set (k * 3) _) hB_1; have ho_1 := OutS.trans (hB.set .mk _) (OutS.of hB_1); have c1_0 := hb_1.cell (k * 3); have c1_1 := hb_1.cell (k * 3 + 1); have c1_2 := hb_1.cell (k * 3 + 2); rw [Array.getElem?_eq_getElem (by first | exact z0 | (simp only [Array.size_setIfInBounds]; exact z0))] at c1_0; rw [Array.getElem?_eq_getElem (by first | exact z1 | (simp only [Array.size_setIfInBounds]; exact z1))] at c1_1; rw [Array.getElem?_eq_getElem (by first | exact z2 | (simp only [Array.size_setIfInBounds]; exact z2))] at c1_2; have f1_0 := hb_1.fro (k * 3); have f1_1 := hb_1.fro (k * 3 + 1); have f1_2 := hb_1.fro (k * 3 + 2))))
      exact ⟨⟨k + 1, by congr 1 <;> omega, rfl, by omega, (ho_2.set .mk _), fun _ => ⟨_, (hb_2.set (k * 3 + 2) _), by simp [hsz], HM.out⟩⟩, by simp [intOf]; omega⟩
    · have hkn' : ¬ ((k : Int) < (m : Int)) := by omega
      obtain rfl : k = m := by omega
      go_wp2_with fail
      go_ret
      exact ⟨by go_num, hB, hq⟩
set_option maxRecDepth 100000 in
set_option maxHeartbeats 2000000 in
theorem heldFaultS {v : Value} {m s : Nat} {w : World} (hs0 : 0 < s) (hs1 : s ≤ 100000000000000) (hm : m ≤ 1048576) (h : MkdFaults w v m s) :
    Calls Tryz.prog 19 #[v, .int .i64 s] w fun e w' => e = .returned (.int .i64 (s + 3 * m : Nat)) ∧ Below w.heap.size w w' := by
  have e1 : ∃ g0 a1 c1 cu, v = .slice a1 m c1 ∧ (0 < m → a1 = some ⟨g0, 0, none⟩ ∧ Blk w g0 87 cu ∧ MarkFaults cu m s) := by
    rcases h with ⟨rfl, rfl⟩ | ⟨g, cap, cur, rfl, hg, hm⟩
    · exact ⟨0, none, 0, #[], rfl, fun h => by omega⟩
    · exact ⟨g, _, cap, cur, rfl, fun _ => ⟨rfl, hg, hm⟩⟩
  obtain ⟨g, a1, c1, cu, rfl, q⟩ := e1
  clear h
  go_enter Tryz.func19, Tryz.ntmps19
  go_wp2
  go_loopw [1, 5] (fun i1 i5 wr => ∃ k : Nat, i1 = .int .i64 (s + 3 * k : Nat) ∧ i5 = .int .i64 (k : Int) ∧ k ≤ m ∧ Below w.heap.size w wr) (fun _ i5 _ => m - (intOf i5).toNat)
  case atStart => exact ⟨0, rfl, rfl, by omega, Below.refl _ _⟩
  case round =>
    obtain ⟨k, rfl, rfl, hk, hB⟩ := hrel
    by_cases hkn : k < m
    · have hkn' : (k : Int) < (m : Int) := by omega
      obtain ⟨rfl, hblk, hmc⟩ := q (by omega)
      obtain ⟨v0, v1, v2⟩ := hmc k hkn
      have y0 : ∀ N : GoodW (fun W => Below w.heap.size w W), N.W.cell? ⟨g, k * 3, none⟩ = some (.int .i64 ((s : Int) + 3 * (k : Int))) := fun N => by rw [(hblk.below N.ok).cell, v0]; congr 2
      have y1 : ∀ N : GoodW (fun W => Below w.heap.size w W), N.W.cell? ⟨g, k * 3 + 1, none⟩ = some (.string (markOf (s + 3 * k + 1))) := fun N => by rw [(hblk.below N.ok).cell, v1]
      have y2 : ∀ N : GoodW (fun W => Below w.heap.size w W), N.W.cell? ⟨g, k * 3 + 2, none⟩ = some (.string (markOf (s + 3 * k + 2))) := fun N => by rw [(hblk.below N.ok).cell, v2]
      have ct1 := lawText (s + 3 * k + 1) (by omega) (by omega)
      rw [show ((s + 3 * k + 1 : Nat) : Int) = (s : Int) + 3 * (k : Int) + 1 by omega] at ct1
      obtain ⟨M1, hM1⟩ : ∃ M, markOf (s + 3 * k + 1) = M := ⟨_, rfl⟩
      rw [hM1] at ct1 y1
      clear hM1
      have ct2 := lawText (s + 3 * k + 2) (by omega) (by omega)
      rw [show ((s + 3 * k + 2 : Nat) : Int) = (s : Int) + 3 * (k : Int) + 2 by omega] at ct2
      obtain ⟨M2, hM2⟩ : ∃ M, markOf (s + 3 * k + 2) = M := ⟨_, rfl⟩
      rw [hM2] at ct2 y2
      clear hM2
      have Y0 : Hid _ := y0
      have Y1 : Hid _ := y1
      have Y2 : Hid _ := y2
      have CT1 : Hid _ := ct1
      have CT2 : Hid _ := ct2
      clear hblk hmc q v0 v1 v2 y0 y1 y2 ct1 ct2
      have c0 := Y0.out ⟨wr, hB⟩
      go_wp2_with fail
      have y1 := Y1.out
      have ct1 := CT1.out
      haveI ne1 : Nonempty (GoodW (fun W => Below w.heap.size w W)) := ⟨⟨_, hB⟩⟩
      refine wp_region_calm (fun W => Below w.heap.size w W) (by kernel_rfl) (by kernel_rfl) hB.drew ?_
      repeat (go_big_quiet_step ((go_at_call 56; exact Calls.calm _ (fun w2 hb => good_below (GoodW.ok _) hb) (ct1 _))))
      refine wpQuiet_nil ?_
      rintro W1 ⟨⟨X1, hX1⟩, hE1⟩
      have hW1 : Below w.heap.size w W1 := by rw [hE1]; exact hX1
      clear hE1 hX1 X1 y1 ct1
      go_wp2_with fail
      have y2 := Y2.out
      have ct2 := CT2.out
      haveI ne2 : Nonempty (GoodW (fun W => Below w.heap.size w W)) := ⟨⟨_, hW1⟩⟩
      refine wp_region_calm (fun W => Below w.heap.size w W) (by kernel_rfl) (by kernel_rfl) hW1.drew ?_
      repeat (go_big_quiet_step ((go_at_call 56; exact Calls.calm _ (fun w2 hb => good_below (GoodW.ok _) hb) (ct2 _))))
      refine wpQuiet_nil ?_
      rintro W2 ⟨⟨X2, hX2⟩, hE2⟩
      have hW2 : Below w.heap.size w W2 := by rw [hE2]; exact hX2
      clear hE2 hX2 X2 y2 ct2
      go_wp2_with fail
      exact ⟨⟨k + 1, by congr 1 <;> omega, rfl, by omega, hW2⟩, by simp [intOf]; omega⟩
    · have hkn' : ¬ ((k : Int) < (m : Int)) := by omega
      obtain rfl : k = m := by omega
      go_wp2_with fail
      go_ret
      exact ⟨by go_num, hB⟩
theorem markOwnFaults {B : Nat} {v : Value} {l : List Fault} {w : World} (s : Nat) (hs0 : 0 < s) (hs1 : s ≤ 100000000000000) (hl : l.length ≤ 1048576) (h : OwnFaults B w v l) :
    Calls Tryz.prog 18 #[v, .int .i64 s] w fun e w' => e = .returned (.int .i64 (s + 3 * l.length : Nat)) ∧ OutS (BlkOf v) w w' ∧ MkdFaults w' v l.length s := by
  rcases h.2 with ⟨rfl, h0⟩ | ⟨g, cap, cur, rfl, hB, hg, h1, h2, h3, h4⟩
  · refine (markFaultS (hp := False) (g := 0) (cu := #[]) s hs0 hs1 hl (.inl ⟨id, rfl, h0⟩)).mono ?_
    rintro e w' ⟨he, ho, _⟩
    exact ⟨he, ho, .inl ⟨rfl, h0⟩⟩
  · refine (markFaultS (hp := True) s hs0 hs1 hl (.inr ⟨trivial, cap, rfl, hg, by omega⟩)).mono ?_
    rintro e w' ⟨he, ho, hq⟩
    obtain ⟨cu, q1, _, q3⟩ := hq trivial
    exact ⟨he, ho, .inr ⟨g, cap, cu, rfl, q1, q3⟩⟩
theorem OwnFaults.block {B : Nat} {w : World} {v : Value} {l : List Fault} (h : OwnFaults B w v l) : ∀ k, v.ownBlock = some k → B ≤ k := by
  intro k hk
  rcases h.2 with ⟨rfl, _⟩ | ⟨g, cap, cur, rfl, hB, _⟩
  · simp [Value.ownBlock] at hk
  · simp [Value.ownBlock] at hk; omega
theorem OwnFaults.kept {B : Nat} {w w' : World} {v : Value} {l : List Fault} {row : Option Nat} (h : OwnFaults B w v l) (hg : w.grownBy w' row) (hne : v.ownBlock = none ∨ v.ownBlock ≠ row) : OwnFaults B w' v l :=
  World.ownsRow.kept h hg hne
theorem OwnFaults.empty (B : Nat) (w : World) (hB : B ≤ w.heap.size) : OwnFaults B (w.alloc (.cells #[] 87)) (.slice (some ⟨w.heap.size, 0, none⟩) 0 0) [] :=
  ⟨rfl, .inr ⟨w.heap.size, 0, #[], rfl, hB, heap_alloc_last w _, Nat.le_refl _, Nat.zero_le _, rfl, rfl⟩⟩
theorem OwnFaults.nil (B : Nat) (w : World) : OwnFaults B w (.slice none 0 0) [] := ⟨rfl, .inl ⟨rfl, rfl⟩⟩
/-- A row of one that is built. -/
theorem FaultsAt.new (w : World) (x0 : Int) (x1 : ByteArray) (x2 : ByteArray) : FaultsAt (fun b => b = w.heap.size) (w.alloc (.cells #[.int .i64 x0, .string x1, .string x2] 87)) (.slice (some ⟨w.heap.size, 0, none⟩) 1 1) [⟨x0, x1, x2⟩] := by
  refine ⟨by simp [maxLen], _, 1, rfl, fun _ => ⟨w.heap.size, 0, rfl, rfl, fun i hi => ?_⟩⟩
  have hi0 : i = 0 := by simpa using hi
  subst hi0
  have hb : Blk (w.alloc (.cells #[.int .i64 x0, .string x1, .string x2] 87)) w.heap.size 87 #[.int .i64 x0, .string x1, .string x2] := heap_alloc_last w _
  exact ⟨hb.cell 0, hb.cell 1, hb.cell 2⟩
theorem FaultsAt.news {S : Nat → Prop} {w : World} {b off len cap : Nat} {ys : List Fault} (h : FaultsAt S w (.slice (some ⟨b, off, none⟩) len cap) ys) : ∀ j u, (FaultsRow ys)[j]? = some u → w.cell? ((⟨b, off, none⟩ : Addr).add j) = some u := by
  intro j u hj
  have hlt : j < ys.length * 3 := by
    have := (List.getElem?_eq_some_iff.1 hj).1
    rwa [FaultsRow_length] at this
  obtain ⟨_, a, c, hv, hc⟩ := h
  obtain ⟨b', off', ha, _, hcell⟩ := hc (by omega)
  simp only [Value.slice.injEq] at hv
  obtain ⟨rfl, _, _⟩ := hv
  simp only [Option.some.injEq, Addr.mk.injEq] at ha
  obtain ⟨rfl, rfl, _⟩ := ha
  have hk : j / 3 < ys.length := by omega
  have hcc := hcell (j / 3) hk
  have hrr := FaultsRow_at ys (j / 3) hk
  rw [addr_at]
  obtain ⟨c0, c1, c2⟩ := hcc
  obtain ⟨r0, r1, r2⟩ := hrr
  have h3 : j % 3 = 0 ∨ j % 3 = 1 ∨ j % 3 = 2 := by omega
  rcases h3 with h3 | h3 | h3
  · have e : j = j / 3 * 3 := by omega
    rw [e] at hj
    rw [r0] at hj
    rw [show off + j = off + j / 3 * 3 by omega, c0, ← hj]
  · have e : j = j / 3 * 3 + 1 := by omega
    rw [e] at hj
    rw [r1] at hj
    rw [show off + j = off + j / 3 * 3 + 1 by omega, c1, ← hj]
  · have e : j = j / 3 * 3 + 2 := by omega
    rw [e] at hj
    rw [r2] at hj
    rw [show off + j = off + j / 3 * 3 + 2 by omega, c2, ← hj]
theorem wpList_appendFaults {ops : Array Oper} {rest : List Oper} {o : Oper} {a : Act} {w : World} {Q : Exit → Act → World → Prop} (hgd : o.guard = none) (s x : Operand)
    (ho : o.op = .call { callee := .builtin .append, args := #[s, x], argTypes := #[26, 26] })
    (B : Nat) (v : Value) (l : List Fault) (hs : a.eval s = v) (hown : OwnFaults B w v l) {S : Nat → Prop} (u : Value) (ys : List Fault) (hx : a.eval x = u) (hsrc : FaultsAt S w u ys)
    (hsz : l.length + ys.length ≤ 1000000) (hB : B ≤ w.heap.size)
    (h : ∀ v' w', OwnFaults B w' v' (l ++ ys) → Below B w w' → w.grownBy w' v.ownBlock → (v' = .slice none 0 0 → v = .slice none 0 0) → wpList Tryz.prog ops Q rest (a.put o.dst v') w') : wpList Tryz.prog ops Q (o :: rest) a w := by
  obtain ⟨i, hii, hz0, hz1, hz2⟩ := info_of (t := 87) (z := .agg #[.int .i64 0, .string ⟨#[]⟩, .string ⟨#[]⟩]) (n := 3) (b := 40) (by kernel_rfl)
  obtain ⟨_, ao, c, hv, hc⟩ := id hsrc
  by_cases h0 : 0 < ys.length
  · obtain ⟨b, off, rfl, _, _⟩ := hc h0
    subst hv
    refine wpList_append_own w hgd s x 26 ho B 87 i (.agg #[.int .i64 0, .string ⟨#[]⟩, .string ⟨#[]⟩]) 3 40 Tryz.underlying26 hii hz0 hz1 hz2 rfl (by decide) v l.length (FaultsRow l) hs hown ⟨b, off, none⟩ ys.length c (FaultsRow ys) hx (FaultsRow_length ys) hsrc.news (fun u hu => FaultsRow_one hu) ?_ ?_ hB ?_
    · unfold maxLen; omega
    · omega
    · intro v' w' h1 h2 h3
      have h4 : OwnFaults B w' v' (l ++ ys) := by
        unfold OwnFaults
        rw [FaultsRow_append, List.length_append]
        exact h1
      have h5 := (Below.refl _ w).grown h2 hB (OwnFaults.block hown)
      exact h v' w' h4 h5 h2 (fun e => (h3.1 e).1)
  · have hy : ys = [] := List.length_eq_zero_iff.1 (by omega)
    subst hy
    subst hv
    have hrun : (Builtin.append_ #[26, 26] o.type #[v, .slice ao 0 c]).run Tryz.prog w = .ok v w := run_append_zero Tryz.underlying26 hii v _ _ hown ao c
    refine wpList_plain hgd fun K hK => ?_
    unfold Oper.wp
    simp only [List.length_nil] at hx
    simp [execOp, ho, resolve, invoke, builtin, hs, hx, hrun, Result.andThen]
    exact hK _ _ (h v w (by simpa using hown) (Below.refl _ _) (grown_refl _ _) id)
theorem step_appendFaults {ops : Array Oper} {o : Oper} {a : Act} {w : World} {K : Act → World → Prop} {Q : Exit → Act → World → Prop} {E : Prop}
    (hg : o.guard = none) (s x : Operand) (ho : o.op = Op.call { callee := Callee.builtin Builtin.append, args := #[s, x], argTypes := #[26, 26] })
    (B : Nat) (v : Value) (l : List Fault) (hs : a.eval s = v) (hown : OwnFaults B w v l) {S : Nat → Prop} (u : Value) (ys : List Fault) (hx : a.eval x = u) (hsrc : FaultsAt S w u ys)
    (hsz : l.length + ys.length ≤ 1000000) (hB : B ≤ w.heap.size)
    (hK : ∀ va vn vc w', OwnFaults B w' (.slice va vn vc) (l ++ ys) → Below B w w' → w.grownBy w' v.ownBlock → (Value.slice va vn vc = .slice none 0 0 → v = .slice none 0 0) → K (a.put o.dst (.slice va vn vc)) w') :
    if Region.wanted o (yielded ops a.tmps) = true then Oper.wp Tryz.prog o a w K Q else E := by
  have hw : Region.wanted o (yielded ops a.tmps) = true := by simp [Region.wanted, hg]
  rw [if_pos hw]
  obtain ⟨i, hii, hz0, hz1, hz2⟩ := info_of (t := 87) (z := .agg #[.int .i64 0, .string ⟨#[]⟩, .string ⟨#[]⟩]) (n := 3) (b := 40) (by kernel_rfl)
  obtain ⟨_, ao, c, hv, hc⟩ := id hsrc
  by_cases h0 : 0 < ys.length
  · obtain ⟨b, off, rfl, _, _⟩ := hc h0
    subst hv
    refine wp_append_own w  s x 26 ho B 87 i (.agg #[.int .i64 0, .string ⟨#[]⟩, .string ⟨#[]⟩]) 3 40 Tryz.underlying26 hii hz0 hz1 hz2 rfl (by decide) v l.length (FaultsRow l) hs hown ⟨b, off, none⟩ ys.length c (FaultsRow ys) hx (FaultsRow_length ys) hsrc.news (fun u hu => FaultsRow_one hu) ?_ ?_ hB ?_
    · unfold maxLen; omega
    · omega
    · intro v' w' h1 h2 h3
      have h4 : OwnFaults B w' v' (l ++ ys) := by
        unfold OwnFaults
        rw [FaultsRow_append, List.length_append]
        exact h1
      have h5 := (Below.refl _ w).grown h2 hB (OwnFaults.block hown)
      rcases h4.2 with ⟨rfl, _⟩ | ⟨g, cap, cur, rfl, _⟩
      · exact hK _ _ _ w' h4 h5 h2 (fun e => (h3.1 e).1)
      · exact hK _ _ _ w' h4 h5 h2 (fun e => (h3.1 e).1)
  · have hy : ys = [] := List.length_eq_zero_iff.1 (by omega)
    subst hy
    subst hv
    have hrun : (Builtin.append_ #[26, 26] o.type #[v, .slice ao 0 c]).run Tryz.prog w = .ok v w := run_append_zero Tryz.underlying26 hii v _ _ hown ao c
    unfold Oper.wp
    simp only [List.length_nil] at hx
    simp [execOp, ho, resolve, invoke, builtin, hs, hx, hrun, Result.andThen]
    obtain ⟨va, vc, hvv, _⟩ := hown.value
    subst hvv
    exact hK _ _ _ w (by simpa using hown) (Below.refl _ _) (grown_refl _ _) id
end Go.Proofs.YtoopdcbgnccmiaaGreatDoor

namespace Go.Proofs.YtoopdcbgnccmiaaGreatDoor
open Go.ChangeShapes Go.WideShapes Go.ChangeAt Go.RowKit
set_option linter.unusedVariables false
set_option linter.unusedSimpArgs false

/-- What a Validate answers, whatever it is. -/
def ValidateC (f : Nat) (T : World → Prop) (C0 : (List Rule) → (List Layer) → List Fault) (C1 : (List Rule) → (List Layer) → Int) : Prop := ∀ (S : Nat → Prop) (l0 : List Rule) (l1 : List Layer) (v0 : Value) (v1 : Value) (w : World), (∀ b, S b → b < w.heap.size) → RulesAt S w v0 l0 → l0.length ≤ 1048576 → (∀ x ∈ l0, RulesOK 1048576 x) → LayersAt S w v1 l1 → l1.length ≤ 1048576 → (∀ x ∈ l1, LayersOK 1048576 x) → (∀ W, Below w.heap.size w W → T W) →
  Calls Tryz.prog f #[v0, v1] w fun e w' => (∃ p0, e = .returned (.tuple #[p0, .int .i64 (C1 l0 l1)]) ∧ OwnFaults w.heap.size w' p0 (C0 l0 l1)) ∧ Below w.heap.size w w'

set_option maxRecDepth 100000 in
set_option maxHeartbeats 16000000 in
theorem validateWalk {T : World → Prop} {C0 : (List Rule) → (List Layer) → List Fault} {C1 : (List Rule) → (List Layer) → Int} (hSp : ValidateC 9 T C0 C1) (hIm : ValidateC 12 T C0 C1) (hlen0 : ∀ l0 l1, (C0 l0 l1).length ≤ 1000000)
    (w : World) (v0 : Value) (v1 : Value) (l0 : List Rule) (l1 : List Layer) (h0 : RulesAt (fun b => b < w.heap.size) w v0 l0) (hf0 : ∀ y ∈ l0, RulesFit y) (h1 : LayersAt (fun b => b < w.heap.size) w v1 l1) (hf1 : ∀ y ∈ l1, LayersFit y) (hT : ∀ W, Below w.heap.size w W → T W) :
    Calls Tryz.prog 3 #[v0, v1] w fun e w' => e = .returned (.bool true) ∧ Below w.heap.size w w' := by
  have HT : Hid (∀ W, Below w.heap.size w W → T W) := hT
  have HR0 : Hid (RulesAt (fun b => b < w.heap.size) w v0 l0) := h0
  have HF0 : Hid (∀ y ∈ l0, RulesFit y) := hf0
  obtain ⟨a0, cap0, hv0⟩ := h0.shape
  subst hv0
  have HR1 : Hid (LayersAt (fun b => b < w.heap.size) w v1 l1) := h1
  have HF1 : Hid (∀ y ∈ l1, LayersFit y) := hf1
  obtain ⟨a1, cap1, hv1⟩ := h1.shape
  subst hv1
  have hP0 := hlen0 l0 l1
  have cs := fun S v0 v1 w => hSp S l0 l1 v0 v1 w
  have ci := fun S v0 v1 w => hIm S l0 l1 v0 v1 w
  obtain ⟨P0, hPe0⟩ : ∃ P, C0 l0 l1 = P := ⟨_, rfl⟩
  rw [hPe0] at cs ci hP0
  clear hPe0
  obtain ⟨P1, hPe1⟩ : ∃ P, C1 l0 l1 = P := ⟨_, rfl⟩
  rw [hPe1] at cs ci
  clear hPe1
  clear hSp hIm hT h0 hf0 h1 hf1 hlen0
  have ct0 : l0.length ≤ 1048576 → (∀ x ∈ l0, RulesOK 1048576 x) → ∀ W, Below w.heap.size w W → Calls Tryz.prog 10 #[.slice a0 l0.length cap0] W fun e w' => (∃ v', e = .returned v' ∧ CpRules W.heap.size w'.heap.size w' v' l0) ∧ Below W.heap.size W w' := fun h1 h2 W hW =>
    cpToRules (S := fun b => b < w.heap.size) (fun b hb => Nat.lt_of_lt_of_le hb hW.size) (HR0.out.keep (cells_below (fun b hb => hb) hW)) h1 h2
  have ct1 : l1.length ≤ 1048576 → (∀ x ∈ l1, LayersOK 1048576 x) → ∀ W, Below w.heap.size w W → Calls Tryz.prog 11 #[.slice a1 l1.length cap1] W fun e w' => (∃ v', e = .returned v' ∧ CpLayers W.heap.size w'.heap.size w' v' l1) ∧ Below W.heap.size W w' := fun h1 h2 W hW =>
    cpToLayers (S := fun b => b < w.heap.size) (fun b hb => Nat.lt_of_lt_of_le hb hW.size) (HR1.out.keep (cells_below (fun b hb => hb) hW)) h1 h2
  go_enter Tryz.func3, Tryz.ntmps3
  have hbq : Below w.heap.size w w := Below.refl _ w
  have hr1 : (1048576 : Int) ≤ 1048576 := by omega
  have hr0 : (0 : Int) ≤ 1048576 := by omega
  have cz0 := szRuleS (w := w) (fun b hb => Nat.lt_of_lt_of_le hb hbq.size) (HR0.out.keep (cells_below (fun b hb => hb) hbq)) HF0.out (1048576) hr0 hr1
  go_upto_region 2 with fail
  go_cut [5] from 17 (fun s3 wx => ∃ r : Int, s3 = .int .i64 r ∧ (r = -1 ∨ (0 ≤ r ∧ r ≤ 1048576 ∧ (l0.length : Int) ≤ 1048576 ∧ ∀ x ∈ l0, RulesOK (1048576) x)) ∧ Below w.heap.size w wx)
  case first =>
    go_wp2_with (go_at_call 7; go_must (refine cz0.mono ?_; rintro e w1 ⟨⟨r, rfl, hr⟩, hb1⟩))
    go_meet
    exact ⟨r, rfl, hr, good_below hbq hb1⟩
  case rest =>
    clear cz0
    obtain ⟨r0, rfl, hr, hbq0⟩ := hcut
    rcases hr with rfl | ⟨ha0, hc0, hll0, hok0⟩
    case inl =>
      go_wp2_with fail
      go_ret
      exact ⟨rfl, hbq0⟩
    have hok0' : ∀ x ∈ l0, RulesOK 1048576 x := fun x hx => (hok0 x hx).mono (by omega)
    have HOK0 : Hid (∀ x ∈ l0, RulesOK 1048576 x) := hok0'
    have hlc0 : l0.length ≤ 1048576 := by omega
    have hrn0 : ¬ (r0 < 0) := by omega
    clear hok0 hok0' hbq hr0 hr1
    obtain ⟨wq0, hwq0⟩ : ∃ wq, wq = wc := ⟨_, rfl⟩
    subst hwq0
    have hbq := hbq0
    have hr0 := ha0
    have hr1 : r0 ≤ 1048576 := by omega
    clear hbq0
    have cz1 := szLayerS (w := wq0) (fun b hb => Nat.lt_of_lt_of_le hb hbq.size) (HR1.out.keep (cells_below (fun b hb => hb) hbq)) HF1.out (r0) hr0 hr1
    go_upto_region 5 with fail
    go_cut [5] from 17 (fun s3 wx => ∃ r : Int, s3 = .int .i64 r ∧ (r = -1 ∨ (0 ≤ r ∧ r ≤ r0 ∧ (l1.length : Int) ≤ r0 ∧ ∀ x ∈ l1, LayersOK (r0) x)) ∧ Below w.heap.size w wx)
    case first =>
      go_wp2_with (go_at_call 8; go_must (refine cz1.mono ?_; rintro e w1 ⟨⟨r, rfl, hr⟩, hb1⟩))
      go_meet
      exact ⟨r, rfl, hr, good_below hbq hb1⟩
    case rest =>
      clear cz1
      obtain ⟨r1, rfl, hr, hbq1⟩ := hcut
      rcases hr with rfl | ⟨ha1, hc1, hll1, hok1⟩
      case inl =>
        go_wp2_with fail
        go_ret
        exact ⟨rfl, hbq1⟩
      have hok1' : ∀ x ∈ l1, LayersOK 1048576 x := fun x hx => (hok1 x hx).mono (by omega)
      have HOK1 : Hid (∀ x ∈ l1, LayersOK 1048576 x) := hok1'
      have hlc1 : l1.length ≤ 1048576 := by omega
      have hrn1 : ¬ (r1 < 0) := by omega
      clear hok1 hok1' hbq hr0 hr1
      obtain ⟨wq1, hwq1⟩ : ∃ wq, wq = wc := ⟨_, rfl⟩
      subst hwq1
      have hbq := hbq1
      have hr0 := ha1
      have hr1 : r1 ≤ 1048576 := by omega
      clear hbq1
      have cs' := fun S v0 v1 W (hW : Below w.heap.size w W) hS h0 h1 => cs S v0 v1 W hS h0 hlc0 HOK0.out h1 hlc1 HOK1.out (fun W' hW' => HT.out W' (good_below hW hW'))
      have ci' := fun S v0 v1 W (hW : Below w.heap.size w W) hS h0 h1 => ci S v0 v1 W hS h0 hlc0 HOK0.out h1 hlc1 HOK1.out (fun W' hW' => HT.out W' (good_below hW hW'))
      clear cs ci
      go_upto_region 8 with fail
      go_cut [6, 7] from 17 (fun s6 s7 wx => s7 = .int .i64 P1 ∧ (∃ B, OwnFaults B wx s6 P0) ∧ Below w.heap.size w wx)
      case first =>
        go_wp2_with (first
                | (go_at_call 9; have hchk := bs1; refine (cs' (fun b => b < ws1.heap.size) _ _ _ Bs1 (fun b hb => hb) ((ks0_1).at.mono (S' := fun b => b < ws1.heap.size) (fun b hb => Nat.lt_of_lt_of_le hb.2 (us0_1))) ((ks1).at.mono (S' := fun b => b < ws1.heap.size) (fun b hb => Nat.lt_of_lt_of_le hb.2 (Nat.le_refl _)))).mono ?_; rintro e ws ⟨⟨qs0, rfl, os0⟩, bs⟩; have Bs := good_below Bs1 bs)
                | (go_at_call 11; have hchk := bs0; refine (ct1 hlc1 HOK1.out _ Bs0).mono ?_; rintro e ws1 ⟨⟨ys1, rfl, ks1⟩, bs1⟩; have Bs1 := good_below Bs0 bs1; have ks0_1 := CpRules.below ks0 bs1 (Nat.le_refl _); have us0_1 := Nat.le_trans (Nat.le_refl _) bs1.size)
                | (go_at_call 10; refine (ct0 hlc0 HOK0.out _ hbq).mono ?_; rintro e ws0 ⟨⟨ys0, rfl, ks0⟩, bs0⟩; have Bs0 := good_below hbq bs0))
        go_meet
        exact ⟨rfl, ⟨_, os0⟩, Bs⟩
      case rest =>
        obtain ⟨rfl, ⟨Bw0, ow0⟩, hb5⟩ := hcut
        obtain ⟨aw0, cw0, hvw0, -⟩ := ow0.value
        subst hvw0
        clear cs' hbq
        obtain ⟨w5, hw5⟩ : ∃ w5, w5 = wc := ⟨_, rfl⟩
        subst hw5
        have K5 : Below w5.heap.size w5 w5 := Below.refl _ _
        have hneg0 : ¬ ((1 : Int) + 3 * (P0.length : Int) < 0) := by omega
        go_upto_region 31 with (first
                    | (go_at_call 19; have hchk := on0; refine (heldFaultS (by omega) (by omega) (by omega) dn0).mono ?_; rintro e wp0 ⟨rfl, bp0⟩; have Kp0 := good_below Kn0 bp0; have D0_p0 := MkdFaults.below dn0 bp0)
                    | (go_at_call 18; have hchk := bi0; refine (markOwnFaults (1) (by omega) (by omega) (by omega) G0_i0).mono ?_; rintro e wn0 ⟨rfl, on0, dn0⟩; have Kn0 := Below.trans Ki0 (OutS.below on0 (fun b hb => Nat.le_trans HWX.out (OwnFaults.blk G0_i0 hb)) Ki0.size))
                    | (go_at_call 13; have hchk := om1; refine (eqFaultS (fun b hb => hb.2) (fun b hb => hb.2) G0_m1.at (OwnFaults.below ow0 Km1).at).mono ?_; rintro e wi0 ⟨rfl, bi0⟩; have Ki0 := good_below Km1 bi0; have G0_i0 := OwnFaults.below G0_m1 bi0)
                    | (go_at_call 17; have hchk := om0; refine (cpMarkLayers (rm0) (by omega) (by omega) hlc1 HOK1.out uX1_m0 X1_m0).mono ?_; rintro e wm1 ⟨⟨rm1, rfl, pm1, zm1⟩, om1⟩; have Km1 := Below.trans Km0 (OutS.below om1 (fun b hb => Nat.le_trans Lw1.out hb.1) Km0.size); have G0_m1 := OwnFaults.out G0_m0 om1 (fun b hb => Nat.lt_of_lt_of_le hb.2 (Nat.le_refl _)); have hneg : ¬ ((rm1 : Int) < 0) := by omega)
                    | (go_at_call 16; have hchk := bh1; refine (cpMarkRules (1) (by omega) (by omega) hlc0 HOK0.out uX0_h1 X0_h1).mono ?_; rintro e wm0 ⟨⟨rm0, rfl, pm0, zm0⟩, om0⟩; have Km0 := Below.trans Kh1 (OutS.below om0 (fun b hb => Nat.le_trans Lw0.out hb.1) Kh1.size); have X1_m0 := CpLayers.outS X1_h1 om0 (fun b hb => .inl (Nat.lt_of_lt_of_le hb.2 (Nat.le_refl _))) uX1_h1; have uX1_m0 := Nat.le_trans uX1_h1 om0.size; have G0_m0 := OwnFaults.out G0_h1 om0 (fun b hb => Nat.lt_of_lt_of_le hb.2 (bx1.size)))
                    | (go_at_call 15; have hchk := bf1; refine (eqLayerS (fun b hb => Nat.lt_of_lt_of_le hb.2 uX1_f1) (fun b hb => hb.2) X1_f1.at kf1.at).mono ?_; rintro e wh1 ⟨rfl, bh1⟩; have Kh1 := good_below Kf1 bh1; have X0_h1 := CpRules.below X0_f1 bh1 uX0_f1; have uX0_h1 := Nat.le_trans uX0_f1 bh1.size; have X1_h1 := CpLayers.below X1_f1 bh1 uX1_f1; have uX1_h1 := Nat.le_trans uX1_f1 bh1.size; have G0_h1 := OwnFaults.below G0_f1 bh1)
                    | (go_at_call 11; have hchk := bh0; refine (ct1 hlc1 HOK1.out _ (good_below hb5 Kh0)).mono ?_; rintro e wf1 ⟨⟨yf1, rfl, kf1⟩, bf1⟩; have Kf1 := good_below Kh0 bf1; have X0_f1 := CpRules.below X0_h0 bf1 uX0_h0; have uX0_f1 := Nat.le_trans uX0_h0 bf1.size; have X1_f1 := CpLayers.below X1_h0 bf1 uX1_h0; have uX1_f1 := Nat.le_trans uX1_h0 bf1.size; have G0_f1 := OwnFaults.below G0_h0 bf1)
                    | (go_at_call 14; have hchk := bf0; refine (eqRuleS (fun b hb => Nat.lt_of_lt_of_le hb.2 uX0_f0) (fun b hb => hb.2) X0_f0.at kf0.at).mono ?_; rintro e wh0 ⟨rfl, bh0⟩; have Kh0 := good_below Kf0 bh0; have X0_h0 := CpRules.below X0_f0 bh0 uX0_f0; have uX0_h0 := Nat.le_trans uX0_f0 bh0.size; have X1_h0 := CpLayers.below X1_f0 bh0 uX1_f0; have uX1_h0 := Nat.le_trans uX1_f0 bh0.size; have G0_h0 := OwnFaults.below G0_f0 bh0)
                    | (go_at_call 10; have hchk := be0; refine (ct0 hlc0 HOK0.out _ (good_below hb5 Ke0)).mono ?_; rintro e wf0 ⟨⟨yf0, rfl, kf0⟩, bf0⟩; have Kf0 := good_below Ke0 bf0; have X0_f0 := CpRules.below X0_e0 bf0 uX0_e0; have uX0_f0 := Nat.le_trans uX0_e0 bf0.size; have X1_f0 := CpLayers.below X1_e0 bf0 uX1_e0; have uX1_f0 := Nat.le_trans uX1_e0 bf0.size; have G0_f0 := OwnFaults.below G0_e0 bf0)
                    | (go_at_call 13; have hchk := bg; refine (eqFaultS (fun b hb => hb.2) (fun b hb => hb.2) og0.at (OwnFaults.below ow0 Kg).at).mono ?_; rintro e we0 ⟨rfl, be0⟩; have Ke0 := good_below Kg be0; have X0_e0 := CpRules.below X0_g be0 uX0_g; have uX0_e0 := Nat.le_trans uX0_g be0.size; have X1_e0 := CpLayers.below X1_g be0 uX1_g; have uX1_e0 := Nat.le_trans uX1_g be0.size; have G0_e0 := OwnFaults.below og0 be0)
                    | (go_at_call 12; have hchk := bx1; refine (ci' (fun b => b < wx1.heap.size) _ _ _ (good_below hb5 Kx1) (fun b hb => hb) (X0_x1.at.mono (S' := fun b => b < wx1.heap.size) (fun b hb => Nat.lt_of_lt_of_le hb.2 uX0_x1)) (kx1.at.mono (S' := fun b => b < wx1.heap.size) (fun b hb => Nat.lt_of_lt_of_le hb.2 Ux1))).mono ?_; rintro e wg ⟨⟨qg0, rfl, og0⟩, bg⟩; have Kg := good_below Kx1 bg; have X0_g := CpRules.below X0_x1 bg uX0_x1; have uX0_g := Nat.le_trans uX0_x1 bg.size; have X1_g := CpLayers.below kx1 bg Ux1; have uX1_g := Nat.le_trans Ux1 bg.size; have HWX : Hid (w5.heap.size ≤ wx1.heap.size) := Kx1.size; obtain ⟨ag0, cg0, hvg0, -⟩ := og0.value; subst hvg0)
                    | (go_at_call 11; have hchk := bx0; refine (ct1 hlc1 HOK1.out _ (good_below hb5 Kx0)).mono ?_; rintro e wx1 ⟨⟨yx1, rfl, kx1⟩, bx1⟩; have Kx1 := good_below Kx0 bx1; have X0_x1 := CpRules.below kx0 bx1 Ux0; have uX0_x1 := Nat.le_trans Ux0 bx1.size; have Ux1 : wx1.heap.size ≤ wx1.heap.size := Nat.le_refl _; have Lw1 : Hid (w5.heap.size ≤ wx0.heap.size) := Kx0.size)
                    | (go_at_call 10; refine (ct0 hlc0 HOK0.out _ (good_below hb5 K5)).mono ?_; rintro e wx0 ⟨⟨yx0, rfl, kx0⟩, bx0⟩; have Kx0 := good_below K5 bx0; have Ux0 : wx0.heap.size ≤ wx0.heap.size := Nat.le_refl _; have Lw0 : Hid (w5.heap.size ≤ w5.heap.size) := K5.size))
        have hb22 := good_below hb5 Kp0
        have ow22_0 := OwnFaults.below ow0 Kp0
        have dm22_0 := D0_p0
        obtain ⟨w22, hw22⟩ : ∃ w22, w22 = wp0 := ⟨_, rfl⟩
        subst hw22
        have HB22 : Hid (Below w.heap.size w w22) := hb22
        go_cut [15, 16] from 17 (fun s15 s16 wx => s16 = .int .i64 P1 ∧ (∃ B, OwnFaults B wx s15 P0) ∧ Below w22.heap.size w22 wx)
        case first =>
          go_wp2_with (first
                    | (go_at_call 12; have hchk := bz1; refine (ci' (fun b => b < wz1.heap.size) _ _ _ Bz1 (fun b hb => hb) ((kz0_1).at.mono (S' := fun b => b < wz1.heap.size) (fun b hb => Nat.lt_of_lt_of_le hb.2 (uz0_1))) ((kz1).at.mono (S' := fun b => b < wz1.heap.size) (fun b hb => Nat.lt_of_lt_of_le hb.2 (Nat.le_refl _)))).mono ?_; rintro e wz ⟨⟨qz0, rfl, oz0⟩, bz⟩)
                    | (go_at_call 11; have hchk := bz0; refine (ct1 hlc1 HOK1.out _ Bz0).mono ?_; rintro e wz1 ⟨⟨yz1, rfl, kz1⟩, bz1⟩; have Bz1 := good_below Bz0 bz1; have kz0_1 := CpRules.below kz0 bz1 (Nat.le_refl _); have uz0_1 := Nat.le_trans (Nat.le_refl _) bz1.size)
                    | (go_at_call 10; refine (ct0 hlc0 HOK0.out _ HB22.out).mono ?_; rintro e wz0 ⟨⟨yz0, rfl, kz0⟩, bz0⟩; have Bz0 := good_below HB22.out bz0))
          go_meet
          exact ⟨rfl, ⟨_, oz0⟩, good_below (good_below bz0 bz1) bz⟩
        case rest =>
          obtain ⟨rfl, ⟨Bh0, oh0⟩, bh⟩ := hcut
          go_wp2_with (first
                        | (go_at_call 19; have hchk := bj0; refine (heldFaultS (by omega) (by omega) (by omega) (MkdFaults.below dm22_0 Kj0)).mono ?_; rintro e wk0 ⟨rfl, bk0⟩; have Kk0 := good_below Kj0 bk0)
                        | (go_at_call 13; refine (eqFaultS (fun b hb => hb.2) (fun b hb => hb.2) oh0.at (OwnFaults.below ow22_0 bh).at).mono ?_; rintro e wj0 ⟨rfl, bj0⟩; have Kj0 := good_below bh bj0))
          go_ret
          exact ⟨rfl, good_below HB22.out Kk0⟩
end Go.Proofs.YtoopdcbgnccmiaaGreatDoor

namespace Go.Proofs.YtoopdcbgnccmiaaGreatDoor
open Go.Lib
set_option linter.unusedVariables false
/-! How the model's decoder answers, a class of first bytes at a time, in the words of the law's own decoder. -/
theorem dec_none {n b0 b1 b2 b3 : Nat} (h : (128 ≤ b0 ∧ b0 < 194) ∨ 245 ≤ b0) (h0 : b0 < 256) (h1 : b1 < 256) (h2 : b2 < 256) (h3 : b3 < 256) : decodeN n b0 b1 b2 b3 = (65533, 1) := by
  unfold decodeN
  repeat' split
  all_goals first | rfl | (exfalso; omega)
theorem dec_1no {n b0 b1 b2 b3 : Nat} (h : 194 ≤ b0 ∧ b0 ≤ 223) (h1 : b1 < 256) (hc : ¬ (1 < n ∧ 128 ≤ b1 ∧ b1 ≤ 191)) : decodeN n b0 b1 b2 b3 = (65533, 1) := by
  unfold decodeN
  repeat' split
  all_goals first | rfl | (exfalso; omega)
theorem dec_1yes {n b0 b1 b2 b3 : Nat} (h : 194 ≤ b0 ∧ b0 ≤ 223) (hc : 1 < n ∧ 128 ≤ b1 ∧ b1 ≤ 191) : decodeN n b0 b1 b2 b3 = ((b0 - 192) * 64 + b1 - 128, 2) := by
  unfold decodeN
  repeat' split
  all_goals first | (exfalso; omega) | (apply Prod.ext <;> simp only <;> omega)
theorem dec_2no {n b0 b1 b2 b3 : Nat} (h : 224 ≤ b0 ∧ b0 ≤ 239) (h1 : b1 < 256) (h2 : b2 < 256) (hc : ¬ ((1 < n ∧ 128 ≤ b1 ∧ b1 ≤ 191) ∧ (2 < n ∧ 128 ≤ b2 ∧ b2 ≤ 191))) : decodeN n b0 b1 b2 b3 = (65533, 1) := by
  unfold decodeN
  repeat' split
  all_goals first | rfl | (exfalso; omega)
theorem dec_2bad {n b0 b1 b2 b3 : Nat} (h : 224 ≤ b0 ∧ b0 ≤ 239) (h1 : 128 ≤ b1 ∧ b1 ≤ 191) (h2 : 128 ≤ b2 ∧ b2 ≤ 191)
    (hr : ((b0 - 224) * 64 + b1 - 128) * 64 + b2 - 128 < 2048 ∨ (55296 ≤ ((b0 - 224) * 64 + b1 - 128) * 64 + b2 - 128 ∧ ((b0 - 224) * 64 + b1 - 128) * 64 + b2 - 128 ≤ 57343)) : decodeN n b0 b1 b2 b3 = (65533, 1) := by
  unfold decodeN
  repeat' split
  all_goals first | rfl | (exfalso; omega)
theorem dec_2yes {n b0 b1 b2 b3 : Nat} (h : 224 ≤ b0 ∧ b0 ≤ 239) (hn : 2 < n) (h1 : 128 ≤ b1 ∧ b1 ≤ 191) (h2 : 128 ≤ b2 ∧ b2 ≤ 191)
    (hr : ¬ (((b0 - 224) * 64 + b1 - 128) * 64 + b2 - 128 < 2048 ∨ (55296 ≤ ((b0 - 224) * 64 + b1 - 128) * 64 + b2 - 128 ∧ ((b0 - 224) * 64 + b1 - 128) * 64 + b2 - 128 ≤ 57343))) :
    decodeN n b0 b1 b2 b3 = (((b0 - 224) * 64 + b1 - 128) * 64 + b2 - 128, 3) := by
  unfold decodeN
  repeat' split
  all_goals first | (exfalso; omega) | (apply Prod.ext <;> simp only <;> omega)
theorem dec_3no {n b0 b1 b2 b3 : Nat} (h : 240 ≤ b0 ∧ b0 ≤ 244) (h1 : b1 < 256) (h2 : b2 < 256) (h3 : b3 < 256) (hc : ¬ ((1 < n ∧ 128 ≤ b1 ∧ b1 ≤ 191) ∧ (2 < n ∧ 128 ≤ b2 ∧ b2 ≤ 191) ∧ (3 < n ∧ 128 ≤ b3 ∧ b3 ≤ 191))) : decodeN n b0 b1 b2 b3 = (65533, 1) := by
  unfold decodeN
  repeat' split
  all_goals first | rfl | (exfalso; omega)
theorem dec_3bad {n b0 b1 b2 b3 : Nat} (h : 240 ≤ b0 ∧ b0 ≤ 244) (h1 : 128 ≤ b1 ∧ b1 ≤ 191) (h2 : 128 ≤ b2 ∧ b2 ≤ 191) (h3 : 128 ≤ b3 ∧ b3 ≤ 191)
    (hr : (((b0 - 240) * 64 + b1 - 128) * 64 + b2 - 128) * 64 + b3 - 128 < 65536 ∨ 1114111 < (((b0 - 240) * 64 + b1 - 128) * 64 + b2 - 128) * 64 + b3 - 128) : decodeN n b0 b1 b2 b3 = (65533, 1) := by
  unfold decodeN
  repeat' split
  all_goals first | rfl | (exfalso; omega)
theorem dec_3yes {n b0 b1 b2 b3 : Nat} (h : 240 ≤ b0 ∧ b0 ≤ 244) (hn : 3 < n) (h1 : 128 ≤ b1 ∧ b1 ≤ 191) (h2 : 128 ≤ b2 ∧ b2 ≤ 191) (h3 : 128 ≤ b3 ∧ b3 ≤ 191)
    (hr : ¬ ((((b0 - 240) * 64 + b1 - 128) * 64 + b2 - 128) * 64 + b3 - 128 < 65536 ∨ 1114111 < (((b0 - 240) * 64 + b1 - 128) * 64 + b2 - 128) * 64 + b3 - 128)) :
    decodeN n b0 b1 b2 b3 = ((((b0 - 240) * 64 + b1 - 128) * 64 + b2 - 128) * 64 + b3 - 128, 4) := by
  unfold decodeN
  repeat' split
  all_goals first | (exfalso; omega) | (apply Prod.ext <;> simp only <;> omega)
end Go.Proofs.YtoopdcbgnccmiaaGreatDoor

namespace Go.Proofs
open Go.Shelf
def Tryz.lays128_ren : Go.Shelf.Ren := ⟨fun | 128 => 175 | n => n, fun | 51 => 202 | 3 => 3 | 4 => 4 | 46 => 195 | 5 => 5 | 9 => 9 | n => n, fun | n => n⟩
theorem Tryz.lays128 : Go.Proofs.Lays.n128 Tryz.prog Tryz.lays128_ren := {
  mixed := by kernel_rfl
  f128 := Tryz.func175.trans (congrArg some (by kernel_rfl))
  t3 := Tryz.underlying3
  a3 := Tryz.isAgg3
  z3 := Tryz.sizeOf3
  v3 := Tryz.zeroValue3
  t4 := Tryz.underlying4
  a4 := Tryz.isAgg4
  z4 := Tryz.sizeOf4
  v4 := Tryz.zeroValue4
  t5 := Tryz.underlying5
  a5 := Tryz.isAgg5
  z5 := Tryz.sizeOf5
  v5 := Tryz.zeroValue5
  t9 := Tryz.underlying9
  a9 := Tryz.isAgg9
  z9 := Tryz.sizeOf9
  v9 := Tryz.zeroValue9
  t46 := Tryz.underlying195
  a46 := Tryz.isAgg195
  z46 := Tryz.sizeOf195
  v46 := Tryz.zeroValue195
  t51 := Tryz.underlying202
  a51 := Tryz.isAgg202
  z51 := Tryz.sizeOf202
  v51 := Tryz.zeroValue202 }
/-- bits.Len32: "Len32 returns the minimum number of bits required to represent x; the result is 0 for x == 0.": IT RETURNS 'Lib.bitLen x'; the world is as it was. ('h0', 'h1': x is a uint32.) (LAID: no walk: one application.) -/
theorem Tryz.bits_Len32 (x : Int) (w : World) (h0 : 0 ≤ x) (h1 : x ≤ 4294967295) :
    Calls Tryz.prog 175 #[.int .u32 x] w fun e w' => e = .returned (.int .i64 (Lib.bitLen x.toNat)) ∧ w' = w := Any.bits_Len32 Tryz.lays128 x w h0 h1
def Tryz.lays125_ren : Go.Shelf.Ren := ⟨fun | 125 => 139 | 128 => 175 | 129 => 176 | n => n, fun | 46 => 195 | 3 => 3 | 51 => 202 | 53 => 219 | 4 => 4 | 5 => 5 | 9 => 9 | n => n, fun | n => n⟩
theorem Tryz.lays125 : Go.Proofs.Lays.n125 Tryz.prog Tryz.lays125_ren := {
  mixed := by kernel_rfl
  f125 := Tryz.func139.trans (congrArg some (by kernel_rfl))
  f128 := Tryz.func175.trans (congrArg some (by kernel_rfl))
  f129 := Tryz.func176.trans (congrArg some (by kernel_rfl))
  t3 := Tryz.underlying3
  a3 := Tryz.isAgg3
  z3 := Tryz.sizeOf3
  v3 := Tryz.zeroValue3
  t4 := Tryz.underlying4
  a4 := Tryz.isAgg4
  z4 := Tryz.sizeOf4
  v4 := Tryz.zeroValue4
  t5 := Tryz.underlying5
  a5 := Tryz.isAgg5
  z5 := Tryz.sizeOf5
  v5 := Tryz.zeroValue5
  t9 := Tryz.underlying9
  a9 := Tryz.isAgg9
  z9 := Tryz.sizeOf9
  v9 := Tryz.zeroValue9
  t46 := Tryz.underlying195
  a46 := Tryz.isAgg195
  z46 := Tryz.sizeOf195
  v46 := Tryz.zeroValue195
  t51 := Tryz.underlying202
  a51 := Tryz.isAgg202
  z51 := Tryz.sizeOf202
  v51 := Tryz.zeroValue202
  t53 := Tryz.underlying219
  a53 := Tryz.isAgg219
  z53 := Tryz.sizeOf219
  v53 := Tryz.zeroValue219 }
/-- bits.Len: "Len returns the minimum number of bits required to represent x; the result is 0 for x == 0.": IT RETURNS 'Lib.bitLen x'; the world is as it was. (A uint has 64 bits in the model.) ITS CALLEE bits.Len64 IS MET BY ITS OWN CONTRACT OFF THE SHELF (lay that first). (LAID: no walk: one application.) -/
theorem Tryz.bits_Len (x : Int) (w : World) (h0 : 0 ≤ x) (h1 : x ≤ 18446744073709551615) :
    Calls Tryz.prog 139 #[.int .u64 x] w fun e w' => e = .returned (.int .i64 (Lib.bitLen x.toNat)) ∧ w' = w := Any.bits_Len Tryz.lays125 x w h0 h1
def Tryz.lays213_ren : Go.Shelf.Ren := ⟨fun | 213 => 140 | 265 => 177 | n => n, fun | 9 => 9 | 3 => 3 | n => n, fun | n => n⟩
theorem Tryz.lays213 : Go.Proofs.Lays.n213 Tryz.prog Tryz.lays213_ren := {
  mixed := by kernel_rfl
  f213 := Tryz.func140.trans (congrArg some (by kernel_rfl))
  f265 := Tryz.func177.trans (congrArg some (by kernel_rfl))
  t3 := Tryz.underlying3
  a3 := Tryz.isAgg3
  z3 := Tryz.sizeOf3
  v3 := Tryz.zeroValue3
  t9 := Tryz.underlying9
  a9 := Tryz.isAgg9
  z9 := Tryz.sizeOf9
  v9 := Tryz.zeroValue9 }
open Go.RowKit in
/-- internal/bytealg.CompareString (what strings.Compare calls): IT RETURNS 'Lib.compareBytes a b'; the world is as it was. (LAID: no walk: one application.) -/
theorem Tryz.bytealg_CompareString (a b : ByteArray) (w : World) :
    Calls Tryz.prog 140 #[.string a, .string b] w fun e w' => e = .returned (.int .i64 (Lib.compareBytes a.data.toList b.data.toList)) ∧ w' = w := Any.bytealg_CompareString Tryz.lays213 a b w
def Tryz.lays106_ren : Go.Shelf.Ren := ⟨fun | 106 => 107 | 213 => 140 | 265 => 177 | n => n, fun | 9 => 9 | 3 => 3 | n => n, fun | n => n⟩
theorem Tryz.lays106 : Go.Proofs.Lays.n106 Tryz.prog Tryz.lays106_ren := {
  mixed := by kernel_rfl
  f106 := Tryz.func107.trans (congrArg some (by kernel_rfl))
  f213 := Tryz.func140.trans (congrArg some (by kernel_rfl))
  f265 := Tryz.func177.trans (congrArg some (by kernel_rfl))
  t3 := Tryz.underlying3
  a3 := Tryz.isAgg3
  z3 := Tryz.sizeOf3
  v3 := Tryz.zeroValue3
  t9 := Tryz.underlying9
  a9 := Tryz.isAgg9
  z9 := Tryz.sizeOf9
  v9 := Tryz.zeroValue9 }
open Go.RowKit in
/-- strings.Compare: "Compare returns an integer comparing two strings lexicographically. The result will be 0 if a == b, -1 if a < b, and +1 if a > b.": IT RETURNS 'Lib.compareBytes a b'; the world is as it was. (LAID: no walk: one application.) -/
theorem Tryz.strings_Compare (a b : ByteArray) (w : World) :
    Calls Tryz.prog 107 #[.string a, .string b] w fun e w' => e = .returned (.int .i64 (Lib.compareBytes a.data.toList b.data.toList)) ∧ w' = w := Any.strings_Compare Tryz.lays106 a b w
def Tryz.lays210_ren : Go.Shelf.Ren := ⟨fun | 210 => 141 | 206 => 178 | n => n, fun | 9 => 9 | 4 => 4 | 3 => 3 | n => n, fun | n => n⟩
theorem Tryz.lays210 : Go.Proofs.Lays.n210 Tryz.prog Tryz.lays210_ren := {
  mixed := by kernel_rfl
  f206 := Tryz.func178.trans (congrArg some (by kernel_rfl))
  f210 := Tryz.func141.trans (congrArg some (by kernel_rfl))
  t3 := Tryz.underlying3
  a3 := Tryz.isAgg3
  z3 := Tryz.sizeOf3
  v3 := Tryz.zeroValue3
  t4 := Tryz.underlying4
  a4 := Tryz.isAgg4
  z4 := Tryz.sizeOf4
  v4 := Tryz.zeroValue4
  t9 := Tryz.underlying9
  a9 := Tryz.isAgg9
  z9 := Tryz.sizeOf9
  v9 := Tryz.zeroValue9 }
open Go.RowKit in
/-- internal/stringslite.CutPrefix (what strings.CutPrefix calls). (LAID: no walk: one application.) -/
theorem Tryz.stringslite_CutPrefix (s p : ByteArray) (w : World) :
    Calls Tryz.prog 141 #[.string s, .string p] w fun e w' => e = .returned (.tuple #[.string ⟨(Lib.trimPrefix s.data.toList p.data.toList).toArray⟩, .bool (Lib.hasPrefix s.data.toList p.data.toList)]) ∧ w' = w := Any.stringslite_CutPrefix Tryz.lays210 s p w
def Tryz.lays103_ren : Go.Shelf.Ren := ⟨fun | 103 => 109 | 210 => 141 | 206 => 178 | n => n, fun | 9 => 9 | 4 => 4 | 24 => 164 | 3 => 3 | n => n, fun | n => n⟩
theorem Tryz.lays103 : Go.Proofs.Lays.n103 Tryz.prog Tryz.lays103_ren := {
  mixed := by kernel_rfl
  f103 := Tryz.func109.trans (congrArg some (by kernel_rfl))
  f206 := Tryz.func178.trans (congrArg some (by kernel_rfl))
  f210 := Tryz.func141.trans (congrArg some (by kernel_rfl))
  t3 := Tryz.underlying3
  a3 := Tryz.isAgg3
  z3 := Tryz.sizeOf3
  v3 := Tryz.zeroValue3
  t4 := Tryz.underlying4
  a4 := Tryz.isAgg4
  z4 := Tryz.sizeOf4
  v4 := Tryz.zeroValue4
  t9 := Tryz.underlying9
  a9 := Tryz.isAgg9
  z9 := Tryz.sizeOf9
  v9 := Tryz.zeroValue9
  t24 := Tryz.underlying164
  a24 := Tryz.isAgg164
  z24 := Tryz.sizeOf164
  v24 := Tryz.zeroValue164 }
open Go.RowKit in
/-- strings.CutPrefix: "CutPrefix returns s without the provided leading prefix string and reports whether it found the prefix. If s doesn't start with prefix, CutPrefix returns s, false. If prefix is the empty string, CutPrefix returns s, true.": IT RETURNS '(Lib.trimPrefix s p, Lib.hasPrefix s p)'; the world is as it was. (LAID: no walk: one application.) -/
theorem Tryz.strings_CutPrefix (s p : ByteArray) (w : World) :
    Calls Tryz.prog 109 #[.string s, .string p] w fun e w' => e = .returned (.tuple #[.string ⟨(Lib.trimPrefix s.data.toList p.data.toList).toArray⟩, .bool (Lib.hasPrefix s.data.toList p.data.toList)]) ∧ w' = w := Any.strings_CutPrefix Tryz.lays103 s p w
def Tryz.lays215_ren : Go.Shelf.Ren := ⟨fun | 215 => 206 | n => n, fun | 3 => 3 | 4 => 4 | n => n, fun | n => n⟩
theorem Tryz.lays215 : Go.Proofs.Lays.n215 Tryz.prog Tryz.lays215_ren := {
  mixed := by kernel_rfl
  f215 := Tryz.func206.trans (congrArg some (by kernel_rfl))
  t3 := Tryz.underlying3
  a3 := Tryz.isAgg3
  z3 := Tryz.sizeOf3
  v3 := Tryz.zeroValue3
  t4 := Tryz.underlying4
  a4 := Tryz.isAgg4
  z4 := Tryz.sizeOf4
  v4 := Tryz.zeroValue4 }
open Go.RowKit in
/-- cmp.isNaN at int: 'x != x': false. (LAID: no walk: one application.) -/
theorem Tryz.cmp_isNaN_int (x : Int) (w : World) :
    Calls Tryz.prog 206 #[.int .i64 x] w fun e w' => e = .returned (.bool false) ∧ w' = w := Any.cmp_isNaN_int Tryz.lays215 x w
def Tryz.lays122_ren : Go.Shelf.Ren := ⟨fun | 122 => 165 | 215 => 206 | n => n, fun | 3 => 3 | 4 => 4 | n => n, fun | n => n⟩
theorem Tryz.lays122 : Go.Proofs.Lays.n122 Tryz.prog Tryz.lays122_ren := {
  mixed := by kernel_rfl
  f122 := Tryz.func165.trans (congrArg some (by kernel_rfl))
  f215 := Tryz.func206.trans (congrArg some (by kernel_rfl))
  t3 := Tryz.underlying3
  a3 := Tryz.isAgg3
  z3 := Tryz.sizeOf3
  v3 := Tryz.zeroValue3
  t4 := Tryz.underlying4
  a4 := Tryz.isAgg4
  z4 := Tryz.sizeOf4
  v4 := Tryz.zeroValue4 }
open Go.RowKit in
/-- cmp.Compare at int: "Compare returns -1 if x is less than y, 0 if x equals y, +1 if x is greater than y.": IT RETURNS 'Lib.compareInt x y'; the world is as it was. (LAID: no walk: one application.) -/
theorem Tryz.cmp_Compare_int (x y : Int) (w : World) :
    Calls Tryz.prog 165 #[.int .i64 x, .int .i64 y] w fun e w' => e = .returned (.int .i64 (Lib.compareInt x y)) ∧ w' = w := Any.cmp_Compare_int Tryz.lays122 x y w
def Tryz.lays129_ren : Go.Shelf.Ren := ⟨fun | 129 => 176 | n => n, fun | 53 => 219 | 3 => 3 | 4 => 4 | 46 => 195 | 5 => 5 | 9 => 9 | n => n, fun | n => n⟩
theorem Tryz.lays129 : Go.Proofs.Lays.n129 Tryz.prog Tryz.lays129_ren := {
  mixed := by kernel_rfl
  f129 := Tryz.func176.trans (congrArg some (by kernel_rfl))
  t3 := Tryz.underlying3
  a3 := Tryz.isAgg3
  z3 := Tryz.sizeOf3
  v3 := Tryz.zeroValue3
  t4 := Tryz.underlying4
  a4 := Tryz.isAgg4
  z4 := Tryz.sizeOf4
  v4 := Tryz.zeroValue4
  t5 := Tryz.underlying5
  a5 := Tryz.isAgg5
  z5 := Tryz.sizeOf5
  v5 := Tryz.zeroValue5
  t9 := Tryz.underlying9
  a9 := Tryz.isAgg9
  z9 := Tryz.sizeOf9
  v9 := Tryz.zeroValue9
  t46 := Tryz.underlying195
  a46 := Tryz.isAgg195
  z46 := Tryz.sizeOf195
  v46 := Tryz.zeroValue195
  t53 := Tryz.underlying219
  a53 := Tryz.isAgg219
  z53 := Tryz.sizeOf219
  v53 := Tryz.zeroValue219 }
/-- bits.Len64: "Len64 returns the minimum number of bits required to represent x; the result is 0 for x == 0.": IT RETURNS 'Lib.bitLen x'; the world is as it was. ('h0', 'h1': x is a uint64.) (LAID: no walk: one application.) -/
theorem Tryz.bits_Len64 (x : Int) (w : World) (h0 : 0 ≤ x) (h1 : x ≤ 18446744073709551615) :
    Calls Tryz.prog 176 #[.int .u64 x] w fun e w' => e = .returned (.int .i64 (Lib.bitLen x.toNat)) ∧ w' = w := Any.bits_Len64 Tryz.lays129 x w h0 h1
def Tryz.laysM316_ren : Go.Shelf.Ren := ⟨fun | 316 => 93 | n => n, fun | 9 => 9 | 3 => 3 | 4 => 4 | 37 => 147 | 0 => 0 | 127 => 188 | 5 => 5 | n => n, fun | n => n⟩
theorem Tryz.laysM316 : Go.Proofs.LaysM.n316 Tryz.prog Tryz.laysM316_ren := {
  mixed := by kernel_rfl
  f316 := Tryz.func93.trans (congrArg some (by kernel_rfl))
  t0 := Tryz.underlying0
  a0 := Tryz.isAgg0
  z0 := Tryz.sizeOf0
  v0 := Tryz.zeroValue0
  t3 := Tryz.underlying3
  a3 := Tryz.isAgg3
  z3 := Tryz.sizeOf3
  v3 := Tryz.zeroValue3
  t4 := Tryz.underlying4
  a4 := Tryz.isAgg4
  z4 := Tryz.sizeOf4
  v4 := Tryz.zeroValue4
  t9 := Tryz.underlying9
  a9 := Tryz.isAgg9
  z9 := Tryz.sizeOf9
  v9 := Tryz.zeroValue9
  t37 := Tryz.underlying147
  a37 := Tryz.isAgg147
  z37 := Tryz.sizeOf147
  v37 := Tryz.zeroValue147
  t127 := Tryz.underlying188
  a127 := Tryz.isAgg188
  z127 := Tryz.sizeOf188
  v127 := Tryz.zeroValue188
  t5 := Tryz.underlying5
  a5 := Tryz.isAgg5
  z5 := Tryz.sizeOf5
  v5 := Tryz.zeroValue5
  i0 := by kernel_rfl
  i3 := by kernel_rfl
  i4 := by kernel_rfl
  i5 := by kernel_rfl
  i9 := by kernel_rfl
  i37 := by kernel_rfl
  i127 := by kernel_rfl }
open Go.RowKit in
/-- internal/stringslite.Clone (what strings.Clone calls): "Clone returns a fresh copy of s.": THE SAME BYTES. Of what was there nothing has turned (a new row is laid, and frozen, where s is not empty). (LAID: no walk: one application.) -/
theorem Tryz.stringslite_Clone (s : ByteArray) (w : World) (hlim : s.size ≤ 281474976710656) :
    Calls Tryz.prog 93 #[.string s] w fun e w' => e = .returned (.string s) ∧ Below w.heap.size w w' := Any.stringslite_Clone Tryz.laysM316 s w hlim
def Tryz.lays217_ren : Go.Shelf.Ren := ⟨fun | 217 => 235 | 266 => 241 | n => n, fun | 9 => 9 | 5 => 5 | 3 => 3 | n => n, fun | n => n⟩
theorem Tryz.lays217 : Go.Proofs.Lays.n217 Tryz.prog Tryz.lays217_ren := {
  mixed := by kernel_rfl
  f217 := Tryz.func235.trans (congrArg some (by kernel_rfl))
  f266 := Tryz.func241.trans (congrArg some (by kernel_rfl))
  t3 := Tryz.underlying3
  a3 := Tryz.isAgg3
  z3 := Tryz.sizeOf3
  v3 := Tryz.zeroValue3
  t5 := Tryz.underlying5
  a5 := Tryz.isAgg5
  z5 := Tryz.sizeOf5
  v5 := Tryz.zeroValue5
  t9 := Tryz.underlying9
  a9 := Tryz.isAgg9
  z9 := Tryz.sizeOf9
  v9 := Tryz.zeroValue9 }
open Go.RowKit Go.Lib in
/-- internal/stringslite.IndexByte (what strings.IndexByte calls): IT RETURNS 'Lib.indexByte s c'; the world is as it was. (LAID: no walk: one application.) -/
theorem Tryz.stringslite_IndexByte (s : ByteArray) (c : Int) (w : World) :
    Calls Tryz.prog 235 #[.string s, .int .u8 c] w fun e w' => e = .returned (.int .i64 (Lib.indexByte s.data.toList c.toNat.toUInt8)) ∧ w' = w := Any.stringslite_IndexByte Tryz.lays217 s c w
def Tryz.lays224_ren : Go.Shelf.Ren := ⟨fun | 224 => 237 | n => n, fun | 3 => 3 | n => n, fun | n => n⟩
theorem Tryz.lays224 : Go.Proofs.Lays.n224 Tryz.prog Tryz.lays224_ren := {
  mixed := by kernel_rfl
  f224 := Tryz.func237.trans (congrArg some (by kernel_rfl))
  t3 := Tryz.underlying3
  a3 := Tryz.isAgg3
  z3 := Tryz.sizeOf3
  v3 := Tryz.zeroValue3 }
open Go.RowKit Go.Lib in
/-- internal/bytealg.Cutover: "Cutover reports the number of failures of IndexByte we should tolerate before switching over to Index. n is the number of bytes processed so far.": on amd64: (n + 16) / 8. (LAID: no walk: one application.) -/
theorem Tryz.bytealg_Cutover (n : Int) (h0 : 0 ≤ n) (h1 : n < 4611686018427387904) (w : World) :
    Calls Tryz.prog 237 #[.int .i64 n] w fun e w' => e = .returned (.int .i64 ((n + 16) / 8)) ∧ w' = w := Any.bytealg_Cutover Tryz.lays224 n h0 h1 w
def Tryz.lays314_ren : Go.Shelf.Ren := ⟨fun | 314 => 242 | n => n, fun | 9 => 9 | 51 => 202 | 3 => 3 | 4 => 4 | 5 => 5 | 46 => 195 | n => n, fun | n => n⟩
theorem Tryz.lays314 : Go.Proofs.Lays.n314 Tryz.prog Tryz.lays314_ren := {
  mixed := by kernel_rfl
  f314 := Tryz.func242.trans (congrArg some (by kernel_rfl))
  t3 := Tryz.underlying3
  a3 := Tryz.isAgg3
  z3 := Tryz.sizeOf3
  v3 := Tryz.zeroValue3
  t4 := Tryz.underlying4
  a4 := Tryz.isAgg4
  z4 := Tryz.sizeOf4
  v4 := Tryz.zeroValue4
  t5 := Tryz.underlying5
  a5 := Tryz.isAgg5
  z5 := Tryz.sizeOf5
  v5 := Tryz.zeroValue5
  t9 := Tryz.underlying9
  a9 := Tryz.isAgg9
  z9 := Tryz.sizeOf9
  v9 := Tryz.zeroValue9
  t46 := Tryz.underlying195
  a46 := Tryz.isAgg195
  z46 := Tryz.sizeOf195
  v46 := Tryz.zeroValue195
  t51 := Tryz.underlying202
  a51 := Tryz.isAgg202
  z51 := Tryz.sizeOf202
  v51 := Tryz.zeroValue202 }
open Go.RowKit Go.Lib in
/-- hashStr: "returns the hash and the appropriate multiplicative factor for use in Rabin-Karp algorithm": THE HASH OF ALL OF sep, AND 16777619 ^ len(sep), both in uint32. (LAID: no walk: one application.) -/
theorem Tryz.bytealg_hashStr (sep : ByteArray) (hs : sep.size < 4294967281) (w : World) :
    Calls Tryz.prog 242 #[.string sep] w fun e w' => e = .returned (.tuple #[.int .u32 (RK.H sep.data.toList % 4294967296), .int .u32 (16777619 ^ sep.size % 4294967296)]) ∧ w' = w := Any.bytealg_hashStr Tryz.lays314 sep hs w
def Tryz.lays267_ren : Go.Shelf.Ren := ⟨fun | 267 => 238 | 314 => 242 | n => n, fun | 9 => 9 | 3 => 3 | 146 => 264 | 51 => 202 | 4 => 4 | 5 => 5 | 46 => 195 | n => n, fun | n => n⟩
theorem Tryz.lays267 : Go.Proofs.Lays.n267 Tryz.prog Tryz.lays267_ren := {
  mixed := by kernel_rfl
  f267 := Tryz.func238.trans (congrArg some (by kernel_rfl))
  f314 := Tryz.func242.trans (congrArg some (by kernel_rfl))
  t3 := Tryz.underlying3
  a3 := Tryz.isAgg3
  z3 := Tryz.sizeOf3
  v3 := Tryz.zeroValue3
  t4 := Tryz.underlying4
  a4 := Tryz.isAgg4
  z4 := Tryz.sizeOf4
  v4 := Tryz.zeroValue4
  t5 := Tryz.underlying5
  a5 := Tryz.isAgg5
  z5 := Tryz.sizeOf5
  v5 := Tryz.zeroValue5
  t9 := Tryz.underlying9
  a9 := Tryz.isAgg9
  z9 := Tryz.sizeOf9
  v9 := Tryz.zeroValue9
  t46 := Tryz.underlying195
  a46 := Tryz.isAgg195
  z46 := Tryz.sizeOf195
  v46 := Tryz.zeroValue195
  t51 := Tryz.underlying202
  a51 := Tryz.isAgg202
  z51 := Tryz.sizeOf202
  v51 := Tryz.zeroValue202
  t146 := Tryz.underlying264
  a146 := Tryz.isAgg264
  z146 := Tryz.sizeOf264
  v146 := Tryz.zeroValue264 }
open Go.RowKit Go.Lib in
theorem Tryz.bytealg_IndexRabinKarp (s sep : ByteArray) (h1 : 1 ≤ sep.size) (h2 : sep.size ≤ s.size) (hs : s.size < 4294967281) (w : World) :
    Calls Tryz.prog 238 #[.string s, .string sep] w fun e w' => e = .returned (.int .i64 (Lib.index s.data.toList sep.data.toList)) ∧ w' = w := Any.bytealg_IndexRabinKarp Tryz.lays267 s sep h1 h2 hs w
def Tryz.lays219_ren : Go.Shelf.Ren := ⟨fun | 219 => 226 | 217 => 235 | 225 => 236 | 224 => 237 | 267 => 238 | 266 => 241 | 314 => 242 | n => n, fun | 9 => 9 | 3 => 3 | 4 => 4 | 5 => 5 | 46 => 195 | 146 => 264 | 51 => 202 | n => n, fun | 1 => 0 | n => n⟩
theorem Tryz.lays219 : Go.Proofs.Lays.n219 Tryz.prog Tryz.lays219_ren := {
  mixed := by kernel_rfl
  f217 := Tryz.func235.trans (congrArg some (by kernel_rfl))
  f219 := Tryz.func226.trans (congrArg some (by kernel_rfl))
  f224 := Tryz.func237.trans (congrArg some (by kernel_rfl))
  f225 := Tryz.func236.trans (congrArg some (by kernel_rfl))
  f266 := Tryz.func241.trans (congrArg some (by kernel_rfl))
  f267 := Tryz.func238.trans (congrArg some (by kernel_rfl))
  f314 := Tryz.func242.trans (congrArg some (by kernel_rfl))
  t3 := Tryz.underlying3
  a3 := Tryz.isAgg3
  z3 := Tryz.sizeOf3
  v3 := Tryz.zeroValue3
  t4 := Tryz.underlying4
  a4 := Tryz.isAgg4
  z4 := Tryz.sizeOf4
  v4 := Tryz.zeroValue4
  t5 := Tryz.underlying5
  a5 := Tryz.isAgg5
  z5 := Tryz.sizeOf5
  v5 := Tryz.zeroValue5
  t9 := Tryz.underlying9
  a9 := Tryz.isAgg9
  z9 := Tryz.sizeOf9
  v9 := Tryz.zeroValue9
  t46 := Tryz.underlying195
  a46 := Tryz.isAgg195
  z46 := Tryz.sizeOf195
  v46 := Tryz.zeroValue195
  t51 := Tryz.underlying202
  a51 := Tryz.isAgg202
  z51 := Tryz.sizeOf202
  v51 := Tryz.zeroValue202
  t146 := Tryz.underlying264
  a146 := Tryz.isAgg264
  z146 := Tryz.sizeOf264
  v146 := Tryz.zeroValue264
  g1 := by kernel_rfl }
open Go.RowKit Go.Lib in
/-- internal/stringslite.Index (what strings.Index calls) AT A substr OF ONE BYTE c: IT RETURNS 'Lib.indexByte s c'; the world is as it was. (LAID: no walk: one application.) -/
theorem Tryz.stringslite_Index_one (s : ByteArray) (c : UInt8) (w : World) :
    Calls Tryz.prog 226 #[.string s, .string ⟨#[c]⟩] w fun e w' => e = .returned (.int .i64 (Lib.indexByte s.data.toList c)) ∧ w' = w := Any.stringslite_Index_one Tryz.lays219 s c w
open Go.RowKit Go.Lib in
/-- internal/stringslite.Index (what strings.Index calls) AT A substr OF WHATEVER LENGTH: IT RETURNS 'Lib.index s substr'; the world is as it was. 'm': what internal/bytealg.MaxLen holds: whatever. (LAID: no walk: one application.) -/
theorem Tryz.stringslite_Index (s sub : ByteArray) (m : Int) (w : World) (hs : s.size < 4294967281) (hm : w.cell? ⟨0, 0, none⟩ = some (.int .i64 m)) :
    Calls Tryz.prog 226 #[.string s, .string sub] w fun e w' => e = .returned (.int .i64 (Lib.index s.data.toList sub.data.toList)) ∧ w' = w := Any.stringslite_Index Tryz.lays219 s sub m w hs hm
def Tryz.lays143_ren : Go.Shelf.Ren := ⟨fun | 143 => 197 | 219 => 226 | 217 => 235 | 225 => 236 | 224 => 237 | 267 => 238 | 266 => 241 | 314 => 242 | n => n, fun | 9 => 9 | 3 => 3 | 4 => 4 | 5 => 5 | 46 => 195 | 146 => 264 | 51 => 202 | n => n, fun | 1 => 0 | n => n⟩
theorem Tryz.lays143 : Go.Proofs.Lays.n143 Tryz.prog Tryz.lays143_ren := {
  mixed := by kernel_rfl
  f143 := Tryz.func197.trans (congrArg some (by kernel_rfl))
  f217 := Tryz.func235.trans (congrArg some (by kernel_rfl))
  f219 := Tryz.func226.trans (congrArg some (by kernel_rfl))
  f224 := Tryz.func237.trans (congrArg some (by kernel_rfl))
  f225 := Tryz.func236.trans (congrArg some (by kernel_rfl))
  f266 := Tryz.func241.trans (congrArg some (by kernel_rfl))
  f267 := Tryz.func238.trans (congrArg some (by kernel_rfl))
  f314 := Tryz.func242.trans (congrArg some (by kernel_rfl))
  t3 := Tryz.underlying3
  a3 := Tryz.isAgg3
  z3 := Tryz.sizeOf3
  v3 := Tryz.zeroValue3
  t4 := Tryz.underlying4
  a4 := Tryz.isAgg4
  z4 := Tryz.sizeOf4
  v4 := Tryz.zeroValue4
  t5 := Tryz.underlying5
  a5 := Tryz.isAgg5
  z5 := Tryz.sizeOf5
  v5 := Tryz.zeroValue5
  t9 := Tryz.underlying9
  a9 := Tryz.isAgg9
  z9 := Tryz.sizeOf9
  v9 := Tryz.zeroValue9
  t46 := Tryz.underlying195
  a46 := Tryz.isAgg195
  z46 := Tryz.sizeOf195
  v46 := Tryz.zeroValue195
  t51 := Tryz.underlying202
  a51 := Tryz.isAgg202
  z51 := Tryz.sizeOf202
  v51 := Tryz.zeroValue202
  t146 := Tryz.underlying264
  a146 := Tryz.isAgg264
  z146 := Tryz.sizeOf264
  v146 := Tryz.zeroValue264
  g1 := by kernel_rfl }
open Go.RowKit Go.Lib in
/-- strings.Index: "Index returns the index of the first instance of substr in s, or -1 if substr is not present in s.": AT A substr OF ONE BYTE c: IT RETURNS 'Lib.indexByte s c'; the world is as it was. (LAID: no walk: one application.) -/
theorem Tryz.strings_Index_one (s : ByteArray) (c : UInt8) (w : World) :
    Calls Tryz.prog 197 #[.string s, .string ⟨#[c]⟩] w fun e w' => e = .returned (.int .i64 (Lib.indexByte s.data.toList c)) ∧ w' = w := Any.strings_Index_one Tryz.lays143 s c w
open Go.RowKit Go.Lib in
/-- strings.Index: "Index returns the index of the first instance of substr in s, or -1 if substr is not present in s.": IT RETURNS 'Lib.index s substr'; the world is as it was. (LAID: no walk: one application.) -/
theorem Tryz.strings_Index (s sub : ByteArray) (m : Int) (w : World) (hs : s.size < 4294967281) (hm : w.cell? ⟨0, 0, none⟩ = some (.int .i64 m)) :
    Calls Tryz.prog 197 #[.string s, .string sub] w fun e w' => e = .returned (.int .i64 (Lib.index s.data.toList sub.data.toList)) ∧ w' = w := Any.strings_Index Tryz.lays143 s sub m w hs hm
def Tryz.lays138_ren : Go.Shelf.Ren := ⟨fun | 138 => 196 | 195 => 224 | 218 => 225 | 143 => 197 | 219 => 226 | 217 => 235 | 225 => 236 | 224 => 237 | 267 => 238 | 266 => 241 | 314 => 242 | n => n, fun | 9 => 9 | 3 => 3 | 4 => 4 | 5 => 5 | 0 => 0 | 46 => 195 | 146 => 264 | 51 => 202 | n => n, fun | 1 => 0 | n => n⟩
theorem Tryz.lays138 : Go.Proofs.Lays.n138 Tryz.prog Tryz.lays138_ren := {
  mixed := by kernel_rfl
  f138 := Tryz.func196.trans (congrArg some (by kernel_rfl))
  f143 := Tryz.func197.trans (congrArg some (by kernel_rfl))
  f195 := Tryz.func224.trans (congrArg some (by kernel_rfl))
  f217 := Tryz.func235.trans (congrArg some (by kernel_rfl))
  f218 := Tryz.func225.trans (congrArg some (by kernel_rfl))
  f219 := Tryz.func226.trans (congrArg some (by kernel_rfl))
  f224 := Tryz.func237.trans (congrArg some (by kernel_rfl))
  f225 := Tryz.func236.trans (congrArg some (by kernel_rfl))
  f266 := Tryz.func241.trans (congrArg some (by kernel_rfl))
  f267 := Tryz.func238.trans (congrArg some (by kernel_rfl))
  f314 := Tryz.func242.trans (congrArg some (by kernel_rfl))
  t0 := Tryz.underlying0
  a0 := Tryz.isAgg0
  z0 := Tryz.sizeOf0
  v0 := Tryz.zeroValue0
  t3 := Tryz.underlying3
  a3 := Tryz.isAgg3
  z3 := Tryz.sizeOf3
  v3 := Tryz.zeroValue3
  t4 := Tryz.underlying4
  a4 := Tryz.isAgg4
  z4 := Tryz.sizeOf4
  v4 := Tryz.zeroValue4
  t5 := Tryz.underlying5
  a5 := Tryz.isAgg5
  z5 := Tryz.sizeOf5
  v5 := Tryz.zeroValue5
  t9 := Tryz.underlying9
  a9 := Tryz.isAgg9
  z9 := Tryz.sizeOf9
  v9 := Tryz.zeroValue9
  t46 := Tryz.underlying195
  a46 := Tryz.isAgg195
  z46 := Tryz.sizeOf195
  v46 := Tryz.zeroValue195
  t51 := Tryz.underlying202
  a51 := Tryz.isAgg202
  z51 := Tryz.sizeOf202
  v51 := Tryz.zeroValue202
  t146 := Tryz.underlying264
  a146 := Tryz.isAgg264
  z146 := Tryz.sizeOf264
  v146 := Tryz.zeroValue264
  g1 := by kernel_rfl }
open Go.RowKit Go.Lib in
/-- strings.Count AT A substr OF ONE BYTE ('hp'): "Count counts the number of non-overlapping instances of substr in s.": IT RETURNS 'Lib.countByte s (that byte)'; the world is as it was. ✋ NO CONTRACT HERE YET at an empty substr (utf8.RuneCountInString) or at a longer one (a loop over strings.Index). (LAID: no walk: one application.) -/
theorem Tryz.strings_Count_one (s : ByteArray) (c : UInt8) (w : World) :
    Calls Tryz.prog 196 #[.string s, .string ⟨#[c]⟩] w fun e w' => e = .returned (.int .i64 (Lib.countByte s.data.toList c)) ∧ w' = w := Any.strings_Count_one Tryz.lays138 s c w
open Go.RowKit Go.Lib in
/-- strings.Count AT A substr OF TWO BYTES OR MORE: "Count counts the number of non-overlapping instances of substr in s.": IT RETURNS 'Lib.count s substr'; the world is as it was. (LAID: no walk: one application.) -/
theorem Tryz.strings_Count (s sub : ByteArray) (m : Int) (w : World) (hs : s.size < 4294967281) (hm : w.cell? ⟨0, 0, none⟩ = some (.int .i64 m)) (h2 : 2 ≤ sub.size) :
    Calls Tryz.prog 196 #[.string s, .string sub] w fun e w' => e = .returned (.int .i64 (Lib.countB s sub)) ∧ w' = w := Any.strings_Count Tryz.lays138 s sub m w hs hm h2
def Tryz.lays190_ren : Go.Shelf.Ren := ⟨fun | 190 => 152 | 125 => 139 | 258 => 183 | 128 => 175 | 129 => 176 | 302 => 213 | 303 => 214 | 304 => 215 | 305 => 216 | 306 => 217 | 307 => 218 | 308 => 154 | 309 => 219 | 310 => 220 | 333 => 231 | 329 => 208 | 330 => 209 | 334 => 232 | 335 => 233 | 336 => 184 | 344 => 240 | n => n, fun | 31 => 43 | 9 => 9 | 3 => 3 | 46 => 195 | 0 => 0 | 51 => 202 | 53 => 219 | 4 => 4 | 183 => 212 | 182 => 211 | 131 => 139 | 5 => 5 | 218 => 236 | 222 => 240 | 228 => 252 | 229 => 83 | n => n, fun | n => n⟩
theorem Tryz.lays190 : Go.Proofs.Lays.n190 Tryz.prog Tryz.lays190_ren := {
  mixed := by kernel_rfl
  f125 := Tryz.func139.trans (congrArg some (by kernel_rfl))
  f128 := Tryz.func175.trans (congrArg some (by kernel_rfl))
  f129 := Tryz.func176.trans (congrArg some (by kernel_rfl))
  f190 := Tryz.func152.trans (congrArg some (by kernel_rfl))
  f258 := Tryz.func183.trans (congrArg some (by kernel_rfl))
  f302 := Tryz.func213.trans (congrArg some (by kernel_rfl))
  f303 := Tryz.func214.trans (congrArg some (by kernel_rfl))
  f304 := Tryz.func215.trans (congrArg some (by kernel_rfl))
  f305 := Tryz.func216.trans (congrArg some (by kernel_rfl))
  f306 := Tryz.func217.trans (congrArg some (by kernel_rfl))
  f307 := Tryz.func218.trans (congrArg some (by kernel_rfl))
  f308 := Tryz.func154.trans (congrArg some (by kernel_rfl))
  f309 := Tryz.func219.trans (congrArg some (by kernel_rfl))
  f310 := Tryz.func220.trans (congrArg some (by kernel_rfl))
  f329 := Tryz.func208.trans (congrArg some (by kernel_rfl))
  f330 := Tryz.func209.trans (congrArg some (by kernel_rfl))
  f333 := Tryz.func231.trans (congrArg some (by kernel_rfl))
  f334 := Tryz.func232.trans (congrArg some (by kernel_rfl))
  f335 := Tryz.func233.trans (congrArg some (by kernel_rfl))
  f336 := Tryz.func184.trans (congrArg some (by kernel_rfl))
  f344 := Tryz.func240.trans (congrArg some (by kernel_rfl))
  t0 := Tryz.underlying0
  a0 := Tryz.isAgg0
  z0 := Tryz.sizeOf0
  v0 := Tryz.zeroValue0
  t3 := Tryz.underlying3
  a3 := Tryz.isAgg3
  z3 := Tryz.sizeOf3
  v3 := Tryz.zeroValue3
  t4 := Tryz.underlying4
  a4 := Tryz.isAgg4
  z4 := Tryz.sizeOf4
  v4 := Tryz.zeroValue4
  t5 := Tryz.underlying5
  a5 := Tryz.isAgg5
  z5 := Tryz.sizeOf5
  v5 := Tryz.zeroValue5
  t9 := Tryz.underlying9
  a9 := Tryz.isAgg9
  z9 := Tryz.sizeOf9
  v9 := Tryz.zeroValue9
  t31 := Tryz.underlying43
  a31 := Tryz.isAgg43
  z31 := Tryz.sizeOf43
  v31 := Tryz.zeroValue43
  t46 := Tryz.underlying195
  a46 := Tryz.isAgg195
  z46 := Tryz.sizeOf195
  v46 := Tryz.zeroValue195
  t51 := Tryz.underlying202
  a51 := Tryz.isAgg202
  z51 := Tryz.sizeOf202
  v51 := Tryz.zeroValue202
  t53 := Tryz.underlying219
  a53 := Tryz.isAgg219
  z53 := Tryz.sizeOf219
  v53 := Tryz.zeroValue219
  t131 := Tryz.underlying139
  a131 := Tryz.isAgg139
  z131 := Tryz.sizeOf139
  v131 := Tryz.zeroValue139
  t182 := Tryz.underlying211
  a182 := Tryz.isAgg211
  z182 := Tryz.sizeOf211
  v182 := Tryz.zeroValue211
  t183 := Tryz.underlying212
  a183 := Tryz.isAgg212
  z183 := Tryz.sizeOf212
  v183 := Tryz.zeroValue212
  t218 := Tryz.underlying236
  a218 := Tryz.isAgg236
  z218 := Tryz.sizeOf236
  v218 := Tryz.zeroValue236
  t222 := Tryz.underlying240
  a222 := Tryz.isAgg240
  z222 := Tryz.sizeOf240
  v222 := Tryz.zeroValue240
  t228 := Tryz.underlying252
  a228 := Tryz.isAgg252
  z228 := Tryz.sizeOf252
  v228 := Tryz.zeroValue252
  t229 := Tryz.underlying83
  a229 := Tryz.isAgg83
  z229 := Tryz.sizeOf83
  v229 := Tryz.zeroValue83 }
open Go.Sort Go.RowKit in
theorem Tryz.slices_Sort_string (blk off cap : Nat) (ss : List (List UInt8)) (w : World) (hH : Holds encStr w blk off ss.toArray) (hblk : blk < w.heap.size) (hsz : ss.length < 4611686018427387904) :
    Calls Tryz.prog 152 #[.slice (some ⟨blk, off, none⟩) ss.length cap] w fun e w' =>
      e = .returned (.tuple #[]) ∧ ∃ n os, w' = grow (putRow encStr (Sort.ahead w n) blk off (ss.mergeSort fun x y => decide (x ≤ y)).toArray) os := Any.slices_Sort_string Tryz.lays190 blk off cap ss w hH hblk hsz
def Tryz.lays206_ren : Go.Shelf.Ren := ⟨fun | 206 => 178 | n => n, fun | 9 => 9 | 4 => 4 | 3 => 3 | n => n, fun | n => n⟩
theorem Tryz.lays206 : Go.Proofs.Lays.n206 Tryz.prog Tryz.lays206_ren := {
  mixed := by kernel_rfl
  f206 := Tryz.func178.trans (congrArg some (by kernel_rfl))
  t3 := Tryz.underlying3
  a3 := Tryz.isAgg3
  z3 := Tryz.sizeOf3
  v3 := Tryz.zeroValue3
  t4 := Tryz.underlying4
  a4 := Tryz.isAgg4
  z4 := Tryz.sizeOf4
  v4 := Tryz.zeroValue4
  t9 := Tryz.underlying9
  a9 := Tryz.isAgg9
  z9 := Tryz.sizeOf9
  v9 := Tryz.zeroValue9 }
open Go.RowKit Go.Lib in
/-- internal/stringslite.HasPrefix (what strings.HasPrefix calls). (LAID: no walk: one application.) -/
theorem Tryz.stringslite_HasPrefix (s p : ByteArray) (w : World) :
    Calls Tryz.prog 178 #[.string s, .string p] w fun e w' => e = .returned (.bool (Lib.hasPrefix s.data.toList p.data.toList)) ∧ w' = w := Any.stringslite_HasPrefix Tryz.lays206 s p w
open Go.RowKit Go.Lib in
/-- strings.Count at whatever sep that is not empty: the two roads under one statement. (LAID: no walk: one application.) -/
theorem Tryz.strings_Count_any (s sep : ByteArray) (m : Int) (w : World) (hs : s.size < 4294967281) (hm : w.cell? ⟨0, 0, none⟩ = some (.int .i64 m)) (h1 : 1 ≤ sep.size) :
    Calls Tryz.prog 196 #[.string s, .string sep] w fun e w' => e = .returned (.int .i64 (Lib.countB s sep)) ∧ w' = w := Any.strings_Count_any Tryz.lays138 s sep m w hs hm h1
def Tryz.lays221_ren : Go.Shelf.Ren := ⟨fun | 221 => 161 | 268 => 195 | 138 => 196 | 143 => 197 | 195 => 224 | 197 => 180 | 218 => 225 | 219 => 226 | 260 => 212 | 217 => 235 | 225 => 236 | 224 => 237 | 267 => 238 | 266 => 241 | 314 => 242 | n => n, fun | 9 => 9 | 3 => 3 | 31 => 43 | 4 => 4 | 0 => 0 | 105 => 221 | 21 => 21 | 5 => 5 | 46 => 195 | 119 => 254 | 139 => 257 | 138 => 256 | 146 => 264 | 51 => 202 | n => n, fun | 1 => 0 | 3 => 1 | 4 => 2 | n => n⟩
theorem Tryz.lays221 : Go.Proofs.Lays.n221 Tryz.prog Tryz.lays221_ren := {
  mixed := by kernel_rfl
  f138 := Tryz.func196.trans (congrArg some (by kernel_rfl))
  f143 := Tryz.func197.trans (congrArg some (by kernel_rfl))
  f195 := Tryz.func224.trans (congrArg some (by kernel_rfl))
  f197 := Tryz.func180.trans (congrArg some (by kernel_rfl))
  f217 := Tryz.func235.trans (congrArg some (by kernel_rfl))
  f218 := Tryz.func225.trans (congrArg some (by kernel_rfl))
  f219 := Tryz.func226.trans (congrArg some (by kernel_rfl))
  f221 := Tryz.func161.trans (congrArg some (by kernel_rfl))
  f224 := Tryz.func237.trans (congrArg some (by kernel_rfl))
  f225 := Tryz.func236.trans (congrArg some (by kernel_rfl))
  f260 := Tryz.func212.trans (congrArg some (by kernel_rfl))
  f266 := Tryz.func241.trans (congrArg some (by kernel_rfl))
  f267 := Tryz.func238.trans (congrArg some (by kernel_rfl))
  f268 := Tryz.func195.trans (congrArg some (by kernel_rfl))
  f314 := Tryz.func242.trans (congrArg some (by kernel_rfl))
  t0 := Tryz.underlying0
  a0 := Tryz.isAgg0
  z0 := Tryz.sizeOf0
  v0 := Tryz.zeroValue0
  t3 := Tryz.underlying3
  a3 := Tryz.isAgg3
  z3 := Tryz.sizeOf3
  v3 := Tryz.zeroValue3
  t4 := Tryz.underlying4
  a4 := Tryz.isAgg4
  z4 := Tryz.sizeOf4
  v4 := Tryz.zeroValue4
  t5 := Tryz.underlying5
  a5 := Tryz.isAgg5
  z5 := Tryz.sizeOf5
  v5 := Tryz.zeroValue5
  t9 := Tryz.underlying9
  a9 := Tryz.isAgg9
  z9 := Tryz.sizeOf9
  v9 := Tryz.zeroValue9
  t21 := Tryz.underlying21
  a21 := Tryz.isAgg21
  z21 := Tryz.sizeOf21
  v21 := Tryz.zeroValue21
  t31 := Tryz.underlying43
  a31 := Tryz.isAgg43
  z31 := Tryz.sizeOf43
  v31 := Tryz.zeroValue43
  t46 := Tryz.underlying195
  a46 := Tryz.isAgg195
  z46 := Tryz.sizeOf195
  v46 := Tryz.zeroValue195
  t51 := Tryz.underlying202
  a51 := Tryz.isAgg202
  z51 := Tryz.sizeOf202
  v51 := Tryz.zeroValue202
  t105 := Tryz.underlying221
  a105 := Tryz.isAgg221
  z105 := Tryz.sizeOf221
  v105 := Tryz.zeroValue221
  t119 := Tryz.underlying254
  a119 := Tryz.isAgg254
  z119 := Tryz.sizeOf254
  t138 := Tryz.underlying256
  a138 := Tryz.isAgg256
  z138 := Tryz.sizeOf256
  v138 := Tryz.zeroValue256
  t139 := Tryz.underlying257
  a139 := Tryz.isAgg257
  z139 := Tryz.sizeOf257
  v139 := Tryz.zeroValue257
  t146 := Tryz.underlying264
  a146 := Tryz.isAgg264
  z146 := Tryz.sizeOf264
  v146 := Tryz.zeroValue264
  g1 := by kernel_rfl
  g3 := by kernel_rfl
  g4 := by kernel_rfl }
open Go.RowKit Go.Lib in
theorem Tryz.strings_genSplit (s sep : ByteArray) (sv : Nat) (n : Int) (N : Nat) (m : Int) (w : World) (hs : s.size < 4294967281) (hm : w.cell? ⟨0, 0, none⟩ = some (.int .i64 m)) (h1 : 1 ≤ sep.size) (hsv : sv ≤ sep.size) (hn0 : n ≠ 0) (hn63 : n ≤ 9223372036854775807) (hN : (N : Int) = min (if n < 0 then (Lib.countB s sep : Int) + 1 else n) ((s.size : Int) + 1)) :
    Calls Tryz.prog 161 #[.string s, .string sep, .int .i64 sv, .int .i64 n] w fun e w' =>
      e = .returned (.slice (some ⟨w.heap.size, 0, none⟩) (Lib.splitB sep sv (N - 1) s).length N) ∧ w' = w.alloc (.cells (Lib.cellsOf (Lib.splitB sep sv (N - 1) s) N) 9) := Any.strings_genSplit Tryz.lays221 (by kernel_rfl) s sep sv n N m w hs hm h1 hsv hn0 hn63 hN
def Tryz.lays147_ren : Go.Shelf.Ren := ⟨fun | 147 => 135 | 221 => 161 | 268 => 195 | 138 => 196 | 143 => 197 | 195 => 224 | 197 => 180 | 218 => 225 | 219 => 226 | 260 => 212 | 217 => 235 | 225 => 236 | 224 => 237 | 267 => 238 | 266 => 241 | 314 => 242 | n => n, fun | 9 => 9 | 3 => 3 | 31 => 43 | 4 => 4 | 0 => 0 | 105 => 221 | 21 => 21 | 5 => 5 | 46 => 195 | 119 => 254 | 139 => 257 | 138 => 256 | 146 => 264 | 51 => 202 | n => n, fun | 1 => 0 | 3 => 1 | 4 => 2 | n => n⟩
theorem Tryz.lays147 : Go.Proofs.Lays.n147 Tryz.prog Tryz.lays147_ren := {
  mixed := by kernel_rfl
  f138 := Tryz.func196.trans (congrArg some (by kernel_rfl))
  f143 := Tryz.func197.trans (congrArg some (by kernel_rfl))
  f147 := Tryz.func135.trans (congrArg some (by kernel_rfl))
  f195 := Tryz.func224.trans (congrArg some (by kernel_rfl))
  f197 := Tryz.func180.trans (congrArg some (by kernel_rfl))
  f217 := Tryz.func235.trans (congrArg some (by kernel_rfl))
  f218 := Tryz.func225.trans (congrArg some (by kernel_rfl))
  f219 := Tryz.func226.trans (congrArg some (by kernel_rfl))
  f221 := Tryz.func161.trans (congrArg some (by kernel_rfl))
  f224 := Tryz.func237.trans (congrArg some (by kernel_rfl))
  f225 := Tryz.func236.trans (congrArg some (by kernel_rfl))
  f260 := Tryz.func212.trans (congrArg some (by kernel_rfl))
  f266 := Tryz.func241.trans (congrArg some (by kernel_rfl))
  f267 := Tryz.func238.trans (congrArg some (by kernel_rfl))
  f268 := Tryz.func195.trans (congrArg some (by kernel_rfl))
  f314 := Tryz.func242.trans (congrArg some (by kernel_rfl))
  t0 := Tryz.underlying0
  a0 := Tryz.isAgg0
  z0 := Tryz.sizeOf0
  v0 := Tryz.zeroValue0
  t3 := Tryz.underlying3
  a3 := Tryz.isAgg3
  z3 := Tryz.sizeOf3
  v3 := Tryz.zeroValue3
  t4 := Tryz.underlying4
  a4 := Tryz.isAgg4
  z4 := Tryz.sizeOf4
  v4 := Tryz.zeroValue4
  t5 := Tryz.underlying5
  a5 := Tryz.isAgg5
  z5 := Tryz.sizeOf5
  v5 := Tryz.zeroValue5
  t9 := Tryz.underlying9
  a9 := Tryz.isAgg9
  z9 := Tryz.sizeOf9
  v9 := Tryz.zeroValue9
  t21 := Tryz.underlying21
  a21 := Tryz.isAgg21
  z21 := Tryz.sizeOf21
  v21 := Tryz.zeroValue21
  t31 := Tryz.underlying43
  a31 := Tryz.isAgg43
  z31 := Tryz.sizeOf43
  v31 := Tryz.zeroValue43
  t46 := Tryz.underlying195
  a46 := Tryz.isAgg195
  z46 := Tryz.sizeOf195
  v46 := Tryz.zeroValue195
  t51 := Tryz.underlying202
  a51 := Tryz.isAgg202
  z51 := Tryz.sizeOf202
  v51 := Tryz.zeroValue202
  t105 := Tryz.underlying221
  a105 := Tryz.isAgg221
  z105 := Tryz.sizeOf221
  v105 := Tryz.zeroValue221
  t119 := Tryz.underlying254
  a119 := Tryz.isAgg254
  z119 := Tryz.sizeOf254
  t138 := Tryz.underlying256
  a138 := Tryz.isAgg256
  z138 := Tryz.sizeOf256
  v138 := Tryz.zeroValue256
  t139 := Tryz.underlying257
  a139 := Tryz.isAgg257
  z139 := Tryz.sizeOf257
  v139 := Tryz.zeroValue257
  t146 := Tryz.underlying264
  a146 := Tryz.isAgg264
  z146 := Tryz.sizeOf264
  v146 := Tryz.zeroValue264
  g1 := by kernel_rfl
  g3 := by kernel_rfl
  g4 := by kernel_rfl }
open Go.RowKit Go.Lib in
/-- strings.SplitN, n > 0. (LAID: no walk: one application.) -/
theorem Tryz.strings_SplitN (s sep : ByteArray) (n : Nat) (m : Int) (w : World) (hs : s.size < 4294967281) (hm : w.cell? ⟨0, 0, none⟩ = some (.int .i64 m)) (h1 : 1 ≤ sep.size) (hn : 1 ≤ n) (hn63 : n ≤ 9223372036854775807) :
    Calls Tryz.prog 135 #[.string s, .string sep, .int .i64 n] w fun e w' =>
      e = .returned (.slice (some ⟨w.heap.size, 0, none⟩) (Lib.splitB sep 0 (min n (s.size + 1) - 1) s).length (min n (s.size + 1))) ∧ w' = w.alloc (.cells (Lib.cellsOf (Lib.splitB sep 0 (min n (s.size + 1) - 1) s) (min n (s.size + 1))) 9) := Any.strings_SplitN Tryz.lays147 (by kernel_rfl) s sep n m w hs hm h1 hn hn63
def Tryz.lays260_ren : Go.Shelf.Ren := ⟨fun | 260 => 212 | n => n, fun | 9 => 9 | 21 => 21 | 3 => 3 | 4 => 4 | 5 => 5 | 119 => 254 | 0 => 0 | 46 => 195 | 139 => 257 | 138 => 256 | n => n, fun | 3 => 1 | 4 => 2 | n => n⟩
theorem Tryz.lays260 : Go.Proofs.Lays.n260 Tryz.prog Tryz.lays260_ren := {
  mixed := by kernel_rfl
  f260 := Tryz.func212.trans (congrArg some (by kernel_rfl))
  t0 := Tryz.underlying0
  a0 := Tryz.isAgg0
  z0 := Tryz.sizeOf0
  v0 := Tryz.zeroValue0
  t3 := Tryz.underlying3
  a3 := Tryz.isAgg3
  z3 := Tryz.sizeOf3
  v3 := Tryz.zeroValue3
  t4 := Tryz.underlying4
  a4 := Tryz.isAgg4
  z4 := Tryz.sizeOf4
  v4 := Tryz.zeroValue4
  t5 := Tryz.underlying5
  a5 := Tryz.isAgg5
  z5 := Tryz.sizeOf5
  v5 := Tryz.zeroValue5
  t9 := Tryz.underlying9
  a9 := Tryz.isAgg9
  z9 := Tryz.sizeOf9
  v9 := Tryz.zeroValue9
  t21 := Tryz.underlying21
  a21 := Tryz.isAgg21
  z21 := Tryz.sizeOf21
  v21 := Tryz.zeroValue21
  t46 := Tryz.underlying195
  a46 := Tryz.isAgg195
  z46 := Tryz.sizeOf195
  v46 := Tryz.zeroValue195
  t119 := Tryz.underlying254
  a119 := Tryz.isAgg254
  z119 := Tryz.sizeOf254
  t138 := Tryz.underlying256
  a138 := Tryz.isAgg256
  z138 := Tryz.sizeOf256
  v138 := Tryz.zeroValue256
  t139 := Tryz.underlying257
  a139 := Tryz.isAgg257
  z139 := Tryz.sizeOf257
  v139 := Tryz.zeroValue257
  g3 := by kernel_rfl
  g4 := by kernel_rfl }
open Go.RowKit Go.Lib in
theorem Tryz.utf8_decodeRuneInStringSlow (s : ByteArray) (w : World) (hT : Lib.Utf8Tabs 1 2 w) :
    Calls Tryz.prog 212 #[.string s] w fun e w' => e = .returned (.tuple #[.int .i32 (Lib.decodeGo s).1, .int .i64 (Lib.decodeGo s).2]) ∧ Below w.heap.size w w' := Any.utf8_decodeRuneInStringSlow Tryz.lays260 s w hT
def Tryz.lays197_ren : Go.Shelf.Ren := ⟨fun | 197 => 180 | 260 => 212 | n => n, fun | 9 => 9 | 21 => 21 | 3 => 3 | 4 => 4 | 5 => 5 | 105 => 221 | 119 => 254 | 0 => 0 | 46 => 195 | 139 => 257 | 138 => 256 | n => n, fun | 3 => 1 | 4 => 2 | n => n⟩
theorem Tryz.lays197 : Go.Proofs.Lays.n197 Tryz.prog Tryz.lays197_ren := {
  mixed := by kernel_rfl
  f197 := Tryz.func180.trans (congrArg some (by kernel_rfl))
  f260 := Tryz.func212.trans (congrArg some (by kernel_rfl))
  t0 := Tryz.underlying0
  a0 := Tryz.isAgg0
  z0 := Tryz.sizeOf0
  v0 := Tryz.zeroValue0
  t3 := Tryz.underlying3
  a3 := Tryz.isAgg3
  z3 := Tryz.sizeOf3
  v3 := Tryz.zeroValue3
  t4 := Tryz.underlying4
  a4 := Tryz.isAgg4
  z4 := Tryz.sizeOf4
  v4 := Tryz.zeroValue4
  t5 := Tryz.underlying5
  a5 := Tryz.isAgg5
  z5 := Tryz.sizeOf5
  v5 := Tryz.zeroValue5
  t9 := Tryz.underlying9
  a9 := Tryz.isAgg9
  z9 := Tryz.sizeOf9
  v9 := Tryz.zeroValue9
  t21 := Tryz.underlying21
  a21 := Tryz.isAgg21
  z21 := Tryz.sizeOf21
  v21 := Tryz.zeroValue21
  t46 := Tryz.underlying195
  a46 := Tryz.isAgg195
  z46 := Tryz.sizeOf195
  v46 := Tryz.zeroValue195
  t105 := Tryz.underlying221
  a105 := Tryz.isAgg221
  z105 := Tryz.sizeOf221
  v105 := Tryz.zeroValue221
  t119 := Tryz.underlying254
  a119 := Tryz.isAgg254
  z119 := Tryz.sizeOf254
  t138 := Tryz.underlying256
  a138 := Tryz.isAgg256
  z138 := Tryz.sizeOf256
  v138 := Tryz.zeroValue256
  t139 := Tryz.underlying257
  a139 := Tryz.isAgg257
  z139 := Tryz.sizeOf257
  v139 := Tryz.zeroValue257
  g3 := by kernel_rfl
  g4 := by kernel_rfl }
open Go.RowKit Go.Lib in
/-- **unicode/utf8.DecodeRuneInString AT EVERY STRING.** (LAID: no walk: one application.) -/
theorem Tryz.utf8_DecodeRuneInString (s : ByteArray) (w : World) (hT : Lib.Utf8Tabs 1 2 w) :
    Calls Tryz.prog 180 #[.string s] w fun e w' => e = .returned (.tuple #[.int .i32 (Lib.decodeGo s).1, .int .i64 (Lib.decodeGo s).2]) ∧ Below w.heap.size w w' := Any.utf8_DecodeRuneInString Tryz.lays197 s w hT
def Tryz.lays109_ren : Go.Shelf.Ren := ⟨fun | 109 => 159 | n => n, fun | 31 => 43 | 9 => 9 | 3 => 3 | 0 => 0 | 4 => 4 | n => n, fun | n => n⟩
theorem Tryz.lays109 : Go.Proofs.Lays.n109 Tryz.prog Tryz.lays109_ren := {
  mixed := by kernel_rfl
  f109 := Tryz.func159.trans (congrArg some (by kernel_rfl))
  t0 := Tryz.underlying0
  a0 := Tryz.isAgg0
  z0 := Tryz.sizeOf0
  v0 := Tryz.zeroValue0
  t3 := Tryz.underlying3
  a3 := Tryz.isAgg3
  z3 := Tryz.sizeOf3
  v3 := Tryz.zeroValue3
  t4 := Tryz.underlying4
  a4 := Tryz.isAgg4
  z4 := Tryz.sizeOf4
  v4 := Tryz.zeroValue4
  t9 := Tryz.underlying9
  a9 := Tryz.isAgg9
  z9 := Tryz.sizeOf9
  v9 := Tryz.zeroValue9
  t31 := Tryz.underlying43
  a31 := Tryz.isAgg43
  z31 := Tryz.sizeOf43
  v31 := Tryz.zeroValue43 }
open Go.Lib in
/-- slices.Index at []string: "Index returns the index of the first occurrence of v in s, or -1 if not present.": IT RETURNS 'Lib.idxOfS (the elements) v'; the world is as it was. 'zs': what the cells behind the slice's address hold (its spare capacity too, if you have it); 'zs.take n': its elements. (LAID: no walk: one application.) -/
theorem Tryz.slices_Index_string (b off n c : Nat) (zs : List ByteArray) (x : ByteArray) (w : World) (hz : n ≤ zs.length) (hbig : n ≤ 9223372036854775807) (hc : ∀ j, j < zs.length → w.cell? ⟨b, off + j, none⟩ = some (.string (zs.getD j ByteArray.empty))) :
    Calls Tryz.prog 159 #[.slice (some ⟨b, off, none⟩) n c, .string x] w fun e w' => e = .returned (.int .i64 (Lib.idxOfS (zs.take n) x)) ∧ w' = w := Any.slices_Index_string Tryz.lays109 b off n c zs x w hz hbig hc
open Go.Lib in
/-- The same at a slice of length 0, a nil one too: no cell is known, none is asked for. (LAID: no walk: one application.) -/
theorem Tryz.slices_Index_string_empty (a : Option Addr) (c : Nat) (x : ByteArray) (w : World) :
    Calls Tryz.prog 159 #[.slice a 0 c, .string x] w fun e w' => e = .returned (.int .i64 (Lib.idxOfS [] x)) ∧ w' = w := Any.slices_Index_string_empty Tryz.lays109 a c x w
def Tryz.lays113_ren : Go.Shelf.Ren := ⟨fun | 113 => 95 | n => n, fun | 28 => 56 | 3 => 3 | 4 => 4 | 9 => 9 | 20 => 20 | 0 => 0 | n => n, fun | n => n⟩
theorem Tryz.lays113 : Go.Proofs.Lays.n113 Tryz.prog Tryz.lays113_ren := {
  mixed := by kernel_rfl
  f113 := Tryz.func95.trans (congrArg some (by kernel_rfl))
  t0 := Tryz.underlying0
  a0 := Tryz.isAgg0
  z0 := Tryz.sizeOf0
  v0 := Tryz.zeroValue0
  t3 := Tryz.underlying3
  a3 := Tryz.isAgg3
  z3 := Tryz.sizeOf3
  v3 := Tryz.zeroValue3
  t4 := Tryz.underlying4
  a4 := Tryz.isAgg4
  z4 := Tryz.sizeOf4
  v4 := Tryz.zeroValue4
  t9 := Tryz.underlying9
  a9 := Tryz.isAgg9
  z9 := Tryz.sizeOf9
  v9 := Tryz.zeroValue9
  t20 := Tryz.underlying20
  a20 := Tryz.isAgg20
  z20 := Tryz.sizeOf20
  v20 := Tryz.zeroValue20
  t28 := Tryz.underlying56
  a28 := Tryz.isAgg56
  z28 := Tryz.sizeOf56
  v28 := Tryz.zeroValue56 }
open Go.Lib in
/-- slices.Max at []int: "Max returns the maximal value in x. It panics if x is empty.": OF A SLICE THAT IS NOT EMPTY IT RETURNS 'Lib.maxOf (the elements)'; the world is as it was. (Of an empty one it panics: no contract here.) (LAID: no walk: one application.) -/
theorem Tryz.slices_Max_int (b off n c : Nat) (zs : List Int) (w : World) (hn : 0 < n) (hz : n ≤ zs.length) (hbig : n ≤ 9223372036854775807) (hc : ∀ j, j < zs.length → w.cell? ⟨b, off + j, none⟩ = some (.int .i64 (zs.getD j 0))) :
    Calls Tryz.prog 95 #[.slice (some ⟨b, off, none⟩) n c] w fun e w' => e = .returned (.int .i64 (Lib.maxOf (zs.take n))) ∧ w' = w := Any.slices_Max_int Tryz.lays113 b off n c zs w hn hz hbig hc
open Go.RowKit Go.Sort in
/-- .. and plain. (LAID: no walk: one application.) -/
theorem Tryz.slices_Sort_string_none (p : Option Addr) (cap : Nat) (w : World) :
    Calls Tryz.prog 152 #[.slice p 0 cap] w fun e w' => e = .returned (.tuple #[]) ∧ w' = w := Any.slices_Sort_string_none Tryz.lays190 p cap w
end Go.Proofs
