/-
  Rows of texts and of numbers as plain data. What a copy leaves. Rows are held against each other. No statement of the seat is proved here.
-/
import Derived.Test.YthopmdfichfhdaaGreatDoorRows
import Derived.WalkKit
import Derived.ProofKit
import Derived.OpenShut
import Derived.WalkSpells
import Derived.Below
import Derived.BigQuiet
import Derived.BigRegion
import Derived.Laws.MakeOwn
import Derived.Lib.OthersKept
import Derived.Deep.RegionLaw
import Derived.Deep.WholeRow
import Derived.Deep.QuietTactic
namespace Go.Proofs.YthopmdfichfhdaaGreatDoor
open Go.ChangeShapes Go.WideShapes Go.ChangeAt Go.RowKit
set_option linter.unusedVariables false
set_option linter.unusedSimpArgs false

/-- The block g holds just these cells. -/
def Blk (w : World) (g : Nat) (ty : TypeId) (cs : Array Value) : Prop := w.heap[g]? = some (.cells cs ty (0, 0))
theorem Blk.lt {w : World} {g : Nat} {ty : TypeId} {cs : Array Value} (h : Blk w g ty cs) : g < w.heap.size := (Array.getElem?_eq_some_iff.1 h).1
theorem Blk.cell {w : World} {g : Nat} {ty : TypeId} {cs : Array Value} (h : Blk w g ty cs) (i : Nat) : w.cell? ⟨g, i, none⟩ = cs[i]? := by
  simp only [World.cell?]; rw [show w.heap[g]? = _ from h]; rfl
theorem Blk.fro {w : World} {g : Nat} {ty : TypeId} {cs : Array Value} (h : Blk w g ty cs) (i : Nat) : w.frozen? ⟨g, i, none⟩ = false := by
  simp only [World.frozen?]; rw [show w.heap[g]? = _ from h]; simp
theorem Blk.set {w : World} {g : Nat} {ty : TypeId} {cs : Array Value} (h : Blk w g ty cs) (i : Nat) (v : Value) : Blk (w.setCell ⟨g, i, none⟩ v) g ty (cs.setIfInBounds i v) := by
  unfold Blk at *
  simp only [World.setCell, Array.getElem?_modify, if_true, h]
  rfl
theorem Blk.below {w w' : World} {g : Nat} {ty : TypeId} {cs : Array Value} (h : Blk w g ty cs) (hb : Below w.heap.size w w') : Blk w' g ty cs := by
  unfold Blk at *; rw [hb.block g (Blk.lt h)]; exact h
theorem Blk.other {w : World} {g g' : Nat} {ty : TypeId} {cs : Array Value} (h : Blk w g ty cs) (hne : g ≠ g') (i : Nat) (v : Value) : Blk (w.setCell ⟨g', i, none⟩ v) g ty cs := by
  unfold Blk at *
  rw [Below.heap_setCell _ _ _ _ hne]; exact h
theorem good_below {w W W' : World} (h : Below w.heap.size w W) (hb : Below W.heap.size W W') : Below w.heap.size w W' := h.trans (hb.mono h.size)
theorem cells_below {S : Nat → Prop} {w w' : World} (hS : ∀ b, S b → b < w.heap.size) (hb : Below w.heap.size w w') : ∀ b i, S b → w'.cell? ⟨b, i, none⟩ = w.cell? ⟨b, i, none⟩ := fun b i h => hb.cell (hS b h)

theorem bel_drewN {B : Nat} {w0 w : World} (h : Below B w0 w) (n : Nat) : Below B w0 (w.drewN n) := by
  exact ⟨h.os, h.tape, h.output, h.size, h.block⟩
/-- The slice v reads in w, out of blocks of S, as these. -/
def TxtsAt (S : Nat → Prop) (w : World) (v : Value) (l : List ByteArray) : Prop := l.length ≤ maxLen ∧ ∃ a cap, v = .slice a l.length cap ∧ (0 < l.length → ∃ b off, a = some ⟨b, off, none⟩ ∧ S b ∧
  ∀ i (h : i < l.length), w.cell? ⟨b, off + i, none⟩ = some (.string l[i]))
theorem TxtsAt.keep {S : Nat → Prop} {w w' : World} {v : Value} {l : List ByteArray} (h : TxtsAt S w v l) (hk : ∀ b i, S b → w'.cell? ⟨b, i, none⟩ = w.cell? ⟨b, i, none⟩) : TxtsAt S w' v l := by
  obtain ⟨hl, a, cap, hv, h⟩ := h
  refine ⟨hl, a, cap, hv, fun h0 => ?_⟩
  obtain ⟨b, off, ha, hbB, hc⟩ := h h0
  refine ⟨b, off, ha, hbB, fun i hi => ?_⟩
  have c0 := hc i hi
  exact (hk _ _ hbB).trans c0
theorem TxtsAt.mono {S S' : Nat → Prop} {w : World} {v : Value} {l : List ByteArray} (h : TxtsAt S w v l) (hS : ∀ b, S b → S' b) : TxtsAt S' w v l := by
  obtain ⟨hl, a, cap, hv, h⟩ := h
  refine ⟨hl, a, cap, hv, fun h0 => ?_⟩
  obtain ⟨b, off, ha, hbB, hc⟩ := h h0
  refine ⟨b, off, ha, hS b hbB, fun i hi => ?_⟩
  have c0 := hc i hi
  exact c0
theorem TxtsAt.shape {S : Nat → Prop} {w : World} {v : Value} {l : List ByteArray} (h : TxtsAt S w v l) : ∃ a c, v = .slice a l.length c := by
  obtain ⟨_, a, c, hv, _⟩ := h
  exact ⟨a, c, hv⟩
/-- The slice v reads in w, out of blocks of S, as these. -/
def NumsAt (S : Nat → Prop) (w : World) (v : Value) (l : List Int) : Prop := l.length ≤ maxLen ∧ ∃ a cap, v = .slice a l.length cap ∧ (0 < l.length → ∃ b off, a = some ⟨b, off, none⟩ ∧ S b ∧
  ∀ i (h : i < l.length), w.cell? ⟨b, off + i, none⟩ = some (.int .i64 l[i]))
theorem NumsAt.keep {S : Nat → Prop} {w w' : World} {v : Value} {l : List Int} (h : NumsAt S w v l) (hk : ∀ b i, S b → w'.cell? ⟨b, i, none⟩ = w.cell? ⟨b, i, none⟩) : NumsAt S w' v l := by
  obtain ⟨hl, a, cap, hv, h⟩ := h
  refine ⟨hl, a, cap, hv, fun h0 => ?_⟩
  obtain ⟨b, off, ha, hbB, hc⟩ := h h0
  refine ⟨b, off, ha, hbB, fun i hi => ?_⟩
  have c0 := hc i hi
  exact (hk _ _ hbB).trans c0
theorem NumsAt.mono {S S' : Nat → Prop} {w : World} {v : Value} {l : List Int} (h : NumsAt S w v l) (hS : ∀ b, S b → S' b) : NumsAt S' w v l := by
  obtain ⟨hl, a, cap, hv, h⟩ := h
  refine ⟨hl, a, cap, hv, fun h0 => ?_⟩
  obtain ⟨b, off, ha, hbB, hc⟩ := h h0
  refine ⟨b, off, ha, hS b hbB, fun i hi => ?_⟩
  have c0 := hc i hi
  exact c0
theorem NumsAt.shape {S : Nat → Prop} {w : World} {v : Value} {l : List Int} (h : NumsAt S w v l) : ∃ a c, v = .slice a l.length c := by
  obtain ⟨_, a, c, hv, _⟩ := h
  exact ⟨a, c, hv⟩
end Go.Proofs.YthopmdfichfhdaaGreatDoor

namespace Go.Proofs.YthopmdfichfhdaaGreatDoor
open Go.ChangeShapes Go.WideShapes Go.ChangeAt Go.RowKit
set_option linter.unusedVariables false
set_option linter.unusedSimpArgs false

theorem last3 (w : World) (o p q : Obj) : (((w.alloc o).alloc p).alloc q).heap[w.heap.size + 1]? = some p := by
  have h1 : ((w.alloc o).alloc p).heap[w.heap.size + 1]? = some p := by
    have := heap_alloc_last (w.alloc o) p
    rwa [World.size_alloc] at this
  have h2 : w.heap.size + 1 < ((w.alloc o).alloc p).heap.size := by simp only [World.size_alloc]; omega
  have := ((Below.refl _ ((w.alloc o).alloc p)).alloc (Nat.le_refl _) q).block (w.heap.size + 1) h2
  rw [this]; exact h1
theorem last3' (w : World) (o p q : Obj) : (((w.alloc o).alloc p).alloc q).heap[w.heap.size + 1 + 1]? = some q := by
  have := heap_alloc_last ((w.alloc o).alloc p) q
  simpa only [World.size_alloc] using this
theorem bel3 (w : World) (o p q : Obj) : Below w.heap.size w (((w.alloc o).alloc p).alloc q) :=
  (((Below.refl _ w).alloc (Nat.le_refl _) _).alloc (by simp only [World.size_alloc]; omega) _).alloc (by simp only [World.size_alloc]; omega) _
theorem makeN (z : Nat) (t e : TypeId) (bytes n : Nat) (ht : Tryz.prog.underlying t = some (.slice e)) (hinfo : ((Tryz.prog.info? e).bind fun i => i.zero.map fun _ => (i.size, i.bytes)) = some (z, bytes)) (hb : bytes * n ≤ 281474976710656) (hn : n ≤ 9223372036854775807) (W : World) :
    ∃ cur : Array Value, cur.size = n * z ∧ (Instr.makeSlice t (.int .i64 (n : Int)) (.int .i64 (n : Int))).run Tryz.prog W = .ok (.slice (some ⟨W.heap.size, 0, none⟩) n n) (W.alloc (.cells cur e)) := by
  cases hi : Tryz.prog.info? e with
  | none => rw [hi] at hinfo; simp at hinfo
  | some i =>
    rw [hi] at hinfo
    simp only [Option.bind_some] at hinfo
    cases hz : i.zero with
    | none => rw [hz] at hinfo; simp at hinfo
    | some zv =>
      rw [hz] at hinfo
      simp only [Option.map_some, Option.some.injEq, Prod.mk.injEq] at hinfo
      obtain ⟨h3, hby⟩ := hinfo
      have hbn : (i.bytes : Int) * (n : Int) ≤ 281474976710656 := by
        rw [hby]
        have h : ((bytes * n : Nat) : Int) ≤ 281474976710656 := by omega
        rwa [Int.natCast_mul] at h
      have hr := run_make (P := Tryz.prog) W t e i zv ht hi hz .i64 .i64 (n : Int) (n : Int) (by omega) (by omega) hbn (by omega)
      simp only [Int.toNat_natCast] at hr
      exact ⟨_, by rw [size_madeCells, h3], hr⟩
end Go.Proofs.YthopmdfichfhdaaGreatDoor

namespace Go.Proofs.YthopmdfichfhdaaGreatDoor
open Go.ChangeShapes Go.WideShapes Go.ChangeAt Go.RowKit
set_option linter.unusedVariables false
set_option linter.unusedSimpArgs false

/-- A world of a kind. -/
structure GoodW (good : World → Prop) where
  W : World
  ok : good W

theorem wp_region_calm {P : Program} (good : World → Prop) {id : Nat} {Q : Exit → Act → World → Prop} {a : Act} {w : World} {l : List Oper} (hm : P.follows .mixedOrders = true) (hB : Region.lexB .any l.toArray = true) (h0 : good w.drew)
    (h : wpQuiet P l.toArray (fun w' => ∃ n : GoodW good, w' = n.W) (fun a' => ∀ w', (∃ n : GoodW good, w' = n.W) → Q .normal a' w') l a) : (Code.region id l.toArray true).wp P Q a w :=
  wp_region_quiet (C := fun w' => ∃ n : GoodW good, w' = n.W) hm hB ⟨⟨_, h0⟩, rfl⟩ (by simpa using h)

theorem Calls.calm {P : Program} {f : FuncId} {args : Array Value} {good : World → Prop} (n : GoodW good) {v : Value} (hg : ∀ w', Below n.W.heap.size n.W w' → good w')
    (h : Calls P f args n.W fun e w' => e = .returned v ∧ Below n.W.heap.size n.W w') : Calls P f args n.W fun e w'' => e = .returned v ∧ ∃ m : GoodW good, w'' = m.W :=
  h.mono fun _ w' ⟨he, hb⟩ => ⟨he, ⟨w', hg w' hb⟩, rfl⟩
theorem Calls.calm_same {P : Program} {f : FuncId} {args : Array Value} {good : World → Prop} (n : GoodW good) {v : Value}
    (h : Calls P f args n.W fun e w' => e = .returned v ∧ n.W = w') : Calls P f args n.W fun e w'' => e = .returned v ∧ ∃ m : GoodW good, w'' = m.W :=
  h.mono fun _ w' ⟨he, hb⟩ => ⟨he, n, hb.symm⟩
theorem two1 (w : World) (o p : Obj) : ((w.alloc o).alloc p).heap[w.heap.size]? = some o := by
  have h1 := heap_alloc_last w o
  have := ((Below.refl _ (w.alloc o)).alloc (Nat.le_refl _) p).block w.heap.size (by simp)
  rw [this]; exact h1
theorem two2 (w : World) (o p : Obj) : ((w.alloc o).alloc p).heap[w.heap.size + 1]? = some p := by
  have := heap_alloc_last (w.alloc o) p
  simpa only [World.size_alloc] using this
set_option maxRecDepth 100000 in
set_option maxHeartbeats 400000 in
theorem eqIntS {S1 S2 : Nat → Prop} {v1 v2 : Value} {l : List Int} {w : World} (hS1 : ∀ b, S1 b → b < w.heap.size) (hS2 : ∀ b, S2 b → b < w.heap.size) (h1 : NumsAt S1 w v1 l) (h2 : NumsAt S2 w v2 l) :
    Calls Tryz.prog 19 #[v1, v2] w fun e w' => e = .returned (.bool true) ∧ Below w.heap.size w w' := by
  obtain ⟨hlm, a1, c1, rfl, q1⟩ := h1
  obtain ⟨_, a2, c2, rfl, q2⟩ := h2
  have Q1 : Hid _ := q1
  have Q2 : Hid _ := q2
  have hlm' : (l.length : Int) ≤ 9223372036854775807 := by simp [maxLen] at hlm; omega
  clear q1 q2 hlm
  go_enter Tryz.func19, Tryz.ntmps19
  go_wp2
  go_loopw [5] (fun i5 wr => ∃ k : Nat, i5 = .int .i64 (k : Int) ∧ k ≤ l.length ∧ Below w.heap.size w wr) (fun i5 _ => l.length - (intOf i5).toNat)
  case atStart => exact ⟨0, rfl, by omega, Below.refl _ _⟩
  case round =>
    obtain ⟨k, rfl, hk, hB⟩ := hrel
    by_cases hkn : k < l.length
    · have hkn' : (k : Int) < (l.length : Int) := by omega
      obtain ⟨b1, o1, rfl, hb1, hc1⟩ := Q1.out (by omega)
      obtain ⟨b2, o2, rfl, hb2, hc2⟩ := Q2.out (by omega)
      have x_0 := hc1 k hkn
      have y_0 := hc2 k hkn
      obtain ⟨x, hx⟩ : ∃ x, l[k] = x := ⟨_, rfl⟩
      rw [hx] at x_0 y_0
      clear hx hc1 hc2
      have p0 := fun N : GoodW (fun W => Below w.heap.size w W) => (N.ok.cell (p := ⟨b1, o1 + k, none⟩) (hS1 _ hb1)).trans x_0
      have r0 := fun N : GoodW (fun W => Below w.heap.size w W) => (N.ok.cell (p := ⟨b2, o2 + k, none⟩) (hS2 _ hb2)).trans y_0
      clear x_0 y_0
      go_wp2_with fail
      haveI ne : Nonempty (GoodW (fun W => Below w.heap.size w W)) := ⟨⟨_, hB⟩⟩
      refine wp_region_calm (fun W => Below w.heap.size w W) (by kernel_rfl) (by kernel_rfl) hB.drew ?_
      repeat (go_big_quiet_step ((fail)))
      refine wpQuiet_nil ?_
      rintro _ ⟨⟨W2, hW2⟩, rfl⟩
      go_wp2_with fail
      go_roundw
      case rel => exact ⟨k + 1, by go_num, by omega, hW2⟩
      case measure => simp [intOf]; omega
    · have hkn' : ¬ ((k : Int) < (l.length : Int)) := by omega
      go_wp2_with fail
      go_ret
      exact ⟨rfl, hB⟩
end Go.Proofs.YthopmdfichfhdaaGreatDoor
