/-
  Stores as plain data; how large they are. Stores are copied. A region that draws its order and only reads, with calls that make memory of their own: one walk, over all worlds of a kind. Stores are held against each other. Tools for the seat's other texts: a slice literal and an array literal of strings, every place written, as one step of a walk. The contracts of spec.l00Has, spec.l01Reserved and impl.isReserved: each tells whether a text is one of some words. What spec asks of needs and stores. What spec asks of stores. Stores that came in are opened. The law on StoreOK: its walk, over what impl.StoreOK answers. Tools: rows of bytes that a call owns: append, the conversions from and to a string, as steps of a walk. Rows of texts are held against each other, marked, and held again. Rows of picks are held against each other, marked, and held again. Stores that were copied are marked: which blocks are touched. The law on Choose: its walk, over what spec.Choose and impl.Choose answer. What a need reaches, and whether a pick is above a need: spec's own. No statement of the seat is proved here.
-/
import Derived.Test.YteokcdobapkkhaaGreatDoorRows
import Derived.WalkKit
import Derived.ProofKit
import Derived.OpenShut
import Derived.WalkSpells
import Derived.Below
import Derived.BigQuiet
import Derived.BigRegion
import Derived.Laws.MakeOwn
import Derived.Lib.OthersKept
import Derived.Deep.RegionLaw
import Derived.Deep.WholeRow
import Derived.Deep.QuietTactic
import Derived.Great.BuildSlice
import Derived.Deep.SlicePairs
import Derived.Deep.Cut
import Derived.Deep.CutRange
import Derived.Lib.ConvBytes
import Derived.Laws.IdiomStrings
import Derived.Laws.BytesArg
namespace Go.Proofs.YteokcdobapkkhaaGreatDoor
open Go.ChangeShapes Go.WideShapes Go.ChangeAt Go.RowKit
set_option linter.unusedVariables false

/-- The block g holds just these cells. -/
def Blk (w : World) (g : Nat) (ty : TypeId) (cs : Array Value) : Prop := w.heap[g]? = some (.cells cs ty (0, 0))
theorem Blk.lt {w : World} {g : Nat} {ty : TypeId} {cs : Array Value} (h : Blk w g ty cs) : g < w.heap.size := (Array.getElem?_eq_some_iff.1 h).1
theorem Blk.cell {w : World} {g : Nat} {ty : TypeId} {cs : Array Value} (h : Blk w g ty cs) (i : Nat) : w.cell? ⟨g, i, none⟩ = cs[i]? := by
  simp only [World.cell?]; rw [show w.heap[g]? = _ from h]; rfl
theorem Blk.fro {w : World} {g : Nat} {ty : TypeId} {cs : Array Value} (h : Blk w g ty cs) (i : Nat) : w.frozen? ⟨g, i, none⟩ = false := by
  simp only [World.frozen?]; rw [show w.heap[g]? = _ from h]; simp
theorem Blk.set {w : World} {g : Nat} {ty : TypeId} {cs : Array Value} (h : Blk w g ty cs) (i : Nat) (v : Value) : Blk (w.setCell ⟨g, i, none⟩ v) g ty (cs.setIfInBounds i v) := by
  unfold Blk at *
  simp only [World.setCell, Array.getElem?_modify, if_true, h]
  rfl
theorem Blk.below {w w' : World} {g : Nat} {ty : TypeId} {cs : Array Value} (h : Blk w g ty cs) (hb : Below w.heap.size w w') : Blk w' g ty cs := by
  unfold Blk at *; rw [hb.block g (Blk.lt h)]; exact h
theorem good_below {w W W' : World} (h : Below w.heap.size w W) (hb : Below W.heap.size W W') : Below w.heap.size w W' := h.trans (hb.mono h.size)

/-- A need, and a release, as plain data. -/
structure Imp where
  name : ByteArray
  mn : Int
  mx : Int
structure Rel where
  name : ByteArray
  ver : Int
  needs : List Imp

/-- The slice v reads in w, out of blocks of S, as the needs l. -/
def ImpsAt (S : Nat → Prop) (w : World) (v : Value) (l : List Imp) : Prop := l.length ≤ maxLen ∧ ∃ a cap, v = .slice a l.length cap ∧ (0 < l.length → ∃ b off, a = some ⟨b, off, none⟩ ∧ S b ∧
  ∀ i (h : i < l.length), w.cell? ⟨b, off + i * 3, none⟩ = some (.string l[i].name) ∧ w.cell? ⟨b, off + i * 3 + 1, none⟩ = some (.int .i64 l[i].mn) ∧ w.cell? ⟨b, off + i * 3 + 2, none⟩ = some (.int .i64 l[i].mx))
theorem ImpsAt.keep {S : Nat → Prop} {w w' : World} {v : Value} {l : List Imp} (h : ImpsAt S w v l) (hk : ∀ b i, S b → w'.cell? ⟨b, i, none⟩ = w.cell? ⟨b, i, none⟩) : ImpsAt S w' v l := by
  obtain ⟨hl, a, cap, hv, h⟩ := h
  refine ⟨hl, a, cap, hv, fun h0 => ?_⟩
  obtain ⟨b, off, ha, hbB, hc⟩ := h h0
  refine ⟨b, off, ha, hbB, fun i hi => ?_⟩
  obtain ⟨c1, c2, c3⟩ := hc i hi
  exact ⟨(hk _ _ hbB).trans c1, (hk _ _ hbB).trans c2, (hk _ _ hbB).trans c3⟩
theorem ImpsAt.mono {S S' : Nat → Prop} {w : World} {v : Value} {l : List Imp} (h : ImpsAt S w v l) (hS : ∀ b, S b → S' b) : ImpsAt S' w v l := by
  obtain ⟨hl, a, cap, hv, h⟩ := h
  refine ⟨hl, a, cap, hv, fun h0 => ?_⟩
  obtain ⟨b, off, ha, hbB, hc⟩ := h h0
  exact ⟨b, off, ha, hS b hbB, hc⟩
theorem cells_below {S : Nat → Prop} {w w' : World} (hS : ∀ b, S b → b < w.heap.size) (hb : Below w.heap.size w w') : ∀ b i, S b → w'.cell? ⟨b, i, none⟩ = w.cell? ⟨b, i, none⟩ := fun b i h => hb.cell (hS b h)
/-- The slice v reads in w, out of blocks of S, as the releases l. -/
def RelsAt (S : Nat → Prop) (w : World) (v : Value) (l : List Rel) : Prop := l.length ≤ maxLen ∧ ∃ a cap, v = .slice a l.length cap ∧ (0 < l.length → ∃ b off, a = some ⟨b, off, none⟩ ∧ S b ∧
  ∀ i (h : i < l.length), w.cell? ⟨b, off + i * 3, none⟩ = some (.string l[i].name) ∧ w.cell? ⟨b, off + i * 3 + 1, none⟩ = some (.int .i64 l[i].ver) ∧ ∃ nv, w.cell? ⟨b, off + i * 3 + 2, none⟩ = some nv ∧ ImpsAt S w nv l[i].needs)
theorem RelsAt.keep {S : Nat → Prop} {w w' : World} {v : Value} {l : List Rel} (h : RelsAt S w v l) (hk : ∀ b i, S b → w'.cell? ⟨b, i, none⟩ = w.cell? ⟨b, i, none⟩) : RelsAt S w' v l := by
  obtain ⟨hl, a, cap, hv, h⟩ := h
  refine ⟨hl, a, cap, hv, fun h0 => ?_⟩
  obtain ⟨b, off, ha, hbB, hc⟩ := h h0
  refine ⟨b, off, ha, hbB, fun i hi => ?_⟩
  obtain ⟨c1, c2, nv, c3, c4⟩ := hc i hi
  exact ⟨(hk _ _ hbB).trans c1, (hk _ _ hbB).trans c2, nv, (hk _ _ hbB).trans c3, c4.keep hk⟩

/-! ### How large what came in is -/
def ImpOK (left : Int) (x : Imp) : Prop := (x.name.size : Int) ≤ left
def RelOK (left : Int) (x : Rel) : Prop := (x.name.size : Int) ≤ left ∧ (x.needs.length : Int) ≤ left ∧ ∀ y ∈ x.needs, ImpOK left y
theorem ImpOK.mono {a b : Int} {x : Imp} (h : ImpOK a x) (hab : a ≤ b) : ImpOK b x := by unfold ImpOK at *; omega
theorem RelOK.mono {a b : Int} {x : Rel} (h : RelOK a x) (hab : a ≤ b) : RelOK b x := ⟨by have := h.1; omega, by have := h.2.1; omega, fun y hy => (h.2.2 y hy).mono hab⟩
/-- What a release's texts are at most, of themselves. -/
def RelFit (x : Rel) : Prop := x.name.size ≤ maxLen ∧ ∀ y ∈ x.needs, y.name.size ≤ maxLen

end Go.Proofs.YteokcdobapkkhaaGreatDoor

namespace Go.Proofs.YteokcdobapkkhaaGreatDoor
open Go.ChangeShapes Go.WideShapes Go.ChangeAt Go.RowKit
set_option linter.unusedVariables false

theorem last3 (w : World) (o p q : Obj) : (((w.alloc o).alloc p).alloc q).heap[w.heap.size + 1]? = some p := by
  have h1 : ((w.alloc o).alloc p).heap[w.heap.size + 1]? = some p := by
    have := heap_alloc_last (w.alloc o) p
    rwa [World.size_alloc] at this
  have h2 : w.heap.size + 1 < ((w.alloc o).alloc p).heap.size := by simp only [World.size_alloc]; omega
  have := ((Below.refl _ ((w.alloc o).alloc p)).alloc (Nat.le_refl _) q).block (w.heap.size + 1) h2
  rw [this]; exact h1
theorem last3' (w : World) (o p q : Obj) : (((w.alloc o).alloc p).alloc q).heap[w.heap.size + 1 + 1]? = some q := by
  have := heap_alloc_last ((w.alloc o).alloc p) q
  simpa only [World.size_alloc] using this
theorem bel3 (w : World) (o p q : Obj) : Below w.heap.size w (((w.alloc o).alloc p).alloc q) :=
  (((Below.refl _ w).alloc (Nat.le_refl _) _).alloc (by simp only [World.size_alloc]; omega) _).alloc (by simp only [World.size_alloc]; omega) _
theorem make3 (t e : TypeId) (bytes n : Nat) (ht : Tryz.prog.underlying t = some (.slice e)) (hinfo : ((Tryz.prog.info? e).bind fun i => i.zero.map fun _ => (i.size, i.bytes)) = some (3, bytes)) (hb : bytes * n ≤ 281474976710656) (hn : n ≤ 9223372036854775807) (W : World) :
    ∃ cur : Array Value, cur.size = n * 3 ∧ (Instr.makeSlice t (.int .i64 (n : Int)) (.int .i64 (n : Int))).run Tryz.prog W = .ok (.slice (some ⟨W.heap.size, 0, none⟩) n n) (W.alloc (.cells cur e)) := by
  cases hi : Tryz.prog.info? e with
  | none => rw [hi] at hinfo; simp at hinfo
  | some i =>
    rw [hi] at hinfo
    simp only [Option.bind_some] at hinfo
    cases hz : i.zero with
    | none => rw [hz] at hinfo; simp at hinfo
    | some z =>
      rw [hz] at hinfo
      simp only [Option.map_some, Option.some.injEq, Prod.mk.injEq] at hinfo
      obtain ⟨h3, hby⟩ := hinfo
      have hbn : (i.bytes : Int) * (n : Int) ≤ 281474976710656 := by
        rw [hby]
        have h : ((bytes * n : Nat) : Int) ≤ 281474976710656 := by omega
        rwa [Int.natCast_mul] at h
      have hr := run_make (P := Tryz.prog) W t e i z ht hi hz .i64 .i64 (n : Int) (n : Int) (by omega) (by omega) hbn (by omega)
      simp only [Int.toNat_natCast] at hr
      exact ⟨_, by rw [size_madeCells, h3], hr⟩

/-- A row of needs that is laid: the first k are. -/
def ImpsC (cur : Array Value) (l : List Imp) (k : Nat) : Prop := ∀ i (h : i < l.length), i < k → cur[i * 3]? = some (.string l[i].name) ∧ cur[i * 3 + 1]? = some (.int .i64 l[i].mn) ∧ cur[i * 3 + 2]? = some (.int .i64 l[i].mx)
theorem three {k n : Nat} (h : k < n) {j : Nat} (hj : j < 3) : k * 3 + j < n * 3 := by
  have := Nat.mul_le_mul_right 3 (Nat.succ_le_of_lt h)
  omega
theorem ImpsC.step {cur : Array Value} {l : List Imp} {k : Nat} (h : ImpsC cur l k) (hk : k < l.length) (hc : k * 3 + 2 < cur.size) :
    ImpsC (((cur.setIfInBounds (k * 3) (.string l[k].name)).setIfInBounds (k * 3 + 1) (.int .i64 l[k].mn)).setIfInBounds (k * 3 + 2) (.int .i64 l[k].mx)) l (k + 1) := by
  intro i hi hik
  simp only [Array.getElem?_setIfInBounds, Array.size_setIfInBounds]
  by_cases hmk : i = k
  · subst hmk
    refine ⟨?_, ?_, ?_⟩
    · rw [if_neg (by omega), if_neg (by omega), if_pos rfl, if_pos (by omega)]
    · rw [if_neg (by omega), if_pos rfl, if_pos (by omega)]
    · rw [if_pos rfl, if_pos (by omega)]
  · have := h i hi (by omega)
    have h3 := three (show i < k by omega) (show 2 < 3 by omega)
    rw [if_neg (by omega), if_neg (by omega), if_neg (by omega), if_neg (by omega), if_neg (by omega), if_neg (by omega), if_neg (by omega), if_neg (by omega), if_neg (by omega)]
    exact this

/-- The row of needs l, laid in the block g of its own. -/
def RowI (w : World) (g : Nat) (v : Value) (l : List Imp) : Prop := l.length ≤ maxLen ∧ v = .slice (some ⟨g, 0, none⟩) l.length l.length ∧ ∃ cur, Blk w g 34 cur ∧ cur.size = l.length * 3 ∧ ImpsC cur l l.length
theorem RowI.keep {w w' : World} {g : Nat} {v : Value} {l : List Imp} (h : RowI w g v l) (hk : w'.heap[g]? = w.heap[g]?) : RowI w' g v l := by
  obtain ⟨h1, h2, cur, h3, h4⟩ := h
  exact ⟨h1, h2, cur, by unfold Blk at *; rw [hk]; exact h3, h4⟩
theorem RowI.lt {w : World} {g : Nat} {v : Value} {l : List Imp} (h : RowI w g v l) : g < w.heap.size := by
  obtain ⟨h1, h2, cur, h3, h4⟩ := h
  exact h3.lt
theorem RowI.imps {S : Nat → Prop} {w : World} {g : Nat} {v : Value} {l : List Imp} (h : RowI w g v l) (hS : S g) : ImpsAt S w v l := by
  obtain ⟨h1, h2, cur, h3, h4, h5⟩ := h
  refine ⟨h1, _, _, h2, fun _ => ⟨g, 0, rfl, hS, fun i hi => ?_⟩⟩
  simp only [Nat.zero_add]
  rw [h3.cell, h3.cell, h3.cell]
  exact h5 i hi hi

theorem ImpsAt.shape {S : Nat → Prop} {w : World} {v : Value} {l : List Imp} (h : ImpsAt S w v l) : ∃ a c, v = .slice a l.length c := by
  obtain ⟨_, a, c, hv, _⟩ := h
  exact ⟨a, c, hv⟩
theorem Blk.other {w : World} {g g' : Nat} {ty : TypeId} {cs : Array Value} (h : Blk w g ty cs) (hne : g ≠ g') (i : Nat) (v : Value) : Blk (w.setCell ⟨g', i, none⟩ v) g ty cs := by
  unfold Blk at *
  rw [Below.heap_setCell _ _ _ _ hne]; exact h
/-- A row of releases that is laid: the first k are; their needs lie each in a block between L and U. -/
def RelsC (L U : Nat) (w : World) (cur : Array Value) (l : List Rel) (k : Nat) : Prop := ∀ i (h : i < l.length), i < k → cur[i * 3]? = some (.string l[i].name) ∧ cur[i * 3 + 1]? = some (.int .i64 l[i].ver) ∧ ∃ nv g, cur[i * 3 + 2]? = some nv ∧ L < g ∧ g < U ∧ RowI w g nv l[i].needs
theorem RelsC.keep {L U U' : Nat} {w w' : World} {cur : Array Value} {l : List Rel} {k : Nat} (h : RelsC L U w cur l k) (hU : U ≤ U') (hk : ∀ b, L < b → b < U → w'.heap[b]? = w.heap[b]?) : RelsC L U' w' cur l k := by
  intro i hi hik
  obtain ⟨c1, c2, nv, g, c3, c4, c5, c6⟩ := h i hi hik
  exact ⟨c1, c2, nv, g, c3, c4, by omega, c6.keep (hk g c4 c5)⟩
theorem RelsC.step {L U U' : Nat} {w w' : World} {cur : Array Value} {l : List Rel} {k : Nat} (h : RelsC L U w cur l k) (hk : k < l.length) (hc : k * 3 + 2 < cur.size) (nv : Value) (hU : U ≤ U')
    (hkeep : ∀ b, L < b → b < U → w'.heap[b]? = w.heap[b]?) (g : Nat) (hg : L < g) (hgU : g < U') (hn : RowI w' g nv l[k].needs) :
    RelsC L U' w' (((cur.setIfInBounds (k * 3) (.string l[k].name)).setIfInBounds (k * 3 + 1) (.int .i64 l[k].ver)).setIfInBounds (k * 3 + 2) nv) l (k + 1) := by
  intro i hi hik
  simp only [Array.getElem?_setIfInBounds, Array.size_setIfInBounds]
  by_cases hmk : i = k
  · subst hmk
    refine ⟨?_, ?_, nv, g, ?_, hg, hgU, hn⟩
    · rw [if_neg (by omega), if_neg (by omega), if_pos rfl, if_pos (by omega)]
    · rw [if_neg (by omega), if_pos rfl, if_pos (by omega)]
    · rw [if_pos rfl, if_pos (by omega)]
  · obtain ⟨c1, c2, nv', g', c3, c4, c5, c6⟩ := h i hi (by omega)
    have h3 := three (show i < k by omega) (show 2 < 3 by omega)
    rw [if_neg (by omega), if_neg (by omega), if_neg (by omega), if_neg (by omega), if_neg (by omega), if_neg (by omega), if_neg (by omega), if_neg (by omega), if_neg (by omega)]
    exact ⟨c1, c2, nv', g', c3, c4, by omega, c6.keep (hkeep g' c4 c5)⟩

/-- The row of releases l, laid in the block L of its own, its needs between L and U. -/
def RowR (L U : Nat) (w : World) (v : Value) (l : List Rel) : Prop := l.length ≤ maxLen ∧ v = .slice (some ⟨L, 0, none⟩) l.length l.length ∧ ∃ cur, Blk w L 36 cur ∧ cur.size = l.length * 3 ∧ RelsC L U w cur l l.length
theorem RowR.keep {L U : Nat} {w w' : World} {v : Value} {l : List Rel} (h : RowR L U w v l) (hk : ∀ b, L ≤ b → b < U → w'.heap[b]? = w.heap[b]?) (hU : L < U) : RowR L U w' v l := by
  obtain ⟨h1, h2, cur, h3, h4, h5⟩ := h
  exact ⟨h1, h2, cur, by unfold Blk at *; rw [hk L (Nat.le_refl _) hU]; exact h3, h4, h5.keep (Nat.le_refl _) (fun b hb hb' => hk b (by omega) hb')⟩
theorem RowR.rels {L U : Nat} {w : World} {v : Value} {l : List Rel} (h : RowR L U w v l) (hU : L < U) : RelsAt (fun b => L ≤ b ∧ b < U) w v l := by
  obtain ⟨h1, h2, cur, h3, h4, h5⟩ := h
  refine ⟨h1, _, _, h2, fun _ => ⟨L, 0, rfl, ⟨Nat.le_refl _, hU⟩, fun i hi => ?_⟩⟩
  obtain ⟨c1, c2, nv, g, c3, c4, c5, c6⟩ := h5 i hi hi
  simp only [Nat.zero_add]
  rw [h3.cell, h3.cell, h3.cell]
  exact ⟨c1, c2, nv, c3, c6.imps ⟨by omega, c5⟩⟩

theorem sets3 (w : World) (g i1 i2 i3 : Nat) (v1 v2 v3 : Value) (b i : Nat) (hb : b ≠ g) : (((w.setCell ⟨g, i1, none⟩ v1).setCell ⟨g, i2, none⟩ v2).setCell ⟨g, i3, none⟩ v3).cell? ⟨b, i, none⟩ = w.cell? ⟨b, i, none⟩ := by
  have hne : ∀ j : Nat, (⟨g, j, none⟩ : Addr) ≠ ⟨b, i, none⟩ := fun j e => by injection e with e; exact hb e.symm
  rw [World.cell?_setCell_other _ _ _ _ (hne i3), World.cell?_setCell_other _ _ _ _ (hne i2), World.cell?_setCell_other _ _ _ _ (hne i1)]

end Go.Proofs.YteokcdobapkkhaaGreatDoor

namespace Go.Proofs.YteokcdobapkkhaaGreatDoor
open Go.ChangeShapes Go.WideShapes Go.ChangeAt Go.RowKit
set_option linter.unusedVariables false

/-- A world of a kind. -/
structure GoodW (good : World → Prop) where
  W : World
  ok : good W

theorem wp_region_calm {P : Program} (good : World → Prop) {id : Nat} {Q : Exit → Act → World → Prop} {a : Act} {w : World} {l : List Oper} (hm : P.follows .mixedOrders = true) (hB : Region.lexB .any l.toArray = true) (h0 : good w.drew)
    (h : wpQuiet P l.toArray (fun w' => ∃ n : GoodW good, w' = n.W) (fun a' => ∀ w', (∃ n : GoodW good, w' = n.W) → Q .normal a' w') l a) : (Code.region id l.toArray true).wp P Q a w :=
  wp_region_quiet (C := fun w' => ∃ n : GoodW good, w' = n.W) hm hB ⟨⟨_, h0⟩, rfl⟩ (by simpa using h)

theorem Calls.calm {P : Program} {f : FuncId} {args : Array Value} {good : World → Prop} (n : GoodW good) {v : Value} (hg : ∀ w', Below n.W.heap.size n.W w' → good w')
    (h : Calls P f args n.W fun e w' => e = .returned v ∧ Below n.W.heap.size n.W w') : Calls P f args n.W fun e w'' => e = .returned v ∧ ∃ m : GoodW good, w'' = m.W :=
  h.mono fun _ w' ⟨he, hb⟩ => ⟨he, ⟨w', hg w' hb⟩, rfl⟩
theorem Calls.calm_same {P : Program} {f : FuncId} {args : Array Value} {good : World → Prop} (n : GoodW good) {v : Value}
    (h : Calls P f args n.W fun e w' => e = .returned v ∧ n.W = w') : Calls P f args n.W fun e w'' => e = .returned v ∧ ∃ m : GoodW good, w'' = m.W :=
  h.mono fun _ w' ⟨he, hb⟩ => ⟨he, n, hb.symm⟩
end Go.Proofs.YteokcdobapkkhaaGreatDoor

namespace Go.Proofs.YteokcdobapkkhaaGreatDoor
open Go.ChangeShapes Go.WideShapes Go.ChangeAt Go.RowKit
set_option linter.unusedVariables false

end Go.Proofs.YteokcdobapkkhaaGreatDoor

namespace Go.Proofs.YteokcdobapkkhaaGreatDoor
open Go
section
variable {P : Program}

theorem parts_strs (a : Act) (parts : Array (Nat × Operand)) (ss : List ByteArray) (hparts : parts.toList = (ss.zipIdx 0).map fun x => (x.2, Operand.const (Value.string x.1))) :
    (parts.map fun (i, x) => (i, a.eval x)).toList = ((ss.map Value.string).zipIdx 0).map fun x => (x.2, x.1) := by
  rw [Array.toList_map, hparts, List.zipIdx_map, List.map_map, List.map_map]
  rfl

theorem wpList_buildStrs {ops : Array Oper} {rest : List Oper} {o : Oper} {a : Act} {w : World} {Q : Exit → Act → World → Prop} (hg : o.guard = none) (t e : TypeId) (len : Nat) (parts : Array (Nat × Operand)) (ho : o.op = .buildSlice t len parts)
    (ss : List ByteArray)
    (hu : P.underlying t = some (.slice e)) (hsz : (P.info? e).map (·.size) = some 1) (hz : ((P.info? e).bind (·.zero)).isSome = true)
    (hlen : len = ss.length) (hpos : 0 < len) (hsmall : len ≤ 2 ^ 24)
    (hparts : parts.toList = (ss.zipIdx 0).map fun x => (x.2, Operand.const (Value.string x.1)))
    (h : wpList P ops Q rest (a.put o.dst (.slice (some ⟨w.heap.size, 0, none⟩) len len)) (w.alloc (.cells (ss.map Value.string).toArray e))) : wpList P ops Q (o :: rest) a w := by
  cases hie : P.info? e with
  | none => simp [hie] at hsz
  | some ie =>
    simp only [hie, Option.map_some, Option.some.injEq, Option.bind_some] at hsz hz
    obtain ⟨z, hzz⟩ := Option.isSome_iff_exists.1 hz
    refine wpList_buildSlice hg t e len parts ho _ ie z hu hie hzz (by rw [hsz]; omega) (by rw [hsz]; omega) ?_ h
    rw [parts_strs a parts ss hparts, hsz]
    exact Great.fill_flat _ _ (fun v hv => by obtain ⟨n, _, rfl⟩ := List.mem_map.1 hv; rfl) (by simp [hlen])

theorem wpList_buildStrsArr {ops : Array Oper} {rest : List Oper} {o : Oper} {a : Act} {w : World} {Q : Exit → Act → World → Prop} (hg : o.guard = none) (t e : TypeId) (n : Nat) (parts : Array (Nat × Operand)) (ho : o.op = .build t parts)
    (ss : List ByteArray)
    (hu : P.underlying t = some (.array n e)) (hsz : (P.info? e).map (·.size) = some 1) (hz : ((P.info? t).bind (·.zero)).map (·.cells.size) = some ss.length)
    (hparts : parts.toList = (ss.zipIdx 0).map fun x => (x.2, Operand.const (Value.string x.1)))
    (h : wpList P ops Q rest (a.put o.dst (.agg (ss.map Value.string).toArray)) w) : wpList P ops Q (o :: rest) a w := by
  cases hie : P.info? e with
  | none => simp [hie] at hsz
  | some ie =>
    cases hit : P.info? t with
    | none => simp [hit] at hz
    | some it =>
      cases hzz : it.zero with
      | none => simp [hit, hzz] at hz
      | some z =>
        simp only [hie, hit, hzz, Option.map_some, Option.some.injEq, Option.bind_some] at hsz hz
        have hb : P.built t (parts.map fun (i, x) => (i, a.eval x)).toList = some (ss.map Value.string).toArray := by
          unfold Program.built
          simp only [hit, hu, hzz, hie]
          rw [parts_strs a parts ss hparts, hsz]
          exact Great.fill_flat _ _ (fun v hv => by obtain ⟨n, _, rfl⟩ := List.mem_map.1 hv; rfl) (by simp [hz])
        refine wpList_plain hg fun _ hK => ?_
        unfold Oper.wp execOp
        simp only [ho, Sem.run_bind, run_build w t _ _ hb, Result.andThen_ok]
        exact hK _ _ h
end

end Go.Proofs.YteokcdobapkkhaaGreatDoor

namespace Go.Proofs.YteokcdobapkkhaaGreatDoor
open Go.ChangeShapes Go.WideShapes Go.ChangeAt Go.RowKit
set_option linter.unusedVariables false

def hasB (ss : List ByteArray) (t : ByteArray) : Bool := ss.any fun x => x.toList == t.toList
theorem any_take_succ (ss : List ByteArray) (f : ByteArray → Bool) (k : Nat) (h : k < ss.length) (h0 : (ss.take k).any f = false) (h1 : f ss[k] = false) : (ss.take (k + 1)).any f = false := by
  rw [List.take_succ_eq_append_getElem h, List.any_append, h0]
  simp [h1]
theorem any_hit (ss : List ByteArray) (f : ByteArray → Bool) (k : Nat) (h : k < ss.length) (h1 : f ss[k] = true) : ss.any f = true :=
  List.any_eq_true.2 ⟨ss[k], List.getElem_mem h, h1⟩

set_option maxRecDepth 100000 in
set_option maxHeartbeats 400000 in
theorem specHasR (ss : List ByteArray) (t : ByteArray) (b : Nat) (w : World) (hlen : ss.length ≤ 1000)
    (hc : ∀ k (h : k < ss.length), w.cell? ⟨b, k, none⟩ = some (.string ss[k])) :
    Calls Tryz.prog 60 #[.slice (some ⟨b, 0, none⟩) ss.length ss.length, .string t] w fun e w' => e = .returned (.bool (hasB ss t)) ∧ w = w' := by
  have HC : Hid (∀ k (h : k < ss.length), w.cell? ⟨b, k, none⟩ = some (.string ss[k])) := hc
  clear hc
  obtain ⟨n, hn⟩ : ∃ n, ss.length = n := ⟨_, rfl⟩
  rw [hn]
  go_enter Tryz.func60, Tryz.ntmps60
  go_wp2
  go_loop [5] (fun i => ∃ k : Nat, k ≤ n ∧ i = .int .i64 (k : Int) ∧ (ss.take k).any (fun x => x.toList == t.toList) = false) (fun i => n - (intOf i).toNat)
  case atStart => exact ⟨0, by omega, rfl, rfl⟩
  case round =>
    obtain ⟨k, hk, rfl, h0⟩ := hrel
    have H0 : Hid ((ss.take k).any (fun x => x.toList == t.toList) = false) := h0
    clear h0
    by_cases hkn : k < n
    · have hk' : k < ss.length := by omega
      have hcell := HC.out k hk'
      obtain ⟨x, hx⟩ : ∃ x, ss[k] = x := ⟨_, rfl⟩
      rw [hx] at hcell
      have HX : Hid (ss[k] = x) := hx
      clear hx
      go_wp2
      · have h1 : (x.toList == t.toList) = true := by assumption
        go_ret
        refine ⟨?_, rfl⟩
        have : hasB ss t = true := any_hit ss _ k hk' (by rw [HX.out]; exact h1)
        rw [this]; rfl
      · have h1 : (x.toList == t.toList) = false := by assumption
        go_round
        case rel => exact ⟨k + 1, by omega, by go_num, any_take_succ ss _ k hk' H0 (by rw [HX.out]; exact h1)⟩
        case measure => simp [intOf]; omega
    · go_wp2
      go_ret
      refine ⟨?_, rfl⟩
      have : hasB ss t = false := by
        have h1 := H0.out
        rw [List.take_of_length_le (by omega)] at h1
        exact h1
      rw [this]; rfl

/-- The eleven reserved words. -/
def resList : List ByteArray :=
  [⟨#[112, 97, 99, 107, 97, 103, 101]⟩, ⟨#[105, 109, 112, 111, 114, 116]⟩, ⟨#[99, 111, 110, 115, 116]⟩, ⟨#[118, 97, 114]⟩, ⟨#[102, 117, 110, 99]⟩, ⟨#[105, 110, 105, 116]⟩, ⟨#[115, 116, 111, 112]⟩, ⟨#[115, 101, 116]⟩, ⟨#[101, 109, 105, 116]⟩, ⟨#[102, 97, 105, 108]⟩, ⟨#[119, 104, 101, 110]⟩]

theorem cells_new (w : World) (ss : List ByteArray) (e : TypeId) (k : Nat) (h : k < ss.length) : (w.alloc (.cells (ss.map Value.string).toArray e)).cell? ⟨w.heap.size, k, none⟩ = some (.string ss[k]) := by
  simp only [World.cell?, heap_alloc_last]
  simp [h]

set_option maxRecDepth 100000 in
set_option maxHeartbeats 400000 in
theorem specReserved (t : ByteArray) (w : World) :
    Calls Tryz.prog 77 #[.string t] w fun e w' => e = .returned (.bool (hasB resList t)) ∧ Below w.heap.size w w' := by
  have c := specHasR resList t w.heap.size (w.alloc (.cells (resList.map Value.string).toArray 9)) (by decide) (cells_new w resList 9)
  obtain ⟨B, hB⟩ : ∃ B, hasB resList t = B := ⟨_, rfl⟩
  rw [hB] at c ⊢
  clear hB
  go_enter Tryz.func77, Tryz.ntmps77
  go_wp2_with (first
    | (refine wpList_buildStrs rfl 49 9 11 _ rfl resList (by kernel_rfl) (by kernel_rfl) (by kernel_rfl) (by kernel_rfl) (by decide) (by decide) (by kernel_rfl) ?_)
    | (go_at_call 60; go_must (refine c.mono ?_; rintro e w' ⟨rfl, rfl⟩)))
  go_ret
  exact ⟨rfl, (Below.refl _ w).alloc (Nat.le_refl _) _⟩

theorem res_eq (t : ByteArray) : hasB resList t = ((t.toList == [112, 97, 99, 107, 97, 103, 101]) || (t.toList == [105, 109, 112, 111, 114, 116]) || (t.toList == [99, 111, 110, 115, 116]) || (t.toList == [118, 97, 114]) || (t.toList == [102, 117, 110, 99]) || (t.toList == [105, 110, 105, 116]) || (t.toList == [115, 116, 111, 112]) || (t.toList == [115, 101, 116]) || (t.toList == [101, 109, 105, 116]) || (t.toList == [102, 97, 105, 108]) || (t.toList == [119, 104, 101, 110])) := by
  rw [Bool.eq_iff_iff]
  simp only [hasB, resList, List.any_cons, List.any_nil, Bool.or_eq_true, beq_iff_eq, Bool.or_false, ByteArray.toList_eq, or_assoc]
  simp only [eq_comm (a := t.data.toList)]
set_option maxRecDepth 100000 in
set_option maxHeartbeats 400000 in
theorem implReserved (t : ByteArray) (w : World) :
    Calls Tryz.prog 94 #[.string t] w fun e w' => e = .returned (.bool (hasB resList t)) ∧ w = w' := by
  go_enter Tryz.func94, Tryz.ntmps94
  go_wp2
  all_goals
    go_ret
    refine ⟨congrArg (fun b => Ending.returned (Value.bool b)) ?_, rfl⟩
    rw [res_eq]
    simp_all
end Go.Proofs.YteokcdobapkkhaaGreatDoor

namespace Go.Proofs.YteokcdobapkkhaaGreatDoor
open Go.ChangeShapes Go.WideShapes Go.ChangeAt Go.RowKit
set_option linter.unusedVariables false

/-- What spec.NameOK answers, whatever it is. -/
def NameSpec (nameB : ByteArray → Bool) : Prop := ∀ (s : ByteArray) (w : World), Calls Tryz.prog 58 #[.string s] w fun e w' => e = .returned (.bool (nameB s)) ∧ Below w.heap.size w w'

/-- A need is right. -/
def needB (nameB : ByteArray → Bool) (x : Imp) : Bool := nameB x.name && decide (1 ≤ x.mn) && decide (x.mn ≤ x.mx) && decide (x.mx ≤ 999999)
set_option maxRecDepth 100000 in
theorem specNeed {nameB : ByteArray → Bool} (hN : NameSpec nameB) (nm : ByteArray) (mn mx : Int) (w : World) :
    Calls Tryz.prog 59 #[.agg #[.string nm, .int .i64 mn, .int .i64 mx]] w fun e w' => e = .returned (.bool (needB nameB ⟨nm, mn, mx⟩)) ∧ Below w.heap.size w w' := by
  have hw1 : ∀ o, Below w.heap.size w (w.alloc o) := fun o => (Below.refl _ w).alloc (Nat.le_refl _) _
  have cn := fun w => hN nm w
  have HN : Hid (NameSpec nameB) := hN
  clear hN
  unfold needB
  dsimp only
  obtain ⟨b, hb⟩ : ∃ b, nameB nm = b := ⟨_, rfl⟩
  rw [hb] at cn ⊢
  clear hb
  cases b
  · go_enter Tryz.func59, Tryz.ntmps59
    go_wp2_with (go_at_call 58; go_must (refine (cn _).mono ?_; rintro e w1 ⟨rfl, hb1⟩))
    go_ret
    exact ⟨by simp, good_below (hw1 _) hb1⟩
  · go_enter Tryz.func59, Tryz.ntmps59
    go_wp2_with (go_at_call 58; go_must (refine (cn _).mono ?_; rintro e w1 ⟨rfl, hb1⟩; have hk : Blk w1 w.heap.size 34 #[.string nm, .int .i64 mn, .int .i64 mx] := Blk.below (heap_alloc_last w _) hb1; have e1 := hk.cell 1; have e2 := hk.cell 2; simp at e1 e2))
    all_goals
      go_ret
      refine ⟨congrArg (fun b => Ending.returned (Value.bool b)) ?_, good_below (hw1 _) hb1⟩
      simp
      try omega

/-- The slice v owns the texts ss. -/
def OwnS (B : Nat) (w : World) (v : Value) (ss : List ByteArray) : Prop := w.ownsRow B 9 1 v ss.length (ss.map Value.string)
theorem OwnS.below {B : Nat} {w w' : World} {v : Value} {ss : List ByteArray} (h : OwnS B w v ss) (hb : Below w.heap.size w w') : OwnS B w' v ss := by
  obtain ⟨hl, h⟩ := h
  refine ⟨hl, ?_⟩
  rcases h with h | ⟨g, cap, cur, hv, hB, hg, h1, h2, h3, h4⟩
  · exact .inl h
  · refine .inr ⟨g, cap, cur, hv, hB, ?_, h1, h2, h3, h4⟩
    rw [hb.block g (Array.getElem?_eq_some_iff.1 hg).1]; exact hg
theorem OwnS.block {B : Nat} {w : World} {v : Value} {ss : List ByteArray} (h : OwnS B w v ss) : ∀ k, v.ownBlock = some k → B ≤ k := by
  rcases h.2 with ⟨rfl, _⟩ | ⟨g, cap, cur, rfl, hB, _⟩
  · intro k hk; simp [Value.ownBlock] at hk
  · intro k hk; simp [Value.ownBlock] at hk; omega
theorem OwnS.value {B : Nat} {w : World} {v : Value} {ss : List ByteArray} (h : OwnS B w v ss) :
    ∃ a cap, v = .slice a ss.length cap ∧ (0 < ss.length → ∃ g, a = some ⟨g, 0, none⟩ ∧ ∀ j (hj : j < ss.length), w.cell? ⟨g, j, none⟩ = some (.string ss[j])) := by
  rcases h.2 with ⟨rfl, h0⟩ | ⟨g, cap, cur, rfl, hB, hg, h1, h2, h3, h4⟩
  · exact ⟨none, 0, by rw [h0], fun h => by omega⟩
  · refine ⟨_, cap, rfl, fun _ => ⟨g, rfl, fun j hj => ?_⟩⟩
    simp only [World.cell?, hg]
    have h5 := congrArg (·[j]?) h4
    simp only [Nat.mul_one, List.getElem?_take, hj, if_true, List.getElem?_map, List.getElem?_eq_getElem hj, Option.map_some] at h5
    simpa using h5

set_option maxRecDepth 100000 in
set_option maxHeartbeats 400000 in
theorem specHas (ss : List ByteArray) (t : ByteArray) (a : Option Addr) (cap : Nat) (w : World) (hlen : ss.length ≤ 1000000)
    (hc : 0 < ss.length → ∃ g, a = some ⟨g, 0, none⟩ ∧ ∀ j (hj : j < ss.length), w.cell? ⟨g, j, none⟩ = some (.string ss[j])) :
    Calls Tryz.prog 60 #[.slice a ss.length cap, .string t] w fun e w' => e = .returned (.bool (hasB ss t)) ∧ w = w' := by
  have HC : Hid _ := hc
  clear hc
  obtain ⟨n, hn⟩ : ∃ n, ss.length = n := ⟨_, rfl⟩
  rw [hn]
  go_enter Tryz.func60, Tryz.ntmps60
  go_wp2
  go_loop [5] (fun i => ∃ k : Nat, k ≤ n ∧ i = .int .i64 (k : Int) ∧ (ss.take k).any (fun x => x.toList == t.toList) = false) (fun i => n - (intOf i).toNat)
  case atStart => exact ⟨0, by omega, rfl, rfl⟩
  case round =>
    obtain ⟨k, hk, rfl, h0⟩ := hrel
    have H0 : Hid ((ss.take k).any (fun x => x.toList == t.toList) = false) := h0
    clear h0
    by_cases hkn : k < n
    · have hk' : k < ss.length := by omega
      obtain ⟨g, rfl, hcell0⟩ := HC.out (by omega)
      have hcell := hcell0 k hk'
      clear hcell0
      obtain ⟨x, hx⟩ : ∃ x, ss[k] = x := ⟨_, rfl⟩
      rw [hx] at hcell
      have HX : Hid (ss[k] = x) := hx
      clear hx
      go_wp2
      · have h1 : (x.toList == t.toList) = true := by assumption
        go_ret
        refine ⟨?_, rfl⟩
        have : hasB ss t = true := any_hit ss _ k hk' (by rw [HX.out]; exact h1)
        rw [this]; rfl
      · have h1 : (x.toList == t.toList) = false := by assumption
        go_round
        case rel => exact ⟨k + 1, by omega, by go_num, any_take_succ ss _ k hk' H0 (by rw [HX.out]; exact h1)⟩
        case measure => simp [intOf]; omega
    · go_wp2
      go_ret
      refine ⟨?_, rfl⟩
      have : hasB ss t = false := by
        have h1 := H0.out
        rw [List.take_of_length_le (by omega)] at h1
        exact h1
      rw [this]; rfl

section
variable {P : Program}
theorem wpList_appendS {ops : Array Oper} {rest : List Oper} {o : Oper} {a : Act} {w : World} {Q : Exit → Act → World → Prop} (hgd : o.guard = none) (s x : Operand) (t : TypeId)
    (ho : o.op = .call { callee := .builtin .append, args := #[s, x], argTypes := #[t, t] })
    (ht : P.underlying t = some (.slice 9)) (i : TypeInfo) (hii : P.info? 9 = some i) (hz0 : i.zero = some (.string ⟨#[]⟩)) (hz1 : i.size = 1) (hz2 : i.bytes = 16)
    (B : Nat) (v : Value) (l : List ByteArray) (hs : a.eval s = v) (hown : OwnS B w v l)
    (ad : Addr) (c : Nat) (y : ByteArray) (hx : a.eval x = .slice (some ad) 1 c) (hnews : w.cell? ad = some (.string y))
    (hsz : l.length ≤ 1000000) (hB : B ≤ w.heap.size)
    (h : ∀ v' w', OwnS B w' v' (l ++ [y]) → Below B w w' → w.grownBy w' v.ownBlock → wpList P ops Q rest (a.put o.dst v') w') : wpList P ops Q (o :: rest) a w := by
  refine wpList_append_own w hgd s x t ho B 9 i (.string ⟨#[]⟩) 1 16 ht hii hz0 hz1 hz2 rfl (by decide) v l.length (l.map Value.string) hs hown ad 1 c [.string y] hx rfl ?_ ?_ ?_ ?_ hB ?_
  · intro j u hj
    have : j = 0 := by
      have := (List.getElem?_eq_some_iff.1 hj).1
      simp at this
      omega
    subst this
    simp at hj
    rw [← hj]
    have hadd : ad.add 0 = ad := by
      obtain ⟨b, o, s⟩ := ad
      cases s <;> rfl
    rw [hadd]; exact hnews
  · intro u hu
    simp at hu
    subst hu
    rfl
  · unfold maxLen; omega
  · omega
  · intro v' w' h1 h2 h3
    refine h v' w' ?_ ((Below.refl _ w).grown h2 hB (OwnS.block hown)) h2
    unfold OwnS
    rw [List.map_append, List.length_append]
    exact h1
end
theorem info9 : ∃ i, Tryz.prog.info? 9 = some i ∧ i.zero = some (.string ⟨#[]⟩) ∧ i.size = 1 ∧ i.bytes = 16 := by
  have hi : (Tryz.prog.info? 9).map (fun i => (i.zero, i.size, i.bytes)) = some (some (.string ⟨#[]⟩), 1, 16) := by kernel_rfl
  cases h : Tryz.prog.info? 9 with
  | none => rw [h] at hi; simp at hi
  | some i =>
    rw [h] at hi
    simp only [Option.map_some, Option.some.injEq, Prod.mk.injEq] at hi
    exact ⟨i, rfl, hi.1, hi.2.1, hi.2.2⟩

theorem new_cell (w : World) (y : ByteArray) : (w.alloc (.cells #[.string y] 9)).cell? ⟨w.heap.size, 0, none⟩ = some (.string y) := by
  simp only [World.cell?, heap_alloc_last]
  rfl

/-- Needs from a place on, behind names that stood ahead. -/
def wishesFrom (nameB : ByteArray → Bool) : List Imp → List ByteArray → Bool
  | [], _ => true
  | x :: l, seen => if needB nameB x && !hasB seen x.name then wishesFrom nameB l (seen ++ [x.name]) else false
def wishesB (nameB : ByteArray → Bool) (l : List Imp) : Bool := if 20 < l.length then false else wishesFrom nameB l []

set_option maxRecDepth 100000 in
set_option maxHeartbeats 1000000 in
theorem specWishes {nameB : ByteArray → Bool} (hN : NameSpec nameB) {S : Nat → Prop} {l : List Imp} {v : Value} {w : World} (hS : ∀ b, S b → b < w.heap.size) (h : ImpsAt S w v l) :
    Calls Tryz.prog 35 #[v] w fun e w' => e = .returned (.bool (wishesB nameB l)) ∧ Below w.heap.size w w' := by
  obtain ⟨hlm, a, cap, rfl, hc⟩ := h
  have HC : Hid _ := hc
  have HN : Hid (NameSpec nameB) := hN
  have hlm' : (l.length : Int) ≤ 9223372036854775807 := by simp [maxLen] at hlm; omega
  clear hc hlm hN
  unfold wishesB
  by_cases h20 : 20 < l.length
  · rw [if_pos h20]
    have h20' : (20 : Int) < (l.length : Int) := by omega
    go_enter Tryz.func35, Tryz.ntmps35
    go_wp2_with fail
    go_ret
    exact ⟨rfl, Below.refl _ _⟩
  · rw [if_neg h20]
    have h20' : ¬ ((20 : Int) < (l.length : Int)) := by omega
    obtain ⟨F, hF⟩ : ∃ F, wishesFrom nameB l [] = F := ⟨_, rfl⟩
    have HF : Hid (wishesFrom nameB l [] = F) := hF
    rw [hF]
    clear hF
    go_enter Tryz.func35, Tryz.ntmps35
    go_wp2_with fail
    go_loopw [3, 4] (fun i3 i4 wr => ∃ (k : Nat) (seen : List ByteArray), i4 = .int .i64 (k : Int) ∧ k ≤ l.length ∧ seen.length = k ∧ OwnS w.heap.size wr i3 seen ∧ wishesFrom nameB (l.drop k) seen = F ∧ Below w.heap.size w wr) (fun _ i4 _ => l.length - (intOf i4).toNat)
    case atStart => exact ⟨0, [], rfl, by omega, rfl, ⟨rfl, .inr ⟨w.heap.size, 0, #[], rfl, Nat.le_refl _, heap_alloc_last w _, Nat.le_refl _, Nat.zero_le _, rfl, rfl⟩⟩, HF, (Below.refl _ w).alloc (Nat.le_refl _) _⟩
    case round =>
      obtain ⟨k, seen, rfl, hk, hsl, hown, hfrom, hb⟩ := hrel
      by_cases hkn : k < l.length
      · have hkn' : (k : Int) < (l.length : Int) := by omega
        obtain ⟨b, off, rfl, hbB, hcell⟩ := HC.out (by omega)
        obtain ⟨x1, x2, x3⟩ := hcell k hkn
        have hbw := hS b hbB
        rw [List.drop_eq_getElem_cons hkn] at hfrom
        obtain ⟨x, hx⟩ : ∃ x, l[k] = x := ⟨_, rfl⟩
        rw [hx] at x1 x2 x3 hfrom
        clear hx hcell
        obtain ⟨nm, mn, mx⟩ := x
        dsimp only at x1 x2 x3
        have d1 := (hb.cell (p := ⟨b, off + k * 3, none⟩) hbw).trans x1
        have d2 := (hb.cell (p := ⟨b, off + k * 3 + 1, none⟩) hbw).trans x2
        have d3 := (hb.cell (p := ⟨b, off + k * 3 + 2, none⟩) hbw).trans x3
        obtain ⟨a3, c3, hv3, hs3⟩ := hown.value
        rw [hsl] at hv3
        subst hv3
        have cn := fun w => specNeed HN.out nm mn mx w
        simp only [wishesFrom] at hfrom
        obtain ⟨B1, hB1⟩ : ∃ B1, needB nameB ⟨nm, mn, mx⟩ = B1 := ⟨_, rfl⟩
        rw [hB1] at cn hfrom
        clear hB1
        cases B1
        · simp at hfrom
          subst hfrom
          go_wp2_with (go_at_call 59; go_must (refine (cn _).mono ?_; rintro e w1 ⟨rfl, hb1⟩))
          go_ret
          exact ⟨rfl, good_below hb hb1⟩
        · have ch : ∀ w', Below wr.heap.size wr w' → Calls Tryz.prog 60 #[.slice a3 k c3, .string nm] w' fun e w2 => e = .returned (.bool (hasB seen nm)) ∧ w' = w2 := fun w' hbb => hsl ▸ specHas seen nm a3 c3 w' (by omega) (fun h0 => by
            obtain ⟨g, hg, hcc⟩ := hs3 h0
            have hgl : g < wr.heap.size := by
              have := hcc 0 h0
              cases hh : wr.heap[g]? with
              | none => simp [World.cell?, hh] at this
              | some o => exact (Array.getElem?_eq_some_iff.1 hh).1
            exact ⟨g, hg, fun j hj => (hbb.cell (p := ⟨g, j, none⟩) hgl).trans (hcc j hj)⟩)
          obtain ⟨B2, hB2⟩ : ∃ B2, hasB seen nm = B2 := ⟨_, rfl⟩
          rw [hB2] at ch hfrom
          clear hB2
          cases B2
          · simp at hfrom
            have HFR : Hid _ := hfrom
            have HOW : Hid (OwnS w.heap.size wr (.slice a3 k c3) seen) := hown
            have HSL : Hid (seen.length = k) := hsl
            clear hfrom hown hs3 hsl
            obtain ⟨ti, hti, ht0, ht1, ht2⟩ := info9
            go_wp2_with (first
              | (go_at_call 59; go_must (refine (cn _).mono ?_; rintro e w1 ⟨rfl, hb1⟩; have e1 := (hb1.cell (p := ⟨b, off + k * 3, none⟩) (Nat.lt_of_lt_of_le hbw hb.size)).trans d1))
              | (go_at_call 60; go_must (refine (ch _ hb1).mono ?_; rintro e w2 ⟨rfl, rfl⟩))
              | (at_builtin; go_must (refine wpList_appendS rfl (.tmp 30) (.tmp 36) 28 rfl Tryz.underlying28 ti hti ht0 ht1 ht2 w.heap.size (.slice a3 k c3) seen rfl (HOW.out.below (hb1.alloc hb1.size _)) ⟨w1.heap.size, 0, none⟩ 1 nm rfl (new_cell w1 nm) (by have := HSL.out; omega) (by have := hb.size; have := hb1.size; simp only [World.size_alloc]; omega) ?_; intro v4 w4 hown4 hB4 hgr4)))
            have hbb := good_below hb hb1
            exact ⟨⟨k + 1, seen ++ [nm], rfl, by omega, by simp [HSL.out], hown4, HFR.out, (hbb.alloc hbb.size _).trans hB4⟩, by simp [intOf]; omega⟩
          · simp at hfrom
            subst hfrom
            go_wp2_with (first
              | (go_at_call 59; go_must (refine (cn _).mono ?_; rintro e w1 ⟨rfl, hb1⟩; have e1 := (hb1.cell (p := ⟨b, off + k * 3, none⟩) (Nat.lt_of_lt_of_le hbw hb.size)).trans d1))
              | (go_at_call 60; go_must (refine (ch _ hb1).mono ?_; rintro e w2 ⟨rfl, rfl⟩)))
            go_ret
            exact ⟨rfl, good_below hb hb1⟩
      · have hkn' : ¬ ((k : Int) < (l.length : Int)) := by omega
        rw [List.drop_eq_nil_of_le (by omega)] at hfrom
        simp only [wishesFrom] at hfrom
        subst hfrom
        go_wp2_with fail
        go_ret
        exact ⟨rfl, hb⟩
end Go.Proofs.YteokcdobapkkhaaGreatDoor

namespace Go.Proofs.YteokcdobapkkhaaGreatDoor
open Go.ChangeShapes Go.WideShapes Go.ChangeAt Go.RowKit
set_option linter.unusedVariables false


/-- A release is right, behind those that stood ahead. -/
def relB (nameB : ByteArray → Bool) (pre : List Rel) (r : Rel) : Bool :=
  nameB r.name && decide (1 ≤ r.ver) && decide (r.ver ≤ 999999) && wishesB nameB r.needs && !(r.needs.any fun x => x.name.toList == r.name.toList) && !(pre.any fun q => q.name.toList == r.name.toList && q.ver == r.ver)
def storeB (nameB : ByteArray → Bool) (l : List Rel) : Bool := decide (l.length ≤ 200) && (List.range l.length).all fun i => match l[i]? with | some r => relB nameB (l.take i) r | none => true
theorem store_bad {nameB : ByteArray → Bool} {l : List Rel} {i : Nat} (hi : i < l.length) (h : relB nameB (l.take i) l[i] = false) : storeB nameB l = false := by
  unfold storeB
  cases hd : decide (l.length ≤ 200)
  · rfl
  · simp only [Bool.true_and]
    rw [List.all_eq_false]
    exact ⟨i, by simpa using hi, by simp [List.getElem?_eq_getElem hi, h]⟩
theorem store_good {nameB : ByteArray → Bool} {l : List Rel} (h2 : l.length ≤ 200) (h : ∀ i (hi : i < l.length), relB nameB (l.take i) l[i] = true) : storeB nameB l = true := by
  unfold storeB
  rw [decide_eq_true h2, Bool.true_and, List.all_eq_true]
  intro i hi
  have hi' : i < l.length := by simpa using hi
  simp [List.getElem?_eq_getElem hi', h i hi']

theorem bel_drewN {B : Nat} {w0 w : World} (h : Below B w0 w) (n : Nat) : Below B w0 (w.drewN n) := by
  induction n with
  | zero => exact h
  | succ n ih => exact ih.drew
theorem rel_need {nameB : ByteArray → Bool} (pre : List Rel) (r : Rel) (j : Nat) (hj : j < r.needs.length) (h : (r.needs[j].name.toList == r.name.toList) = true) : relB nameB pre r = false := by
  have : (r.needs.any fun x => x.name.toList == r.name.toList) = true := List.any_eq_true.2 ⟨_, List.getElem_mem hj, h⟩
  unfold relB
  rw [this]
  simp
theorem rel_twice {nameB : ByteArray → Bool} {l : List Rel} {k : Nat} (r : Rel) (m : Nat) (_u : Unit) (hm : m < k) (hml : m < l.length) (h : (l[m].name.toList == r.name.toList && l[m].ver == r.ver) = true) : relB nameB (l.take k) r = false := by
  have : ((l.take k).any fun q => q.name.toList == r.name.toList && q.ver == r.ver) = true := List.any_eq_true.2 ⟨l[m], by rw [List.mem_take_iff_getElem]; exact ⟨m, by omega, rfl⟩, h⟩
  unfold relB
  rw [this]
  simp
theorem rel_good {nameB : ByteArray → Bool} {l : List Rel} {k : Nat} {nm : ByteArray} {ve : Int} {ns : List Imp} (_u _v : Unit) (h1 : nameB nm = true) (h2 : 1 ≤ ve) (h3 : ve ≤ 999999) (h4 : wishesB nameB ns = true) (h5 : ∀ x ∈ ns, (x.name.toList == nm.toList) = false)
    (h6 : ∀ i (hi : i < l.length), i < k → (l[i].name.toList == nm.toList && l[i].ver == ve) = false) : relB nameB (l.take k) ⟨nm, ve, ns⟩ = true := by
  have e5 : (ns.any fun x => x.name.toList == nm.toList) = false := List.any_eq_false.2 (fun x hx => by rw [h5 x hx]; simp)
  have e6 : ((l.take k).any fun q => q.name.toList == nm.toList && q.ver == ve) = false := List.any_eq_false.2 (fun q hq => by
    rw [List.mem_take_iff_getElem] at hq
    obtain ⟨i, hi, rfl⟩ := hq
    rw [h6 i (by omega) (by omega)]; simp)
  unfold relB
  dsimp only
  rw [h1, h4, e5, e6, decide_eq_true h2, decide_eq_true h3]
  rfl

set_option maxRecDepth 100000 in
set_option maxHeartbeats 2000000 in
theorem specStore {nameB : ByteArray → Bool} (hN : NameSpec nameB) {S : Nat → Prop} {l : List Rel} {v : Value} {w : World} (hS : ∀ b, S b → b < w.heap.size) (h : RelsAt S w v l) :
    Calls Tryz.prog 34 #[v] w fun e w' => e = .returned (.bool (storeB nameB l)) ∧ Below w.heap.size w w' := by
  obtain ⟨hlm, a, cap, rfl, hc⟩ := h
  have HC : Hid _ := hc
  have HN : Hid (NameSpec nameB) := hN
  have hlm' : (l.length : Int) ≤ 9223372036854775807 := by simp [maxLen] at hlm; omega
  clear hc hlm hN
  by_cases h200 : 200 < l.length
  · have e : storeB nameB l = false := by unfold storeB; rw [decide_eq_false (by omega)]; rfl
    rw [e]
    have h200' : (200 : Int) < (l.length : Int) := by omega
    go_enter Tryz.func34, Tryz.ntmps34
    go_wp2_with fail
    go_ret
    exact ⟨rfl, Below.refl _ _⟩
  · have h200' : ¬ ((200 : Int) < (l.length : Int)) := by omega
    go_enter Tryz.func34, Tryz.ntmps34
    go_wp2_with fail
    go_loopw [3, 4] (fun i3 _ wr => ∃ k : Nat, i3 = .int .i64 (k : Int) ∧ k ≤ l.length ∧ (∀ i (hi : i < l.length), i < k → relB nameB (l.take i) l[i] = true) ∧ Below w.heap.size w wr) (fun i3 _ _ => l.length - (intOf i3).toNat)
    case atStart => exact ⟨0, rfl, by omega, fun i _ h => by omega, Below.refl _ _⟩
    case round =>
      obtain ⟨k, rfl, hk, hall, hb⟩ := hrel
      have HA : Hid (∀ i (hi : i < l.length), i < k → relB nameB (l.take i) l[i] = true) := hall
      clear hall
      by_cases hkn : k < l.length
      · have hkn' : (k : Int) < (l.length : Int) := by omega
        obtain ⟨b, off, rfl, hbB, hcell⟩ := HC.out (by omega)
        obtain ⟨x1, x2, nv, x3, x4⟩ := hcell k hkn
        have hbw := hS b hbB
        have d1 := (hb.cell (p := ⟨b, off + k * 3, none⟩) hbw).trans x1
        have d2 := (hb.cell (p := ⟨b, off + k * 3 + 1, none⟩) hbw).trans x2
        have d3 := (hb.cell (p := ⟨b, off + k * 3 + 2, none⟩) hbw).trans x3
        have hbad := fun h => store_bad (nameB := nameB) hkn h
        obtain ⟨x, hx⟩ : ∃ x, l[k] = x := ⟨_, rfl⟩
        rw [hx] at d1 d2 x4 hbad
        have HXK : Hid (l[k] = x) := hx
        clear hx x1 x2 x3
        obtain ⟨nm, ve, ns⟩ := x
        dsimp only at d1 d2 x4
        have HBAD : Hid _ := hbad
        have HCELL : Hid _ := hcell
        clear hbad hcell
        have cn := fun w => HN.out nm w
        have hw2 : ∀ W, Below wr.heap.size wr W → Below w.heap.size w W := fun W h => good_below hb h
        have cw : ∀ W, Below wr.heap.size wr W → Calls Tryz.prog 35 #[nv] W fun e w' => e = .returned (.bool (wishesB nameB ns)) ∧ Below W.heap.size W w' := fun W h => specWishes HN.out (fun b hbb => Nat.lt_of_lt_of_le (hS b hbb) (hw2 W h).size) (x4.keep (cells_below hS (hw2 W h)))
        obtain ⟨a4, c4, hv4⟩ := x4.shape
        subst hv4
        have HX4 : Hid _ := x4
        clear x4
        obtain ⟨B1, hB1⟩ : ∃ B1, nameB nm = B1 := ⟨_, rfl⟩
        obtain ⟨B2, hB2⟩ : ∃ B2, wishesB nameB ns = B2 := ⟨_, rfl⟩
        rw [hB1] at cn
        rw [hB2] at cw
        by_cases hfirst : B1 = true ∧ 1 ≤ ve ∧ ve ≤ 999999 ∧ B2 = true
        · obtain ⟨rfl, hv1, hv2, rfl⟩ := hfirst
          go_wp2_with (first
            | (go_at_call 58; go_must (refine (cn _).mono ?_; rintro e w1 ⟨rfl, hb1⟩; have hk4 : Blk w1 wr.heap.size 36 #[.string nm, .int .i64 ve, .slice a4 ns.length c4] := Blk.below (heap_alloc_last wr _) hb1; have hb2 : Below wr.heap.size wr w1 := (((Below.refl _ wr).alloc (Nat.le_refl _) _).trans (hb1.mono (by simp))); have e1 := hk4.cell 1; have e2 := hk4.cell 2; simp at e1 e2))
            | (go_at_call 35; go_must (refine (cw _ hb2).mono ?_; rintro e w2 ⟨rfl, hb3⟩)))
          have hns20 : ns.length ≤ 20 := by
            unfold wishesB at hB2
            split at hB2
            · simp at hB2
            · omega
          have hns20' : (ns.length : Int) ≤ 20 := by omega
          have hb4 : Below wr.heap.size wr w2 := good_below hb2 hb3
          have hk5 := hk4.below hb3
          have HK5 : Hid (Blk w2 wr.heap.size 36 #[.string nm, .int .i64 ve, .slice a4 ns.length c4]) := hk5
          obtain ⟨_, a5, c5, hv5, hq5⟩ := HX4.out
          simp only [Value.slice.injEq, true_and] at hv5
          obtain ⟨rfl, rfl⟩ := hv5
          have HQ : Hid _ := hq5
          clear hk4 hk5 hq5 e1 e2 cn cw
          go_loopw [5] (fun i5 wz => ∃ j : Nat, i5 = .int .i64 (j : Int) ∧ j ≤ ns.length ∧ (∀ i (hi : i < ns.length), i < j → (ns[i].name.toList == nm.toList) = false) ∧ Below w2.heap.size w2 wz) (fun i5 _ => ns.length - (intOf i5).toNat)
          case atStart => exact ⟨0, rfl, by omega, fun i _ h => by omega, Below.refl _ _⟩
          case round =>
            obtain ⟨j, rfl, hj, hja, hbz⟩ := hrel
            have HJA : Hid (∀ i (hi : i < ns.length), i < j → (ns[i].name.toList == nm.toList) = false) := hja
            clear hja
            have hk6 := HK5.out.below hbz
            have e0 := hk6.cell 0
            have e2 := hk6.cell 2
            simp at e0 e2
            by_cases hjn : j < ns.length
            · have hjn' : (j : Int) < (ns.length : Int) := by omega
              obtain ⟨b4, o4, rfl, hb4B, hc4⟩ := HQ.out (by omega)
              obtain ⟨y1, _, _⟩ := hc4 j hjn
              have hb5 : Below w.heap.size w wr := good_below (good_below hb hb4) hbz
              have f1 := (hb5.cell (p := ⟨b4, o4 + j * 3, none⟩) (hS _ hb4B)).trans y1
              obtain ⟨z, hz⟩ : ∃ z, ns[j].name = z := ⟨_, rfl⟩
              rw [hz] at f1
              have HZ : Hid (ns[j].name = z) := hz
              clear hz y1 hc4
              cases hcmp : z.toList == nm.toList
              · go_wp2_with fail
                go_quiet (fail)
                go_wp2_with fail
                refine ⟨⟨j + 1, rfl, by omega, fun i hi hij => ?_, bel_drewN hbz _⟩, by simp [intOf]; omega⟩
                by_cases hij2 : i < j
                · exact HJA.out i hi hij2
                · obtain rfl : i = j := by omega
                  rw [HZ.out]; exact hcmp
              · go_wp2_with fail
                go_quiet (fail)
                go_wp2_with fail
                go_ret
                refine ⟨?_, bel_drewN hb5 _⟩
                rw [HBAD.out (rel_need _ _ _ hjn (by dsimp only; rw [HZ.out]; exact hcmp))]
                rfl
            · have hjn' : ¬ ((j : Int) < (ns.length : Int)) := by omega
              have hno : ∀ x ∈ ns, (x.name.toList == nm.toList) = false := fun x hx => by
                obtain ⟨i, hi, rfl⟩ := List.getElem_of_mem hx
                exact HJA.out i hi (by omega)
              have HNO : Hid (∀ x ∈ ns, (x.name.toList == nm.toList) = false) := hno
              have hb6 : Below w.heap.size w wr := good_below (good_below hb hb4) hbz
              have HK7 : Hid (Blk wr _ 36 #[.string nm, .int .i64 ve, .slice a4 ns.length c4]) := hk6
              clear hno hk6
              go_wp2_with fail
              go_loopw [6] (fun i6 wz => ∃ j : Nat, i6 = .int .i64 (j : Int) ∧ j ≤ k ∧ (∀ i (hi : i < l.length), i < j → (l[i].name.toList == nm.toList && l[i].ver == ve) = false) ∧ Below wr.heap.size wr wz) (fun i6 _ => k - (intOf i6).toNat)
              case atStart => exact ⟨0, rfl, by omega, fun i _ h => by omega, Below.refl _ _⟩
              case round =>
                obtain ⟨m, rfl, hm, hma, hbm⟩ := hrel
                have HMA : Hid (∀ i (hi : i < l.length), i < m → (l[i].name.toList == nm.toList && l[i].ver == ve) = false) := hma
                clear hma
                have hk8 := HK7.out.below hbm
                have g0 := hk8.cell 0
                have g1 := hk8.cell 1
                simp at g0 g1
                have hb7 : Below w.heap.size w wr := good_below hb6 hbm
                by_cases hmk : m < k
                · have hmk' : (m : Int) < (k : Int) := by omega
                  have hml : m < l.length := by omega
                  have hml' : (m : Int) < (l.length : Int) := by omega
                  obtain ⟨y1, y2, _, _, _⟩ := HCELL.out m hml
                  have f1 := (hb7.cell (p := ⟨b, off + m * 3, none⟩) hbw).trans y1
                  have f2 := (hb7.cell (p := ⟨b, off + m * 3 + 1, none⟩) hbw).trans y2
                  obtain ⟨zn, hzn⟩ : ∃ z, l[m].name = z := ⟨_, rfl⟩
                  obtain ⟨zv, hzv⟩ : ∃ z, l[m].ver = z := ⟨_, rfl⟩
                  rw [hzn] at f1
                  rw [hzv] at f2
                  have HZN : Hid (l[m].name = zn) := hzn
                  have HZV : Hid (l[m].ver = zv) := hzv
                  clear hzn hzv y1 y2
                  cases hcn : zn.toList == nm.toList
                  · go_wp2_with fail
                    go_quiet (fail)
                    go_wp2_with fail
                    refine ⟨⟨m + 1, rfl, by omega, fun i hi him => ?_, bel_drewN hbm _⟩, by simp [intOf]; omega⟩
                    by_cases him2 : i < m
                    · exact HMA.out i hi him2
                    · obtain rfl : i = m := by omega
                      rw [HZN.out, hcn]; rfl
                  · cases hcv : zv == ve
                    · go_wp2_with fail
                      go_quiet (fail)
                      go_wp2_with fail
                      refine ⟨⟨m + 1, rfl, by omega, fun i hi him => ?_, bel_drewN hbm _⟩, by simp [intOf]; omega⟩
                      by_cases him2 : i < m
                      · exact HMA.out i hi him2
                      · obtain rfl : i = m := by omega
                        rw [HZV.out, hcv]; simp
                    · go_wp2_with fail
                      go_quiet (fail)
                      go_wp2_with fail
                      go_ret
                      refine ⟨?_, bel_drewN hb7 _⟩
                      rw [HBAD.out (rel_twice _ _ () hmk hml (by dsimp only; rw [HZN.out, HZV.out, hcn, hcv]; rfl))]
                      rfl
                · have hmk' : ¬ ((m : Int) < (k : Int)) := by omega
                  go_wp2_with fail
                  refine ⟨⟨k + 1, rfl, by omega, fun i hi hik => ?_, hb7⟩, by simp [intOf]; omega⟩
                  by_cases hik2 : i < k
                  · exact HA.out i hi hik2
                  · obtain rfl : i = k := by omega
                    rw [HXK.out]
                    exact rel_good () () hB1 hv1 hv2 hB2 HNO.out (fun i hi h => HMA.out i hi (by omega))
        · have hbd : storeB nameB l = false := HBAD.out (by
            unfold relB
            dsimp only
            rw [hB1, hB2]
            rcases Bool.eq_false_or_eq_true B1 with rfl | rfl
            · rcases Bool.eq_false_or_eq_true B2 with rfl | rfl
              · have : ¬ (1 ≤ ve ∧ ve ≤ 999999) := fun h => hfirst ⟨rfl, h.1, h.2, rfl⟩
                by_cases h1 : 1 ≤ ve
                · rw [decide_eq_false (show ¬ ve ≤ 999999 by omega)]; simp
                · rw [decide_eq_false h1]; simp
              · simp
            · simp)
          have HBD : Hid (storeB nameB l = false) := hbd
          clear hbd
          cases B1
          · go_wp2_with (go_at_call 58; go_must (refine (cn _).mono ?_; rintro e w1 ⟨rfl, hb1⟩; have hk4 : Blk w1 wr.heap.size 36 #[.string nm, .int .i64 ve, .slice a4 ns.length c4] := Blk.below (heap_alloc_last wr _) hb1; have hb2 : Below wr.heap.size wr w1 := (((Below.refl _ wr).alloc (Nat.le_refl _) _).trans (hb1.mono (by simp))); have e1 := hk4.cell 1; have e2 := hk4.cell 2; simp at e1 e2))
            go_ret
            exact ⟨by rw [HBD.out]; rfl, good_below hb hb2⟩
          · by_cases hv1 : ve < 1
            · go_wp2_with (go_at_call 58; go_must (refine (cn _).mono ?_; rintro e w1 ⟨rfl, hb1⟩; have hk4 : Blk w1 wr.heap.size 36 #[.string nm, .int .i64 ve, .slice a4 ns.length c4] := Blk.below (heap_alloc_last wr _) hb1; have hb2 : Below wr.heap.size wr w1 := (((Below.refl _ wr).alloc (Nat.le_refl _) _).trans (hb1.mono (by simp))); have e1 := hk4.cell 1; have e2 := hk4.cell 2; simp at e1 e2))
              go_ret
              exact ⟨by rw [HBD.out]; rfl, good_below hb hb2⟩
            · by_cases hv2 : 999999 < ve
              · go_wp2_with (go_at_call 58; go_must (refine (cn _).mono ?_; rintro e w1 ⟨rfl, hb1⟩; have hk4 : Blk w1 wr.heap.size 36 #[.string nm, .int .i64 ve, .slice a4 ns.length c4] := Blk.below (heap_alloc_last wr _) hb1; have hb2 : Below wr.heap.size wr w1 := (((Below.refl _ wr).alloc (Nat.le_refl _) _).trans (hb1.mono (by simp))); have e1 := hk4.cell 1; have e2 := hk4.cell 2; simp at e1 e2))
                go_ret
                exact ⟨by rw [HBD.out]; rfl, good_below hb hb2⟩
              · cases B2
                · go_wp2_with (first
                    | (go_at_call 58; go_must (refine (cn _).mono ?_; rintro e w1 ⟨rfl, hb1⟩; have hk4 : Blk w1 wr.heap.size 36 #[.string nm, .int .i64 ve, .slice a4 ns.length c4] := Blk.below (heap_alloc_last wr _) hb1; have hb2 : Below wr.heap.size wr w1 := (((Below.refl _ wr).alloc (Nat.le_refl _) _).trans (hb1.mono (by simp))); have e1 := hk4.cell 1; have e2 := hk4.cell 2; simp at e1 e2))
                    | (go_at_call 35; go_must (refine (cw _ hb2).mono ?_; rintro e w2 ⟨rfl, hb3⟩)))
                  go_ret
                  exact ⟨by rw [HBD.out]; rfl, good_below (good_below hb hb2) hb3⟩
                · exact absurd ⟨rfl, by omega, by omega, rfl⟩ hfirst
      · have hkn' : ¬ ((k : Int) < (l.length : Int)) := by omega
        go_wp2_with fail
        go_ret
        exact ⟨by rw [store_good (by omega) (fun i hi => HA.out i hi (by omega))]; rfl, hb⟩
end Go.Proofs.YteokcdobapkkhaaGreatDoor

namespace Go.Proofs.YteokcdobapkkhaaGreatDoor
open Go.ChangeShapes Go.WideShapes Go.ChangeAt Go.RowKit
set_option linter.unusedVariables false

section
variable {H : Type} {enc : TypeId × Value → H} {w : World} {base : Nat} {spare : Nat → Bool} {held : Bool}
set_option maxRecDepth 100000 in
theorem open_rows3 {t e : TypeId} {f0 f1 f2 : Field} {fuel : Nat} {cs : List Value} {x : DataW H × List MemPlace} (ht : Tryz.prog.underlying t = some (.slice e)) (he : Tryz.prog.underlying e = some (.struct #[f0, f1, f2]))
    (ce : Tryz.prog.cellsOf e = 3) (o0 : f0.offset = 0) (o1 : f1.offset = 1) (o2 : f2.offset = 2) (c0 : Tryz.prog.cellsOf f0.type = 1) (c1 : Tryz.prog.cellsOf f1.type = 1) (c2 : Tryz.prog.cellsOf f2.type = 1)
    (h : DataW.trod enc Tryz.prog w base spare held fuel t cs = some x) :
    ∃ (a : Option Addr) (len cap n : Nat), cs = [.slice a len cap] ∧ len ≤ maxLen ∧ ((a = none ∧ len = 0 ∧ cap = 0) ∨ ∃ a', a = some a') ∧
      ∀ i, i < len → ∃ b off, a = some ⟨b, off, none⟩ ∧ b < w.heap.size ∧ ∃ v0 v1 v2 y0 y1 y2, w.cell? ⟨b, off + i * 3, none⟩ = some v0 ∧ w.cell? ⟨b, off + i * 3 + 1, none⟩ = some v1 ∧ w.cell? ⟨b, off + i * 3 + 2, none⟩ = some v2 ∧
        DataW.trod enc Tryz.prog w base spare held n f0.type [v0] = some y0 ∧ DataW.trod enc Tryz.prog w base spare held n f1.type [v1] = some y1 ∧ DataW.trod enc Tryz.prog w base spare held n f2.type [v2] = some y2 := by
  rcases Deep.open_slice ht h with ⟨rfl, _⟩ | ⟨a, len, cap, m, n, D, Pl, rfl, hb, hl, hm, hmm, rfl, hx⟩
  · exact ⟨none, 0, 0, 0, rfl, Nat.zero_le _, .inl ⟨rfl, rfl, rfl⟩, fun i hi => by omega⟩
  have hlm : len ≤ m := by rw [hmm]; split <;> omega
  refine ⟨some a, len, cap, n - 1, rfl, by omega, .inr ⟨a, rfl⟩, fun i hi => ?_⟩
  obtain ⟨cs', h1, h2⟩ := hx i (by omega)
  rw [ce] at h1
  obtain ⟨_, hlen, hcell⟩ := World.cells?_some h1
  obtain ⟨xs, k, hk, hxy, _, hxl, hf⟩ := DataW.trod_struct he h2
  have hk' : k = n - 1 := by omega
  subst hk'
  match xs, hxl, cs', hlen with
  | [y0, y1, y2], _, [v0, v1, v2], _ =>
    have g0 := hf 0 f0 rfl
    have g1 := hf 1 f1 rfl
    have g2 := hf 2 f2 rfl
    simp [o0, o1, o2, c0, c1, c2] at g0 g1 g2
    have e0 := hcell 0 (by omega)
    have e1 := hcell 1 (by omega)
    have e2 := hcell 2 (by omega)
    simp only [List.getElem?_cons_zero, List.getElem?_cons_succ] at e0 e1 e2
    have hsp : a.spot = none := by
      obtain ⟨cs0, h10, _⟩ := hx 0 (by omega)
      rw [ce] at h10
      obtain ⟨_, hlen0, hcell0⟩ := World.cells?_some h10
      have e00 := hcell0 0 (by omega)
      rw [List.getElem?_eq_getElem (by omega)] at e00
      have := World.cell?_spot e00
      simpa [Addr.add] using this
    obtain ⟨b, off, spot⟩ := a
    have hspot : spot = none := hsp
    subst hspot
    simp only [add_plain] at e0 e1 e2
    refine ⟨b, off, rfl, ?_, v0, v1, v2, y0, y1, y2, by simpa using e0, by simpa using e1, by simpa using e2, g0, g1, g2⟩
    cases hh : w.heap[b]? with
    | none => simp [World.cell?, hh] at e0
    | some o => exact (Array.getElem?_eq_some_iff.1 hh).1

/-- From a family of things, one for each place, to a list. -/
theorem list_of {α : Type} (n : Nat) (R : Nat → α → Prop) (h : ∀ i, i < n → ∃ x, R i x) : ∃ l : List α, l.length = n ∧ ∀ i (hi : i < l.length), R i l[i] := by
  induction n with
  | zero => exact ⟨[], rfl, fun i hi => by simp at hi⟩
  | succ n ih =>
    obtain ⟨l, hl, hr⟩ := ih (fun i hi => h i (by omega))
    obtain ⟨x, hx⟩ := h n (by omega)
    refine ⟨l ++ [x], by simp [hl], fun i hi => ?_⟩
    by_cases hin : i < l.length
    · rw [List.getElem_append_left hin]; exact hr i hin
    · have : i = l.length := by simp at hi; omega
      subst this
      simp
      rw [hl]; exact hx

end
end Go.Proofs.YteokcdobapkkhaaGreatDoor

namespace Go.Proofs.YteokcdobapkkhaaGreatDoor
open Go.ChangeShapes Go.WideShapes Go.ChangeAt Go.RowKit
set_option linter.unusedVariables false

/-- What impl.StoreOK answers, whatever it is. -/
def ImplStore (T : World → Prop) (nameB : ByteArray → Bool) : Prop := ∀ (S : Nat → Prop) (l : List Rel) (v : Value) (w : World), (∀ b, S b → b < w.heap.size) → RelsAt S w v l → l.length ≤ 1048576 → (∀ x ∈ l, RelOK 1048576 x) → T w → Calls Tryz.prog 39 #[v] w fun e w' => e = .returned (.bool (storeB nameB l)) ∧ Below w.heap.size w w'
theorem RelsAt.shape {S : Nat → Prop} {w : World} {v : Value} {l : List Rel} (h : RelsAt S w v l) : ∃ a c, v = .slice a l.length c := by
  obtain ⟨_, a, c, hv, _⟩ := h
  exact ⟨a, c, hv⟩

end Go.Proofs.YteokcdobapkkhaaGreatDoor

namespace Go.Proofs.YteokcdobapkkhaaGreatDoor
open Go.RowKit
section
variable {P : Program}

def bv (b : UInt8) : Value := .int .u8 (b.toNat : Int)
/-- The slice v owns, among the blocks from B on, just the bytes l. -/
def OwnB (B : Nat) (w : World) (v : Value) (l : List UInt8) : Prop := w.ownsRow B 5 1 v l.length (l.map bv)

theorem OwnB.below {B : Nat} {w w' : World} {v : Value} {l : List UInt8} (h : OwnB B w v l) (hb : Below w.heap.size w w') : OwnB B w' v l := by
  obtain ⟨hl, h⟩ := h
  refine ⟨hl, ?_⟩
  rcases h with h | ⟨g, cap, cur, hv, hB, hg, h1, h2, h3, h4⟩
  · exact .inl h
  · refine .inr ⟨g, cap, cur, hv, hB, ?_, h1, h2, h3, h4⟩
    rw [hb.block g (Array.getElem?_eq_some_iff.1 hg).1]; exact hg

theorem OwnB.block {B : Nat} {w : World} {v : Value} {l : List UInt8} (h : OwnB B w v l) : ∀ k, v.ownBlock = some k → B ≤ k := by
  intro k hk
  rcases h.2 with ⟨rfl, _⟩ | ⟨g, cap, cur, rfl, hB, _⟩
  · simp [Value.ownBlock] at hk
  · simp [Value.ownBlock] at hk; omega

/-- Its cells, where it has some. -/
theorem OwnB.value {B : Nat} {w : World} {v : Value} {l : List UInt8} (h : OwnB B w v l) :
    (v = .slice none 0 0 ∧ l = []) ∨ ∃ g cap, v = .slice (some ⟨g, 0, none⟩) l.length cap ∧ ∀ j (hj : j < l.length), w.cell? ⟨g, j, none⟩ = some (bv l[j]) := by
  rcases h.2 with ⟨rfl, h0⟩ | ⟨g, cap, cur, rfl, hB, hg, h1, h2, h3, h4⟩
  · exact .inl ⟨rfl, List.eq_nil_of_length_eq_zero h0⟩
  · refine .inr ⟨g, cap, rfl, fun j hj => ?_⟩
    simp only [World.cell?, hg]
    have h5 := congrArg (·[j]?) h4
    simp only [Nat.mul_one, List.getElem?_take, hj, if_true, List.getElem?_map, List.getElem?_eq_getElem hj, Option.map_some] at h5
    simpa using h5

theorem wpList_appendB {ops : Array Oper} {rest : List Oper} {o : Oper} {a : Act} {w : World} {Q : Exit → Act → World → Prop} (hgd : o.guard = none) (s x : Operand) (t : TypeId)
    (ho : o.op = .call { callee := .builtin .append, args := #[s, x], argTypes := #[t, t] })
    (ht : P.underlying t = some (.slice 5)) (hi : (P.info? 5).map (fun i => (i.zero, i.size, i.bytes)) = some (some (.int .u8 0), 1, 1))
    (B : Nat) (v : Value) (l : List UInt8) (hs : a.eval s = v) (hown : OwnB B w v l)
    (ad : Addr) (m c : Nat) (news : List UInt8) (hx : a.eval x = .slice (some ad) m c) (hl : news.length = m) (hnews : ∀ j (h : j < news.length), w.cell? (ad.add j) = some (bv news[j]))
    (hsz : l.length + news.length ≤ 10000000) (hB : B ≤ w.heap.size)
    (h : ∀ v' w', OwnB B w' v' (l ++ news) → Below B w w' → w.grownBy w' v.ownBlock → wpList P ops Q rest (a.put o.dst v') w') : wpList P ops Q (o :: rest) a w := by
  obtain ⟨i, hii, hz0, hz1, hz2⟩ := info_parts hi
  refine wpList_append_own w hgd s x t ho B 5 i (.int .u8 0) 1 1 ht hii hz0 hz1 hz2 rfl (by decide) v l.length (l.map bv) hs hown ad m c (news.map bv) hx (by simp [hl]) ?_ ?_ ?_ ?_ hB ?_
  · intro j u hj
    simp only [List.getElem?_map, Option.map_eq_some_iff] at hj
    obtain ⟨b, hb, rfl⟩ := hj
    obtain ⟨hj', rfl⟩ := List.getElem?_eq_some_iff.1 hb
    exact hnews j hj'
  · intro u hu
    obtain ⟨b, _, rfl⟩ := List.mem_map.1 hu
    rfl
  · unfold maxLen; omega
  · omega
  · intro v' w' h1 h2 h3
    refine h v' w' ?_ ((Below.refl _ w).grown h2 hB (OwnB.block hown)) h2
    unfold OwnB
    rw [List.map_append, List.length_append, hl]
    exact h1

/-- []byte(s) of a string: a new row. -/
theorem wpList_bytesOf {ops : Array Oper} {rest : List Oper} {o : Oper} {a : Act} {w : World} {Q : Exit → Act → World → Prop} (hgd : o.guard = none) (src t : TypeId) (x : Operand)
    (ho : o.op = .convert src t x) (hs : P.underlying src = some .string) (ht : P.underlying t = some (.slice 5)) (he : P.underlying 5 = some (.int .u8))
    (s : ByteArray) (hx : a.eval x = .string s)
    (h : ∀ cap, wpList P ops Q rest (a.put o.dst (.slice (some ⟨w.heap.size, 0, none⟩) s.size cap)) (Lib.bytesWorld w 5 s)) : wpList P ops Q (o :: rest) a w := by
  refine wpList_plain hgd fun _ hK => ?_
  unfold Oper.wp execOp
  simp only [ho, hx, Sem.run_bind, Lib.run_convert_string_bytes w src t 5 s hs ht he, Result.andThen_ok]
  exact hK _ _ (h _)

theorem bytesWorld_below (w : World) (s : ByteArray) : Below w.heap.size w (Lib.bytesWorld w 5 s) :=
  ⟨by simp [Lib.bytesWorld, World.freeze]; rfl, by simp [Lib.bytesWorld, World.freeze], by simp [Lib.bytesWorld, World.freeze]; rfl, by rw [Lib.bytesWorld_size]; omega, fun k hk => Lib.bytesWorld_at_old w 5 s k hk⟩

/-- string(b) of a row that the call owns. -/
theorem wpList_stringOf {ops : Array Oper} {rest : List Oper} {o : Oper} {a : Act} {w : World} {Q : Exit → Act → World → Prop} (hgd : o.guard = none) (t dst : TypeId) (x : Operand)
    (ho : o.op = .convert t dst x) (hd : P.underlying dst = some .string) (ht : P.underlying t = some (.slice 5)) (he : P.underlying 5 = some (.int .u8))
    (B : Nat) (v : Value) (l : List UInt8) (hx : a.eval x = v) (hown : OwnB B w v l)
    (h : wpList P ops Q rest (a.put o.dst (.string ⟨l.toArray⟩)) w) : wpList P ops Q (o :: rest) a w := by
  refine wpList_plain hgd fun _ hK => ?_
  unfold Oper.wp execOp
  have hrun : (convert t dst v).run P w = .ok (.string ⟨l.toArray⟩) w := by
    rcases hown.value with ⟨rfl, rfl⟩ | ⟨g, cap, rfl, hc⟩
    · exact run_convert_bytes_nil w t 5 ht he 0 0 dst hd
    · refine run_convert_bytes_back w t dst 5 ⟨g, 0, none⟩ cap l ht he hd fun j hj => ?_
      have hadd : (⟨g, 0, none⟩ : Addr).add j = ⟨g, j, none⟩ := by unfold Addr.add; split <;> simp_all
      rw [hadd]; exact hc j hj
  simp only [ho, hx, Sem.run_bind, hrun, Result.andThen_ok]
  exact hK _ _ h
end
end Go.Proofs.YteokcdobapkkhaaGreatDoor

namespace Go.Proofs.YteokcdobapkkhaaGreatDoor
open Go.ChangeShapes Go.WideShapes Go.ChangeAt Go.RowKit
set_option linter.unusedVariables false

/-- Of the blocks that were there, only some of S have turned. -/
structure OutS (S : Nat → Prop) (w w' : World) : Prop where
  os : w'.os = w.os
  tape : w'.tape = w.tape
  output : w'.output = w.output
  size : w.heap.size ≤ w'.heap.size
  block : ∀ k, k < w.heap.size → ¬ S k → w'.heap[k]? = w.heap[k]?
theorem OutS.refl (S : Nat → Prop) (w : World) : OutS S w w := ⟨rfl, rfl, rfl, Nat.le_refl _, fun _ _ _ => rfl⟩
theorem OutS.trans {S : Nat → Prop} {a b c : World} (h : OutS S a b) (k : OutS S b c) : OutS S a c :=
  ⟨k.os.trans h.os, k.tape.trans h.tape, k.output.trans h.output, Nat.le_trans h.size k.size, fun i hi hs => (k.block i (Nat.lt_of_lt_of_le hi h.size) hs).trans (h.block i hi hs)⟩
theorem OutS.mono {S S' : Nat → Prop} {a b : World} (h : OutS S a b) (hS : ∀ k, S k → S' k) : OutS S' a b :=
  ⟨h.os, h.tape, h.output, h.size, fun i hi hs => h.block i hi (fun h => hs (hS i h))⟩
theorem OutS.of {S : Nat → Prop} {a b : World} (h : Below a.heap.size a b) : OutS S a b := ⟨h.os, h.tape, h.output, h.size, fun i hi _ => h.block i hi⟩
theorem OutS.set {S : Nat → Prop} {a b : World} (h : OutS S a b) {g i : Nat} (hg : S g) (v : Value) : OutS S a (b.setCell ⟨g, i, none⟩ v) :=
  ⟨h.os, h.tape, h.output, by rw [World.size_setCell]; exact h.size, fun k hk hs => by rw [Below.heap_setCell _ _ _ _ (fun e => hs (by rw [e]; exact hg))]; exact h.block k hk hs⟩
theorem OutS.below {S : Nat → Prop} {a b : World} {B : Nat} (h : OutS S a b) (hS : ∀ k, S k → B ≤ k) (hB : B ≤ a.heap.size) : Below B a b :=
  ⟨h.os, h.tape, h.output, h.size, fun k hk => h.block k (by omega) (fun hs => by have := hS k hs; omega)⟩

/-- The block of a slice. -/
def BlkOf (v : Value) (b : Nat) : Prop := ∃ n c, v = .slice (some ⟨b, 0, none⟩) n c
theorem BlkOf.mk {b n c : Nat} : BlkOf (.slice (some ⟨b, 0, none⟩) n c) b := ⟨n, c, rfl⟩
theorem BlkOf.eq {g b n c : Nat} (h : BlkOf (.slice (some ⟨g, 0, none⟩) n c) b) : b = g := by
  obtain ⟨_, _, h⟩ := h
  injection h with h
  injection h with h
  injection h with h
  exact h.symm

/-- The digits of k ahead of acc. -/
def digs (k : Nat) (acc : List UInt8) : List UInt8 := if h : k = 0 then acc else digs (k / 10) (UInt8.ofNat (48 + k % 10) :: acc)
termination_by k
decreasing_by omega

theorem digs_zero (acc : List UInt8) : digs 0 acc = acc := by unfold digs; simp
theorem digs_pos {k : Nat} (h : k ≠ 0) (acc : List UInt8) : digs k acc = digs (k / 10) (UInt8.ofNat (48 + k % 10) :: acc) := by
  conv => lhs; unfold digs
  rw [dif_neg h]

/-- markText's text. -/
def markOf (k : Nat) : ByteArray := ⟨(109 :: digs k []).toArray⟩

/-- The slice's n texts are marked from s on. -/
def MarkedS (w : World) (v : Value) (n s : Nat) : Prop := (v = .slice none 0 0 ∧ n = 0) ∨ ∃ g cap cur, v = .slice (some ⟨g, 0, none⟩) n cap ∧ Blk w g 9 cur ∧ ∀ i, i < n → cur[i]? = some (.string (markOf (s + i)))
theorem MarkedS.below {w w' : World} {v : Value} {n s : Nat} (h : MarkedS w v n s) (hb : Below w.heap.size w w') : MarkedS w' v n s := by
  rcases h with h | ⟨g, cap, cur, h1, h2, h3⟩
  · exact .inl h
  · exact .inr ⟨g, cap, cur, h1, h2.below hb, h3⟩

end Go.Proofs.YteokcdobapkkhaaGreatDoor

namespace Go.Proofs.YteokcdobapkkhaaGreatDoor
open Go.ChangeShapes Go.WideShapes Go.ChangeAt Go.RowKit
set_option linter.unusedVariables false


/-- A pick as plain data. -/
structure Pk where
  name : ByteArray
  ver : Int
def Pk.cells (p : Pk) : List Value := [.string p.name, .int .i64 p.ver]
def pkCells (l : List Pk) : List Value := l.flatMap Pk.cells
theorem pkCells_length (l : List Pk) : (pkCells l).length = l.length * 2 := by
  induction l with
  | nil => rfl
  | cons a t ih => simp only [pkCells, List.flatMap_cons, List.length_append, List.length_cons] at ih ⊢; rw [ih]; simp [Pk.cells]; omega
theorem pkCells_at (l : List Pk) (k : Nat) (hk : k < l.length) : (pkCells l)[k * 2]? = some (.string l[k].name) ∧ (pkCells l)[k * 2 + 1]? = some (.int .i64 l[k].ver) := by
  induction l generalizing k with
  | nil => simp at hk
  | cons a t ih =>
    have hc : pkCells (a :: t) = Pk.cells a ++ pkCells t := by simp [pkCells]
    rw [hc]
    cases k with
    | zero => simp [Pk.cells]
    | succ k =>
      rw [List.getElem?_append_right (by simp [Pk.cells]; omega), List.getElem?_append_right (by simp [Pk.cells]; omega)]
      have e1 : (k + 1) * 2 - (Pk.cells a).length = k * 2 := by simp [Pk.cells]; omega
      have e2 : (k + 1) * 2 + 1 - (Pk.cells a).length = k * 2 + 1 := by simp [Pk.cells]; omega
      rw [e1, e2]
      simpa using ih k (by simpa using hk)
def OwnP (B : Nat) (w : World) (v : Value) (l : List Pk) : Prop := w.ownsRow B 41 2 v l.length (pkCells l)
theorem OwnP.below {B : Nat} {w w' : World} {v : Value} {l : List Pk} (h : OwnP B w v l) (hb : Below w.heap.size w w') : OwnP B w' v l := by
  obtain ⟨hl, h⟩ := h
  refine ⟨hl, ?_⟩
  rcases h with h | ⟨g, cap, cur, hv, hB, hg, h1, h2, h3, h4⟩
  · exact .inl h
  · refine .inr ⟨g, cap, cur, hv, hB, ?_, h1, h2, h3, h4⟩
    rw [hb.block g (Array.getElem?_eq_some_iff.1 hg).1]; exact hg
theorem OwnP.value {B : Nat} {w : World} {v : Value} {l : List Pk} (h : OwnP B w v l) :
    ∃ a cap, v = .slice a l.length cap ∧ (0 < l.length → ∃ g, a = some ⟨g, 0, none⟩ ∧ ∀ j (hj : j < l.length), w.cell? ⟨g, j * 2, none⟩ = some (.string l[j].name) ∧ w.cell? ⟨g, j * 2 + 1, none⟩ = some (.int .i64 l[j].ver)) := by
  rcases h.2 with ⟨rfl, h0⟩ | ⟨g, cap, cur, rfl, hB, hg, h1, h2, h3, h4⟩
  · exact ⟨none, 0, by rw [h0], fun h => by omega⟩
  · refine ⟨_, cap, rfl, fun _ => ⟨g, rfl, fun j hj => ?_⟩⟩
    simp only [World.cell?, hg]
    have h5 := pkCells_at l j hj
    rw [← h4, List.getElem?_take, List.getElem?_take, if_pos (by omega), if_pos (by omega)] at h5
    simpa using h5

/-- The slice's n picks are marked from s on. -/
def MarkP (cur : Array Value) (n s : Nat) : Prop := ∀ i, i < n → cur[i * 2]? = some (.string (markOf (s + 2 * i))) ∧ cur[i * 2 + 1]? = some (.int .i64 ((s + 2 * i + 1 : Nat) : Int))
def MarkedP (w : World) (v : Value) (n s : Nat) : Prop := (v = .slice none 0 0 ∧ n = 0) ∨ ∃ g cap cur, v = .slice (some ⟨g, 0, none⟩) n cap ∧ Blk w g 41 cur ∧ MarkP cur n s
theorem MarkedP.below {w w' : World} {v : Value} {n s : Nat} (h : MarkedP w v n s) (hb : Below w.heap.size w w') : MarkedP w' v n s := by
  rcases h with h | ⟨g, cap, cur, h1, h2, h3⟩
  · exact .inl h
  · exact .inr ⟨g, cap, cur, h1, h2.below hb, h3⟩
theorem MarkP.step {cur : Array Value} {k s : Nat} (h : MarkP cur k s) (hc : k * 2 + 1 < cur.size) :
    MarkP ((cur.setIfInBounds (k * 2) (.string (markOf (s + 2 * k)))).setIfInBounds (k * 2 + 1) (.int .i64 ((s : Int) + 2 * (k : Int) + 1))) (k + 1) s := by
  intro i hi
  simp only [Array.getElem?_setIfInBounds, Array.size_setIfInBounds]
  by_cases hik : i = k
  · subst hik
    refine ⟨?_, ?_⟩
    · rw [if_neg (by omega), if_pos rfl, if_pos (by omega)]
    · rw [if_pos rfl, if_pos (by omega)]
      congr 2
  · have := h i (by omega)
    rw [if_neg (by omega), if_neg (by omega), if_neg (by omega), if_neg (by omega)]
    exact this

end Go.Proofs.YteokcdobapkkhaaGreatDoor

namespace Go.Proofs.YteokcdobapkkhaaGreatDoor
open Go.ChangeShapes Go.WideShapes Go.ChangeAt Go.RowKit
set_option linter.unusedVariables false

/-- A row of n needs, whatever they are, in the block g of its own. -/
def ShI (w : World) (g : Nat) (v : Value) (n : Nat) : Prop := v = .slice (some ⟨g, 0, none⟩) n n ∧ ∃ cur, Blk w g 34 cur ∧ cur.size = n * 3
theorem ShI.keep {w w' : World} {g : Nat} {v : Value} {n : Nat} (h : ShI w g v n) (hk : w'.heap[g]? = w.heap[g]?) : ShI w' g v n := by
  obtain ⟨h1, cur, h2, h3⟩ := h
  exact ⟨h1, cur, by unfold Blk at *; rw [hk]; exact h2, h3⟩
theorem RowI.sh {w : World} {g : Nat} {v : Value} {l : List Imp} (h : RowI w g v l) : ShI w g v l.length := by
  obtain ⟨_, h1, cur, h2, h3, _⟩ := h
  exact ⟨h1, cur, h2, h3⟩

/-- The needs of a row of releases, whatever they are, lie each in a block between L and U. -/
def ShC (L U : Nat) (w : World) (cur : Array Value) (ms : List Nat) : Prop := ∀ i (h : i < ms.length), ∃ nv g, cur[i * 3 + 2]? = some nv ∧ L < g ∧ g < U ∧ ShI w g nv ms[i]
theorem ShC.keep {L U : Nat} {w w' : World} {cur : Array Value} {ms : List Nat} (h : ShC L U w cur ms) (hk : ∀ b, L < b → b < U → w'.heap[b]? = w.heap[b]?) : ShC L U w' cur ms := by
  intro i hi
  obtain ⟨nv, g, h1, h2, h3, h4⟩ := h i hi
  exact ⟨nv, g, h1, h2, h3, h4.keep (hk g h2 h3)⟩
theorem ShC.set {L U : Nat} {w : World} {cur : Array Value} {ms : List Nat} (h : ShC L U w cur ms) (k j : Nat) (hj : j < 2) (v : Value) : ShC L U w (cur.setIfInBounds (k * 3 + j) v) ms := by
  intro i hi
  obtain ⟨nv, g, h1, h2⟩ := h i hi
  refine ⟨nv, g, ?_, h2⟩
  rw [Array.getElem?_setIfInBounds, if_neg (by omega)]
  exact h1
theorem ShC.mark {L U : Nat} {w w' : World} {cur : Array Value} {ms : List Nat} (h : ShC L U w cur ms) {g n : Nat} {v : Value} (hg : ShI w g v n) (hU : U ≤ w.heap.size) (ho : OutS (fun b => b = g) w w') (hn : ∃ cur, Blk w' g 34 cur ∧ cur.size = n * 3) : ShC L U w' cur ms := by
  intro i hi
  obtain ⟨nv, g', h1, h2, h3, h4⟩ := h i hi
  refine ⟨nv, g', h1, h2, h3, ?_⟩
  by_cases he : g' = g
  · subst he
    obtain ⟨hv, c1, hb1, hs1⟩ := h4
    obtain ⟨_, c2, hb2, hs2⟩ := hg
    obtain ⟨c3, hb3, hs3⟩ := hn
    refine ⟨hv, c3, hb3, ?_⟩
    unfold Blk at hb1 hb2
    rw [hb1] at hb2
    simp at hb2
    rw [hs3, ← hs2, ← hb2, hs1]
  · exact h4.keep (ho.block g' (by omega) he)
/-- A row of releases, whatever they are, in the block L of its own. -/
def ShR (L U : Nat) (w : World) (v : Value) (ms : List Nat) : Prop := v = .slice (some ⟨L, 0, none⟩) ms.length ms.length ∧ ∃ cur, Blk w L 36 cur ∧ cur.size = ms.length * 3 ∧ ShC L U w cur ms
theorem RowR.sh {L U : Nat} {w : World} {v : Value} {l : List Rel} (h : RowR L U w v l) : ShR L U w v (l.map fun x => x.needs.length) := by
  obtain ⟨_, h1, cur, h2, h3, h4⟩ := h
  refine ⟨by simpa using h1, cur, h2, by simpa using h3, fun i hi => ?_⟩
  simp at hi
  obtain ⟨c1, c2, nv, g, c3, c4, c5, c6⟩ := h4 i hi hi
  exact ⟨nv, g, c3, c4, c5, by simpa using c6.sh⟩

end Go.Proofs.YteokcdobapkkhaaGreatDoor

namespace Go.Proofs.YteokcdobapkkhaaGreatDoor
open Go.ChangeShapes Go.WideShapes Go.ChangeAt Go.RowKit
set_option linter.unusedVariables false

theorem OwnP.out {B : Nat} {S : Nat → Prop} {w w' : World} {v : Value} {l : List Pk} (h : OwnP B w v l) (ho : OutS S w w') (hS : ∀ b, S b → b < B) : OwnP B w' v l := by
  obtain ⟨hl, h⟩ := h
  refine ⟨hl, ?_⟩
  rcases h with h | ⟨g, cap, cur, hv, hB, hg, h1⟩
  · exact .inl h
  · refine .inr ⟨g, cap, cur, hv, hB, ?_, h1⟩
    rw [ho.block g (Array.getElem?_eq_some_iff.1 hg).1 (fun hs => by have := hS g hs; omega)]; exact hg
theorem OwnS.out {B : Nat} {S : Nat → Prop} {w w' : World} {v : Value} {l : List ByteArray} (h : OwnS B w v l) (ho : OutS S w w') (hS : ∀ b, S b → b < B) : OwnS B w' v l := by
  obtain ⟨hl, h⟩ := h
  refine ⟨hl, ?_⟩
  rcases h with h | ⟨g, cap, cur, hv, hB, hg, h1⟩
  · exact .inl h
  · refine .inr ⟨g, cap, cur, hv, hB, ?_, h1⟩
    rw [ho.block g (Array.getElem?_eq_some_iff.1 hg).1 (fun hs => by have := hS g hs; omega)]; exact hg
theorem OwnP.blk {B b : Nat} {w : World} {v : Value} {l : List Pk} (h : OwnP B w v l) (hb : BlkOf v b) : B ≤ b := by
  rcases h.2 with ⟨rfl, _⟩ | ⟨g, cap, cur, rfl, hB, _⟩
  · obtain ⟨_, _, h⟩ := hb; simp at h
  · rw [hb.eq]; exact hB
theorem OwnS.blk {B b : Nat} {w : World} {v : Value} {l : List ByteArray} (h : OwnS B w v l) (hb : BlkOf v b) : B ≤ b := by
  rcases h.2 with ⟨rfl, _⟩ | ⟨g, cap, cur, rfl, hB, _⟩
  · obtain ⟨_, _, h⟩ := hb; simp at h
  · rw [hb.eq]; exact hB
theorem OwnS.other {B B' : Nat} {w w' : World} {v p : Value} {l : List ByteArray} {P : List Pk} (h : OwnS B w v l) (hp : OwnP B' w p P) (ho : OutS (BlkOf p) w w') : OwnS B w' v l := by
  obtain ⟨hl, h⟩ := h
  refine ⟨hl, ?_⟩
  rcases h with h | ⟨g, cap, cur, hv, hB, hg, h1⟩
  · exact .inl h
  · refine .inr ⟨g, cap, cur, hv, hB, ?_, h1⟩
    rw [ho.block g (Array.getElem?_eq_some_iff.1 hg).1 (fun hs => ?_)]
    · exact hg
    · rcases hp.2 with ⟨rfl, _⟩ | ⟨g', cap', cur', rfl, hB', hg', _⟩
      · obtain ⟨_, _, h⟩ := hs; simp at h
      · rw [← hs.eq, hg] at hg'
        simp at hg'
theorem MarkedP.other {B n s : Nat} {w w' : World} {p q : Value} {l : List ByteArray} (h : MarkedP w p n s) (hq : OwnS B w q l) (ho : OutS (BlkOf q) w w') : MarkedP w' p n s := by
  rcases h with h | ⟨g, cap, cur, h1, h2, h3⟩
  · exact .inl h
  · refine .inr ⟨g, cap, cur, h1, ?_, h3⟩
    unfold Blk at h2 ⊢
    rw [ho.block g (Array.getElem?_eq_some_iff.1 h2).1 (fun hs => ?_)]
    · exact h2
    · rcases hq.2 with ⟨rfl, _⟩ | ⟨g', cap', cur', rfl, hB', hg', _⟩
      · obtain ⟨_, _, h⟩ := hs; simp at h
      · rw [← hs.eq, h2] at hg'
        simp at hg'

/-- Two copies, one made behind the other. -/
theorem two_at {W w3 w4 : World} {x y : Value} {l : List Rel} {ws : List Imp} (h3 : RowR W.heap.size w3.heap.size w3 x l) (hlt : W.heap.size < w3.heap.size) (h4 : RowI w4 w3.heap.size y ws) (hb4 : Below w3.heap.size w3 w4) :
    RelsAt (fun b => W.heap.size ≤ b ∧ b < w4.heap.size) w4 x l ∧ ImpsAt (fun b => W.heap.size ≤ b ∧ b < w4.heap.size) w4 y ws := by
  have hl := h4.lt
  obtain ⟨e1, a, c, e2, e3⟩ := (h3.keep (fun b _ hb => hb4.block b hb) hlt).rels hlt
  refine ⟨⟨e1, a, c, e2, fun h0 => ?_⟩, h4.imps ⟨by omega, hl⟩⟩
  obtain ⟨b, off, f1, f2, f3⟩ := e3 h0
  refine ⟨b, off, f1, ⟨f2.1, by have := f2.2; omega⟩, fun i hi => ?_⟩
  obtain ⟨c1, c2, nv, c3, c4⟩ := f3 i hi
  exact ⟨c1, c2, nv, c3, c4.mono (fun b hb => ⟨hb.1, by have := hb.2; omega⟩)⟩

/-- What a Choose answers, whatever it is. -/
def ChooseC (f : Nat) (T : World → Prop) (C : List Rel → List Imp → List Pk × Int × List ByteArray) : Prop := ∀ (S : Nat → Prop) (l : List Rel) (ws : List Imp) (v u : Value) (w : World), (∀ b, S b → b < w.heap.size) → RelsAt S w v l → ImpsAt S w u ws →
  l.length ≤ 1048576 → (∀ x ∈ l, RelOK 1048576 x) → ws.length ≤ 1048576 → (∀ x ∈ ws, ImpOK 1048576 x) → (∀ W, Below w.heap.size w W → T W) →
  Calls Tryz.prog f #[v, u] w fun e w' => (∃ p q, e = .returned (.tuple #[p, .int .i64 (C l ws).2.1, q]) ∧ OwnP w.heap.size w' p (C l ws).1 ∧ OwnS w.heap.size w' q (C l ws).2.2) ∧ Below w.heap.size w w'
end Go.Proofs.YteokcdobapkkhaaGreatDoor

namespace Go.Proofs.YteokcdobapkkhaaGreatDoor
open Go.ChangeShapes Go.WideShapes Go.ChangeAt Go.RowKit
set_option linter.unusedVariables false

/-- The release k is named as the need, and not below it. -/
def fitsB (m : Imp) (r : Rel) : Bool := r.name.toList == m.name.toList && decide (m.mn ≤ r.ver)
/-- Of the first k releases the one that the need reaches. -/
def reachUp (l : List Rel) (m : Imp) : Nat → Option Nat
  | 0 => none
  | k + 1 => match l[k]? with
    | none => reachUp l m k
    | some r => if fitsB m r then (match reachUp l m k with
        | none => some k
        | some j => match l[j]? with
          | none => some j
          | some q => if r.ver < q.ver then some k else some j) else reachUp l m k
def reachB (l : List Rel) (m : Imp) : Option Nat := reachUp l m l.length
def idxV : Option Nat → Int
  | none => -1
  | some j => (j : Int)
theorem reachUp_lt (l : List Rel) (m : Imp) : ∀ k j, reachUp l m k = some j → j < k ∧ j < l.length := by
  intro k
  induction k with
  | zero => intro j h; simp [reachUp] at h
  | succ k ih =>
    intro j h
    unfold reachUp at h
    cases hk : l[k]? with
    | none => rw [hk] at h; have := ih j h; omega
    | some r =>
      have hkl := (List.getElem?_eq_some_iff.1 hk).1
      rw [hk] at h
      dsimp only at h
      split at h
      · split at h
        · simp at h; omega
        · rename_i j' hj'
          have := ih j' hj'
          split at h
          · simp at h; omega
          · split at h
            · simp at h; omega
            · simp at h; omega
      · have := ih j h; omega
theorem reachUp_no {l : List Rel} {m : Imp} {k : Nat} (hk : k < l.length) (h : fitsB m l[k] = false) : reachUp l m (k + 1) = reachUp l m k := by
  conv => lhs; unfold reachUp
  rw [List.getElem?_eq_getElem hk]
  simp [h]
theorem reachUp_first {l : List Rel} {m : Imp} {k : Nat} (hk : k < l.length) (h : fitsB m l[k] = true) (h0 : reachUp l m k = none) : reachUp l m (k + 1) = some k := by
  conv => lhs; unfold reachUp
  rw [List.getElem?_eq_getElem hk]
  simp [h, h0]
theorem reachUp_less {l : List Rel} {m : Imp} {k j : Nat} (hk : k < l.length) (hj : j < l.length) (h : fitsB m l[k] = true) (h0 : reachUp l m k = some j) (hl : l[k].ver < l[j].ver) : reachUp l m (k + 1) = some k := by
  conv => lhs; unfold reachUp
  rw [List.getElem?_eq_getElem hk]
  simp [h, h0, hj, hl]
theorem reachUp_more {l : List Rel} {m : Imp} {k j : Nat} (hk : k < l.length) (hj : j < l.length) (h : fitsB m l[k] = true) (h0 : reachUp l m k = some j) (hl : ¬ l[k].ver < l[j].ver) : reachUp l m (k + 1) = some j := by
  conv => lhs; unfold reachUp
  rw [List.getElem?_eq_getElem hk]
  simp [h, h0, hj, hl]

set_option maxRecDepth 100000 in
set_option maxHeartbeats 2000000 in
theorem specReach {S : Nat → Prop} {l : List Rel} {v : Value} {w : World} (nm : ByteArray) (mn mx : Int) (hS : ∀ b, S b → b < w.heap.size) (h : RelsAt S w v l) :
    Calls Tryz.prog 61 #[v, .agg #[.string nm, .int .i64 mn, .int .i64 mx]] w fun e w' => e = .returned (.int .i64 (idxV (reachB l ⟨nm, mn, mx⟩))) ∧ Below w.heap.size w w' := by
  obtain ⟨hlm, a, cap, rfl, hc⟩ := h
  have HC : Hid _ := hc
  have hlm' : (l.length : Int) ≤ 9223372036854775807 := by simp [maxLen] at hlm; omega
  clear hc hlm
  unfold reachB
  have hk1 : Blk (w.alloc (.cells #[.string nm, .int .i64 mn, .int .i64 mx] 34)) w.heap.size 34 #[.string nm, .int .i64 mn, .int .i64 mx] := heap_alloc_last w _
  have HK1 : Hid _ := hk1
  clear hk1
  go_enter Tryz.func61, Tryz.ntmps61
  go_wp2_with fail
  go_loopw [5, 6] (fun i5 i6 wr => ∃ (k : Nat), i6 = .int .i64 (k : Int) ∧ i5 = .int .i64 (idxV (reachUp l ⟨nm, mn, mx⟩ k)) ∧ k ≤ l.length ∧ Below w.heap.size w wr ∧ Blk wr w.heap.size 34 #[.string nm, .int .i64 mn, .int .i64 mx]) (fun _ i6 _ => l.length - (intOf i6).toNat)
  case atStart => exact ⟨0, rfl, rfl, by omega, (Below.refl _ w).alloc (Nat.le_refl _) _, HK1.out⟩
  case round =>
    obtain ⟨k, rfl, rfl, hk, hb, hblk⟩ := hrel
    have HB : Hid (Blk wr w.heap.size 34 #[.string nm, .int .i64 mn, .int .i64 mx]) := hblk
    have g0 := hblk.cell 0
    have g1 := hblk.cell 1
    have g2 := hblk.cell 2
    simp at g0 g1 g2
    clear hblk HK1
    by_cases hkn : k < l.length
    · have hkn' : (k : Int) < (l.length : Int) := by omega
      obtain ⟨b, off, rfl, hbB, hcell⟩ := HC.out (by omega)
      have hbw : b < w.heap.size := hS b hbB
      obtain ⟨y1, y2, _, _, _⟩ := hcell k hkn
      have f1 := (hb.cell (p := ⟨b, off + k * 3, none⟩) hbw).trans y1
      have f2 := (hb.cell (p := ⟨b, off + k * 3 + 1, none⟩) hbw).trans y2
      obtain ⟨zn, hzn⟩ : ∃ z, l[k].name = z := ⟨_, rfl⟩
      obtain ⟨zv, hzv⟩ : ∃ z, l[k].ver = z := ⟨_, rfl⟩
      rw [hzn] at f1
      rw [hzv] at f2
      have hfit : fitsB ⟨nm, mn, mx⟩ l[k] = (zn.toList == nm.toList && decide (mn ≤ zv)) := by unfold fitsB; rw [hzn, hzv]
      have HF : Hid (fitsB ⟨nm, mn, mx⟩ l[k] = (zn.toList == nm.toList && decide (mn ≤ zv))) := hfit
      have HZV : Hid (l[k].ver = zv) := hzv
      have hbd : ∀ n, Below w.heap.size w (wr.drewN n) := fun n => bel_drewN hb n
      clear hzn hzv y1 y2 hfit
      have HCELL : Hid _ := hcell
      clear hcell
      obtain ⟨R, hR⟩ : ∃ R, reachUp l ⟨nm, mn, mx⟩ k = R := ⟨_, rfl⟩
      have HRR : Hid (reachUp l ⟨nm, mn, mx⟩ k = R) := hR
      rw [hR]
      clear hR
      cases hcn : zn.toList == nm.toList
      · go_wp2_with fail
        go_quiet (fail)
        go_wp2_with fail
        refine ⟨⟨k + 1, rfl, ?_, by omega, hbd _, HB.out⟩, by simp [intOf]; omega⟩
        rw [reachUp_no hkn (by rw [HF.out, hcn]; rfl), HRR.out]
      · by_cases hv : zv < mn
        · have hG : decide (mn ≤ zv) = false := decide_eq_false (by omega)
          go_wp2_with fail
          go_quiet (fail)
          go_wp2_with fail
          refine ⟨⟨k + 1, rfl, ?_, by omega, hbd _, HB.out⟩, by simp [intOf]; omega⟩
          rw [reachUp_no hkn (by rw [HF.out, hcn, decide_eq_false (by omega)]; rfl), HRR.out]
        · have hfit : fitsB ⟨nm, mn, mx⟩ l[k] = true := by rw [HF.out, hcn, decide_eq_true (by omega)]; rfl
          have HFT : Hid (fitsB ⟨nm, mn, mx⟩ l[k] = true) := hfit
          clear hfit
          have hG : decide (mn ≤ zv) = true := decide_eq_true (by omega)
          cases R with
          | none =>
            simp only [idxV]
            go_wp2_with fail
            go_quiet (fail)
            go_wp2_with fail
            refine ⟨⟨k + 1, rfl, ?_, by omega, hbd _, HB.out⟩, by simp [intOf]; omega⟩
            rw [reachUp_first hkn HFT.out HRR.out]
          | some j =>
            have hjl := (reachUp_lt _ _ _ _ HRR.out).2
            have hjl' : (j : Int) < (l.length : Int) := by omega
            have hj0 : decide ((j : Int) < 0) = false := decide_eq_false (by omega)
            obtain ⟨y1, y2, _, _, _⟩ := HCELL.out j hjl
            have f4 := (hb.cell (p := ⟨b, off + j * 3 + 1, none⟩) hbw).trans y2
            obtain ⟨zj, hzj⟩ : ∃ z, l[j].ver = z := ⟨_, rfl⟩
            rw [hzj] at f4
            have HZJ : Hid (l[j].ver = zj) := hzj
            clear y1 y2 hzj
            simp only [idxV]
            by_cases hless : zv < zj
            · have hG2 : decide (zv < zj) = true := decide_eq_true hless
              go_wp2_with fail
              go_quiet (fail)
              go_wp2_with fail
              refine ⟨⟨k + 1, rfl, ?_, by omega, hbd _, HB.out⟩, by simp [intOf]; omega⟩
              rw [reachUp_less hkn hjl HFT.out HRR.out (by rw [HZV.out, HZJ.out]; omega)]
            · have hG2 : decide (zv < zj) = false := decide_eq_false hless
              go_wp2_with fail
              go_quiet (fail)
              go_wp2_with fail
              refine ⟨⟨k + 1, rfl, ?_, by omega, hbd _, HB.out⟩, by simp [intOf]; omega⟩
              rw [reachUp_more hkn hjl HFT.out HRR.out (by rw [HZV.out, HZJ.out]; omega)]
    · have hkn' : ¬ ((k : Int) < (l.length : Int)) := by omega
      obtain rfl : k = l.length := by omega
      go_wp2_with fail
      go_ret
      exact ⟨rfl, hb⟩

/-- A pick is above the need. -/
def aboveB (P : List Pk) (m : Imp) : Bool := P.any fun p => p.name.toList == m.name.toList && decide (m.mx < p.ver)

set_option maxRecDepth 100000 in
set_option maxHeartbeats 2000000 in
theorem specAbove {B : Nat} {P : List Pk} {v : Value} {w : World} (nm : ByteArray) (mn mx : Int) (h : OwnP B w v P) (hl : P.length ≤ 1000000) :
    Calls Tryz.prog 63 #[v, .agg #[.string nm, .int .i64 mn, .int .i64 mx]] w fun e w' => e = .returned (.bool (aboveB P ⟨nm, mn, mx⟩)) ∧ Below w.heap.size w w' := by
  obtain ⟨a, cap, rfl, hc⟩ := h.value
  have HC : Hid _ := hc
  clear hc h
  have hk1 : Blk (w.alloc (.cells #[.string nm, .int .i64 mn, .int .i64 mx] 34)) w.heap.size 34 #[.string nm, .int .i64 mn, .int .i64 mx] := heap_alloc_last w _
  have HK1 : Hid _ := hk1
  clear hk1
  have hyes : ∀ k (hk : k < P.length), (P[k].name.toList == nm.toList && decide (mx < P[k].ver)) = true → aboveB P ⟨nm, mn, mx⟩ = true := fun k hk h => List.any_eq_true.2 ⟨P[k], List.getElem_mem hk, h⟩
  have hno : (∀ k (hk : k < P.length), (P[k].name.toList == nm.toList && decide (mx < P[k].ver)) = false) → aboveB P ⟨nm, mn, mx⟩ = false := fun h => List.any_eq_false.2 (fun x hx => by
    obtain ⟨i, hi, rfl⟩ := List.getElem_of_mem hx
    rw [h i hi]; simp)
  have HY : Hid _ := hyes
  have HN : Hid _ := hno
  clear hyes hno
  go_enter Tryz.func63, Tryz.ntmps63
  go_wp2_with fail
  go_loopw [5] (fun i5 wr => ∃ (k : Nat), i5 = .int .i64 (k : Int) ∧ k ≤ P.length ∧ (∀ i (hi : i < P.length), i < k → (P[i].name.toList == nm.toList && decide (mx < P[i].ver)) = false) ∧ Below w.heap.size w wr ∧ Blk wr w.heap.size 34 #[.string nm, .int .i64 mn, .int .i64 mx]) (fun i5 _ => P.length - (intOf i5).toNat)
  case atStart => exact ⟨0, rfl, by omega, fun i _ h => by omega, (Below.refl _ w).alloc (Nat.le_refl _) _, HK1.out⟩
  case round =>
    obtain ⟨k, rfl, hk, hall, hb, hblk⟩ := hrel
    have HB : Hid (Blk wr w.heap.size 34 #[.string nm, .int .i64 mn, .int .i64 mx]) := hblk
    have HA : Hid _ := hall
    have g0 := hblk.cell 0
    have g2 := hblk.cell 2
    simp at g0 g2
    clear hblk HK1 hall
    have hbd : ∀ n, Below w.heap.size w (wr.drewN n) := fun n => bel_drewN hb n
    by_cases hkn : k < P.length
    · have hkn' : (k : Int) < (P.length : Int) := by omega
      obtain ⟨b, rfl, hcell⟩ := HC.out (by omega)
      obtain ⟨y1, y2⟩ := hcell k hkn
      have hbw : b < w.heap.size := by
        cases hh : w.heap[b]? with
        | none => simp [World.cell?, hh] at y1
        | some o => exact (Array.getElem?_eq_some_iff.1 hh).1
      have f1 := (hb.cell (p := ⟨b, k * 2, none⟩) hbw).trans y1
      have f2 := (hb.cell (p := ⟨b, k * 2 + 1, none⟩) hbw).trans y2
      obtain ⟨zn, hzn⟩ : ∃ z, P[k].name = z := ⟨_, rfl⟩
      obtain ⟨zv, hzv⟩ : ∃ z, P[k].ver = z := ⟨_, rfl⟩
      rw [hzn] at f1
      rw [hzv] at f2
      have HZN : Hid (P[k].name = zn) := hzn
      have HZV : Hid (P[k].ver = zv) := hzv
      clear hzn hzv y1 y2 hcell
      cases hcn : zn.toList == nm.toList
      · go_wp2_with fail
        go_quiet (fail)
        go_wp2_with fail
        refine ⟨⟨k + 1, rfl, by omega, fun i hi him => ?_, hbd _, HB.out⟩, by simp [intOf]; omega⟩
        by_cases him2 : i < k
        · exact HA.out i hi him2
        · obtain rfl : i = k := by omega
          rw [HZN.out, hcn]; rfl
      · by_cases hv : mx < zv
        · have hG : decide (mx < zv) = true := decide_eq_true hv
          go_wp2_with fail
          go_quiet (fail)
          go_wp2_with fail
          go_ret
          refine ⟨?_, hbd _⟩
          rw [HY.out k hkn (by rw [HZN.out, HZV.out, hcn, decide_eq_true (by omega)]; rfl)]
          rfl
        · have hG : decide (mx < zv) = false := decide_eq_false hv
          go_wp2_with fail
          go_quiet (fail)
          go_wp2_with fail
          refine ⟨⟨k + 1, rfl, by omega, fun i hi him => ?_, hbd _, HB.out⟩, by simp [intOf]; omega⟩
          by_cases him2 : i < k
          · exact HA.out i hi him2
          · obtain rfl : i = k := by omega
            rw [HZV.out, decide_eq_false (by omega)]; simp
    · have hkn' : ¬ ((k : Int) < (P.length : Int)) := by omega
      go_wp2_with fail
      go_ret
      exact ⟨by rw [HN.out (fun i hi => HA.out i hi (by omega))]; rfl, hb⟩
end Go.Proofs.YteokcdobapkkhaaGreatDoor
