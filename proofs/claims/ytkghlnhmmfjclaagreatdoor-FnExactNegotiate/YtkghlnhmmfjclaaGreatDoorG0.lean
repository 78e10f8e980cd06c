/-
  Offers and asks as plain data; how large they are. No statement of the seat is proved here.
-/
import Derived.Test.YtkghlnhmmfjclaaGreatDoorRows
import Derived.WalkKit
import Derived.ProofKit
import Derived.OpenShut
import Derived.WalkSpells
import Derived.Below
import Derived.BigQuiet
import Derived.BigRegion
import Derived.Laws.MakeOwn
import Derived.Lib.OthersKept
import Derived.Deep.RegionLaw
import Derived.Deep.WholeRow
import Derived.Deep.QuietTactic
namespace Go.Proofs.YtkghlnhmmfjclaaGreatDoor
open Go.ChangeShapes Go.WideShapes Go.ChangeAt Go.RowKit
set_option linter.unusedVariables false
set_option linter.unusedSimpArgs false

/-- The block g holds just these cells. -/
def Blk (w : World) (g : Nat) (ty : TypeId) (cs : Array Value) : Prop := w.heap[g]? = some (.cells cs ty (0, 0))
theorem Blk.lt {w : World} {g : Nat} {ty : TypeId} {cs : Array Value} (h : Blk w g ty cs) : g < w.heap.size := (Array.getElem?_eq_some_iff.1 h).1
theorem Blk.cell {w : World} {g : Nat} {ty : TypeId} {cs : Array Value} (h : Blk w g ty cs) (i : Nat) : w.cell? ⟨g, i, none⟩ = cs[i]? := by
  simp only [World.cell?]; rw [show w.heap[g]? = _ from h]; rfl
theorem Blk.fro {w : World} {g : Nat} {ty : TypeId} {cs : Array Value} (h : Blk w g ty cs) (i : Nat) : w.frozen? ⟨g, i, none⟩ = false := by
  simp only [World.frozen?]; rw [show w.heap[g]? = _ from h]; simp
theorem Blk.set {w : World} {g : Nat} {ty : TypeId} {cs : Array Value} (h : Blk w g ty cs) (i : Nat) (v : Value) : Blk (w.setCell ⟨g, i, none⟩ v) g ty (cs.setIfInBounds i v) := by
  unfold Blk at *
  simp only [World.setCell, Array.getElem?_modify, if_true, h]
  rfl
theorem Blk.below {w w' : World} {g : Nat} {ty : TypeId} {cs : Array Value} (h : Blk w g ty cs) (hb : Below w.heap.size w w') : Blk w' g ty cs := by
  unfold Blk at *; rw [hb.block g (Blk.lt h)]; exact h
theorem Blk.other {w : World} {g g' : Nat} {ty : TypeId} {cs : Array Value} (h : Blk w g ty cs) (hne : g ≠ g') (i : Nat) (v : Value) : Blk (w.setCell ⟨g', i, none⟩ v) g ty cs := by
  unfold Blk at *
  rw [Below.heap_setCell _ _ _ _ hne]; exact h
theorem good_below {w W W' : World} (h : Below w.heap.size w W) (hb : Below W.heap.size W W') : Below w.heap.size w W' := h.trans (hb.mono h.size)
theorem cells_below {S : Nat → Prop} {w w' : World} (hS : ∀ b, S b → b < w.heap.size) (hb : Below w.heap.size w w') : ∀ b i, S b → w'.cell? ⟨b, i, none⟩ = w.cell? ⟨b, i, none⟩ := fun b i h => hb.cell (hS b h)

theorem bel_drewN {B : Nat} {w0 w : World} (h : Below B w0 w) (n : Nat) : Below B w0 (w.drewN n) := by
  exact ⟨h.os, h.tape, h.output, h.size, h.block⟩
structure Off where
  right : ByteArray
  ver : Int
  lim : Int
/-- The slice v reads in w, out of blocks of S, as these. -/
def OffsAt (S : Nat → Prop) (w : World) (v : Value) (l : List Off) : Prop := l.length ≤ maxLen ∧ ∃ a cap, v = .slice a l.length cap ∧ (0 < l.length → ∃ b off, a = some ⟨b, off, none⟩ ∧ S b ∧
  ∀ i (h : i < l.length), w.cell? ⟨b, off + i * 3, none⟩ = some (.string l[i].right) ∧ w.cell? ⟨b, off + i * 3 + 1, none⟩ = some (.int .i64 l[i].ver) ∧ w.cell? ⟨b, off + i * 3 + 2, none⟩ = some (.int .i64 l[i].lim))
theorem OffsAt.keep {S : Nat → Prop} {w w' : World} {v : Value} {l : List Off} (h : OffsAt S w v l) (hk : ∀ b i, S b → w'.cell? ⟨b, i, none⟩ = w.cell? ⟨b, i, none⟩) : OffsAt S w' v l := by
  obtain ⟨hl, a, cap, hv, h⟩ := h
  refine ⟨hl, a, cap, hv, fun h0 => ?_⟩
  obtain ⟨b, off, ha, hbB, hc⟩ := h h0
  refine ⟨b, off, ha, hbB, fun i hi => ?_⟩
  obtain ⟨c0, c1, c2⟩ := hc i hi
  exact ⟨(hk _ _ hbB).trans c0, (hk _ _ hbB).trans c1, (hk _ _ hbB).trans c2⟩
theorem OffsAt.mono {S S' : Nat → Prop} {w : World} {v : Value} {l : List Off} (h : OffsAt S w v l) (hS : ∀ b, S b → S' b) : OffsAt S' w v l := by
  obtain ⟨hl, a, cap, hv, h⟩ := h
  refine ⟨hl, a, cap, hv, fun h0 => ?_⟩
  obtain ⟨b, off, ha, hbB, hc⟩ := h h0
  refine ⟨b, off, ha, hS b hbB, fun i hi => ?_⟩
  obtain ⟨c0, c1, c2⟩ := hc i hi
  exact ⟨c0, c1, c2⟩
theorem OffsAt.shape {S : Nat → Prop} {w : World} {v : Value} {l : List Off} (h : OffsAt S w v l) : ∃ a c, v = .slice a l.length c := by
  obtain ⟨_, a, c, hv, _⟩ := h
  exact ⟨a, c, hv⟩
def OffsOK (left : Int) (x : Off) : Prop := (x.right.size : Int) ≤ left
def OffsFit (x : Off) : Prop := x.right.size ≤ maxLen
theorem OffsOK.mono {a b : Int} {x : Off} (h : OffsOK a x) (hab : a ≤ b) : OffsOK b x := by
  unfold OffsOK at *
  have h0 := h
  exact by omega
set_option maxRecDepth 100000 in
theorem szOffer (x : Off) (left : Int) (h0 : 0 ≤ left) (h1 : left ≤ 1048576) (hx : OffsFit x) (w : World) :
    Calls Tryz.prog 20 #[.agg #[.string x.right, .int .i64 x.ver, .int .i64 x.lim], .int .i64 left] w fun e w' => (∃ r : Int, e = .returned (.int .i64 r) ∧ (r = -1 ∨ (0 ≤ r ∧ r ≤ left ∧ OffsOK left x))) ∧ Below w.heap.size w w' := by
  unfold OffsOK
  unfold OffsFit at hx
  obtain ⟨x0, x1, x2⟩ := x
  dsimp only at hx ⊢
  have z0 := hx
  have m0 : (x0.size : Int) ≤ 9223372036854775807 := by simp [maxLen] at z0; omega
  clear z0 hx
  by_cases n0 : left - (x0.size : Int) < 0
  · go_enter Tryz.func20, Tryz.ntmps20
    go_wp2_with fail
    go_ret
    exact ⟨⟨-1, rfl, .inl rfl⟩, (Below.refl _ w).alloc (Nat.le_refl _) _⟩
  go_enter Tryz.func20, Tryz.ntmps20
  go_wp2_with fail
  go_ret
  exact ⟨⟨_, rfl, .inr ⟨by omega, by omega, by omega⟩⟩, (Below.refl _ w).alloc (Nat.le_refl _) _⟩
set_option maxRecDepth 100000 in
set_option maxHeartbeats 400000 in
theorem szOfferS {S : Nat → Prop} {l : List Off} {v : Value} {w : World} (hS : ∀ b, S b → b < w.heap.size) (h : OffsAt S w v l) (hx : ∀ x ∈ l, OffsFit x) (left : Int) (h0 : 0 ≤ left) (h1 : left ≤ 1048576) :
    Calls Tryz.prog 4 #[v, .int .i64 left] w fun e w' => (∃ r : Int, e = .returned (.int .i64 r) ∧ (r = -1 ∨ (0 ≤ r ∧ r ≤ left ∧ (l.length : Int) ≤ left ∧ ∀ x ∈ l, OffsOK left x))) ∧ Below w.heap.size w w' := by
  have HX : Hid (∀ x ∈ l, OffsFit x) := hx
  obtain ⟨hlm, a, cap, rfl, hc⟩ := h
  have hlm' : (l.length : Int) ≤ 9223372036854775807 := by simp [maxLen] at hlm; omega
  clear hx hlm
  by_cases hn : left - (l.length : Int) < 0
  · clear hc
    go_enter Tryz.func4, Tryz.ntmps4
    go_wp2_with fail
    go_ret
    exact ⟨⟨-1, rfl, .inl rfl⟩, Below.refl _ _⟩
  · have HC : Hid _ := hc
    clear hc
    go_enter Tryz.func4, Tryz.ntmps4
    go_wp2_with fail
    go_loopw [1, 5] (fun i1 i5 wr => ∃ (k : Nat) (r : Int), i5 = .int .i64 (k : Int) ∧ i1 = .int .i64 r ∧ k ≤ l.length ∧ 0 ≤ r ∧ r ≤ left ∧ (∀ i (h : i < l.length), i < k → OffsOK left l[i]) ∧ Below w.heap.size w wr) (fun _ i5 _ => l.length - (intOf i5).toNat)
    case atStart => exact ⟨0, _, rfl, rfl, by omega, by omega, by omega, fun i _ h => by omega, Below.refl _ _⟩
    case round =>
      obtain ⟨k, r, rfl, rfl, hk, hr0, hr1, hall, hb⟩ := hrel
      have HA : Hid _ := hall
      clear hall
      by_cases hkn : k < l.length
      · have hkn' : (k : Int) < (l.length : Int) := by omega
        obtain ⟨b, off, rfl, hbB, hcell⟩ := HC.out (by omega)
        obtain ⟨c0, c1, c2⟩ := hcell k hkn
        have hbw : b < w.heap.size := hS b hbB
        have d0 := (hb.cell (p := ⟨b, off + k * 3, none⟩) hbw).trans c0
        have d1 := (hb.cell (p := ⟨b, off + k * 3 + 1, none⟩) hbw).trans c1
        have d2 := (hb.cell (p := ⟨b, off + k * 3 + 2, none⟩) hbw).trans c2
        have cs := fun w => szOffer l[k] r hr0 (by omega) (HX.out _ (List.getElem_mem hkn)) w
        obtain ⟨x, hxk⟩ : ∃ x, l[k] = x := ⟨_, rfl⟩
        rw [hxk] at d0 d1 d2 cs
        have HXK : Hid (l[k] = x) := hxk
        clear hxk c0 c1 c2 hcell
        obtain ⟨x0, x1, x2⟩ := x
        dsimp only at d0 d1 d2 cs
        go_wp2_with (go_at_call 20; go_must (refine (cs _).mono ?_; rintro e w1 ⟨⟨r1, rfl, hr⟩, hb1⟩))
        · go_ret
          exact ⟨⟨-1, rfl, .inl rfl⟩, good_below hb hb1⟩
        · have hr2 : 0 ≤ r1 := by omega
          have hr3 : r1 ≤ r ∧ OffsOK r ⟨x0, x1, x2⟩ := hr.elim (fun h => by omega) (fun h => h.2)
          refine ⟨⟨k + 1, r1, rfl, rfl, by omega, hr2, by omega, fun i hi hik => ?_, good_below hb hb1⟩, by simp [intOf]; omega⟩
          by_cases hik2 : i < k
          · exact HA.out i hi hik2
          · obtain rfl : i = k := by omega
            rw [HXK.out]
            exact hr3.2.mono hr1
      · have hkn' : ¬ ((k : Int) < (l.length : Int)) := by omega
        go_wp2_with fail
        go_ret
        refine ⟨⟨r, rfl, .inr ⟨hr0, hr1, by omega, fun x hx => ?_⟩⟩, hb⟩
        obtain ⟨i, hi, rfl⟩ := List.getElem_of_mem hx
        exact HA.out i hi (by omega)
structure Imp where
  name : ByteArray
  mn : Int
  mx : Int
/-- The slice v reads in w, out of blocks of S, as these. -/
def ImpsAt (S : Nat → Prop) (w : World) (v : Value) (l : List Imp) : Prop := l.length ≤ maxLen ∧ ∃ a cap, v = .slice a l.length cap ∧ (0 < l.length → ∃ b off, a = some ⟨b, off, none⟩ ∧ S b ∧
  ∀ i (h : i < l.length), w.cell? ⟨b, off + i * 3, none⟩ = some (.string l[i].name) ∧ w.cell? ⟨b, off + i * 3 + 1, none⟩ = some (.int .i64 l[i].mn) ∧ w.cell? ⟨b, off + i * 3 + 2, none⟩ = some (.int .i64 l[i].mx))
theorem ImpsAt.keep {S : Nat → Prop} {w w' : World} {v : Value} {l : List Imp} (h : ImpsAt S w v l) (hk : ∀ b i, S b → w'.cell? ⟨b, i, none⟩ = w.cell? ⟨b, i, none⟩) : ImpsAt S w' v l := by
  obtain ⟨hl, a, cap, hv, h⟩ := h
  refine ⟨hl, a, cap, hv, fun h0 => ?_⟩
  obtain ⟨b, off, ha, hbB, hc⟩ := h h0
  refine ⟨b, off, ha, hbB, fun i hi => ?_⟩
  obtain ⟨c0, c1, c2⟩ := hc i hi
  exact ⟨(hk _ _ hbB).trans c0, (hk _ _ hbB).trans c1, (hk _ _ hbB).trans c2⟩
theorem ImpsAt.mono {S S' : Nat → Prop} {w : World} {v : Value} {l : List Imp} (h : ImpsAt S w v l) (hS : ∀ b, S b → S' b) : ImpsAt S' w v l := by
  obtain ⟨hl, a, cap, hv, h⟩ := h
  refine ⟨hl, a, cap, hv, fun h0 => ?_⟩
  obtain ⟨b, off, ha, hbB, hc⟩ := h h0
  refine ⟨b, off, ha, hS b hbB, fun i hi => ?_⟩
  obtain ⟨c0, c1, c2⟩ := hc i hi
  exact ⟨c0, c1, c2⟩
theorem ImpsAt.shape {S : Nat → Prop} {w : World} {v : Value} {l : List Imp} (h : ImpsAt S w v l) : ∃ a c, v = .slice a l.length c := by
  obtain ⟨_, a, c, hv, _⟩ := h
  exact ⟨a, c, hv⟩
def ImpsOK (left : Int) (x : Imp) : Prop := (x.name.size : Int) ≤ left
def ImpsFit (x : Imp) : Prop := x.name.size ≤ maxLen
theorem ImpsOK.mono {a b : Int} {x : Imp} (h : ImpsOK a x) (hab : a ≤ b) : ImpsOK b x := by
  unfold ImpsOK at *
  have h0 := h
  exact by omega
set_option maxRecDepth 100000 in
theorem szImport (x : Imp) (left : Int) (h0 : 0 ≤ left) (h1 : left ≤ 1048576) (hx : ImpsFit x) (w : World) :
    Calls Tryz.prog 21 #[.agg #[.string x.name, .int .i64 x.mn, .int .i64 x.mx], .int .i64 left] w fun e w' => (∃ r : Int, e = .returned (.int .i64 r) ∧ (r = -1 ∨ (0 ≤ r ∧ r ≤ left ∧ ImpsOK left x))) ∧ Below w.heap.size w w' := by
  unfold ImpsOK
  unfold ImpsFit at hx
  obtain ⟨x0, x1, x2⟩ := x
  dsimp only at hx ⊢
  have z0 := hx
  have m0 : (x0.size : Int) ≤ 9223372036854775807 := by simp [maxLen] at z0; omega
  clear z0 hx
  by_cases n0 : left - (x0.size : Int) < 0
  · go_enter Tryz.func21, Tryz.ntmps21
    go_wp2_with fail
    go_ret
    exact ⟨⟨-1, rfl, .inl rfl⟩, (Below.refl _ w).alloc (Nat.le_refl _) _⟩
  go_enter Tryz.func21, Tryz.ntmps21
  go_wp2_with fail
  go_ret
  exact ⟨⟨_, rfl, .inr ⟨by omega, by omega, by omega⟩⟩, (Below.refl _ w).alloc (Nat.le_refl _) _⟩
set_option maxRecDepth 100000 in
set_option maxHeartbeats 400000 in
theorem szImportS {S : Nat → Prop} {l : List Imp} {v : Value} {w : World} (hS : ∀ b, S b → b < w.heap.size) (h : ImpsAt S w v l) (hx : ∀ x ∈ l, ImpsFit x) (left : Int) (h0 : 0 ≤ left) (h1 : left ≤ 1048576) :
    Calls Tryz.prog 5 #[v, .int .i64 left] w fun e w' => (∃ r : Int, e = .returned (.int .i64 r) ∧ (r = -1 ∨ (0 ≤ r ∧ r ≤ left ∧ (l.length : Int) ≤ left ∧ ∀ x ∈ l, ImpsOK left x))) ∧ Below w.heap.size w w' := by
  have HX : Hid (∀ x ∈ l, ImpsFit x) := hx
  obtain ⟨hlm, a, cap, rfl, hc⟩ := h
  have hlm' : (l.length : Int) ≤ 9223372036854775807 := by simp [maxLen] at hlm; omega
  clear hx hlm
  by_cases hn : left - (l.length : Int) < 0
  · clear hc
    go_enter Tryz.func5, Tryz.ntmps5
    go_wp2_with fail
    go_ret
    exact ⟨⟨-1, rfl, .inl rfl⟩, Below.refl _ _⟩
  · have HC : Hid _ := hc
    clear hc
    go_enter Tryz.func5, Tryz.ntmps5
    go_wp2_with fail
    go_loopw [1, 5] (fun i1 i5 wr => ∃ (k : Nat) (r : Int), i5 = .int .i64 (k : Int) ∧ i1 = .int .i64 r ∧ k ≤ l.length ∧ 0 ≤ r ∧ r ≤ left ∧ (∀ i (h : i < l.length), i < k → ImpsOK left l[i]) ∧ Below w.heap.size w wr) (fun _ i5 _ => l.length - (intOf i5).toNat)
    case atStart => exact ⟨0, _, rfl, rfl, by omega, by omega, by omega, fun i _ h => by omega, Below.refl _ _⟩
    case round =>
      obtain ⟨k, r, rfl, rfl, hk, hr0, hr1, hall, hb⟩ := hrel
      have HA : Hid _ := hall
      clear hall
      by_cases hkn : k < l.length
      · have hkn' : (k : Int) < (l.length : Int) := by omega
        obtain ⟨b, off, rfl, hbB, hcell⟩ := HC.out (by omega)
        obtain ⟨c0, c1, c2⟩ := hcell k hkn
        have hbw : b < w.heap.size := hS b hbB
        have d0 := (hb.cell (p := ⟨b, off + k * 3, none⟩) hbw).trans c0
        have d1 := (hb.cell (p := ⟨b, off + k * 3 + 1, none⟩) hbw).trans c1
        have d2 := (hb.cell (p := ⟨b, off + k * 3 + 2, none⟩) hbw).trans c2
        have cs := fun w => szImport l[k] r hr0 (by omega) (HX.out _ (List.getElem_mem hkn)) w
        obtain ⟨x, hxk⟩ : ∃ x, l[k] = x := ⟨_, rfl⟩
        rw [hxk] at d0 d1 d2 cs
        have HXK : Hid (l[k] = x) := hxk
        clear hxk c0 c1 c2 hcell
        obtain ⟨x0, x1, x2⟩ := x
        dsimp only at d0 d1 d2 cs
        go_wp2_with (go_at_call 21; go_must (refine (cs _).mono ?_; rintro e w1 ⟨⟨r1, rfl, hr⟩, hb1⟩))
        · go_ret
          exact ⟨⟨-1, rfl, .inl rfl⟩, good_below hb hb1⟩
        · have hr2 : 0 ≤ r1 := by omega
          have hr3 : r1 ≤ r ∧ ImpsOK r ⟨x0, x1, x2⟩ := hr.elim (fun h => by omega) (fun h => h.2)
          refine ⟨⟨k + 1, r1, rfl, rfl, by omega, hr2, by omega, fun i hi hik => ?_, good_below hb hb1⟩, by simp [intOf]; omega⟩
          by_cases hik2 : i < k
          · exact HA.out i hi hik2
          · obtain rfl : i = k := by omega
            rw [HXK.out]
            exact hr3.2.mono hr1
      · have hkn' : ¬ ((k : Int) < (l.length : Int)) := by omega
        go_wp2_with fail
        go_ret
        refine ⟨⟨r, rfl, .inr ⟨hr0, hr1, by omega, fun x hx => ?_⟩⟩, hb⟩
        obtain ⟨i, hi, rfl⟩ := List.getElem_of_mem hx
        exact HA.out i hi (by omega)
/-- The slice v reads in w, out of blocks of S, as these. -/
def TxtsAt (S : Nat → Prop) (w : World) (v : Value) (l : List ByteArray) : Prop := l.length ≤ maxLen ∧ ∃ a cap, v = .slice a l.length cap ∧ (0 < l.length → ∃ b off, a = some ⟨b, off, none⟩ ∧ S b ∧
  ∀ i (h : i < l.length), w.cell? ⟨b, off + i, none⟩ = some (.string l[i]))
theorem TxtsAt.keep {S : Nat → Prop} {w w' : World} {v : Value} {l : List ByteArray} (h : TxtsAt S w v l) (hk : ∀ b i, S b → w'.cell? ⟨b, i, none⟩ = w.cell? ⟨b, i, none⟩) : TxtsAt S w' v l := by
  obtain ⟨hl, a, cap, hv, h⟩ := h
  refine ⟨hl, a, cap, hv, fun h0 => ?_⟩
  obtain ⟨b, off, ha, hbB, hc⟩ := h h0
  refine ⟨b, off, ha, hbB, fun i hi => ?_⟩
  have c0 := hc i hi
  exact (hk _ _ hbB).trans c0
theorem TxtsAt.mono {S S' : Nat → Prop} {w : World} {v : Value} {l : List ByteArray} (h : TxtsAt S w v l) (hS : ∀ b, S b → S' b) : TxtsAt S' w v l := by
  obtain ⟨hl, a, cap, hv, h⟩ := h
  refine ⟨hl, a, cap, hv, fun h0 => ?_⟩
  obtain ⟨b, off, ha, hbB, hc⟩ := h h0
  refine ⟨b, off, ha, hS b hbB, fun i hi => ?_⟩
  have c0 := hc i hi
  exact c0
theorem TxtsAt.shape {S : Nat → Prop} {w : World} {v : Value} {l : List ByteArray} (h : TxtsAt S w v l) : ∃ a c, v = .slice a l.length c := by
  obtain ⟨_, a, c, hv, _⟩ := h
  exact ⟨a, c, hv⟩
def TxtsOK (left : Int) (x : ByteArray) : Prop := (x.size : Int) ≤ left
def TxtsFit (x : ByteArray) : Prop := x.size ≤ maxLen
theorem TxtsOK.mono {a b : Int} {x : ByteArray} (h : TxtsOK a x) (hab : a ≤ b) : TxtsOK b x := by
  unfold TxtsOK at *
  have h0 := h
  exact by omega
structure Pk where
  name : ByteArray
  ver : Int
/-- The slice v reads in w, out of blocks of S, as these. -/
def PksAt (S : Nat → Prop) (w : World) (v : Value) (l : List Pk) : Prop := l.length ≤ maxLen ∧ ∃ a cap, v = .slice a l.length cap ∧ (0 < l.length → ∃ b off, a = some ⟨b, off, none⟩ ∧ S b ∧
  ∀ i (h : i < l.length), w.cell? ⟨b, off + i * 2, none⟩ = some (.string l[i].name) ∧ w.cell? ⟨b, off + i * 2 + 1, none⟩ = some (.int .i64 l[i].ver))
theorem PksAt.keep {S : Nat → Prop} {w w' : World} {v : Value} {l : List Pk} (h : PksAt S w v l) (hk : ∀ b i, S b → w'.cell? ⟨b, i, none⟩ = w.cell? ⟨b, i, none⟩) : PksAt S w' v l := by
  obtain ⟨hl, a, cap, hv, h⟩ := h
  refine ⟨hl, a, cap, hv, fun h0 => ?_⟩
  obtain ⟨b, off, ha, hbB, hc⟩ := h h0
  refine ⟨b, off, ha, hbB, fun i hi => ?_⟩
  obtain ⟨c0, c1⟩ := hc i hi
  exact ⟨(hk _ _ hbB).trans c0, (hk _ _ hbB).trans c1⟩
theorem PksAt.mono {S S' : Nat → Prop} {w : World} {v : Value} {l : List Pk} (h : PksAt S w v l) (hS : ∀ b, S b → S' b) : PksAt S' w v l := by
  obtain ⟨hl, a, cap, hv, h⟩ := h
  refine ⟨hl, a, cap, hv, fun h0 => ?_⟩
  obtain ⟨b, off, ha, hbB, hc⟩ := h h0
  refine ⟨b, off, ha, hS b hbB, fun i hi => ?_⟩
  obtain ⟨c0, c1⟩ := hc i hi
  exact ⟨c0, c1⟩
theorem PksAt.shape {S : Nat → Prop} {w : World} {v : Value} {l : List Pk} (h : PksAt S w v l) : ∃ a c, v = .slice a l.length c := by
  obtain ⟨_, a, c, hv, _⟩ := h
  exact ⟨a, c, hv⟩
end Go.Proofs.YtkghlnhmmfjclaaGreatDoor
