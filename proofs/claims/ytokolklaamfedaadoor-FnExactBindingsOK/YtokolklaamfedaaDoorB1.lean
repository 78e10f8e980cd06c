/-
  Bindings are copied. No statement of the seat is proved here.
-/
import Derived.Test.YtokolklaamfedaaDoorB0
import Derived.Lib.OthersKept
import Derived.Deep.RegionLaw
import Derived.Deep.WholeRow
namespace Go.Proofs.YtokolklaamfedaaDoor
open Go.ChangeShapes Go.WideShapes Go.ChangeAt Go.RowKit
set_option linter.unusedVariables false

theorem last3 (w : World) (o p q : Obj) : (((w.alloc o).alloc p).alloc q).heap[w.heap.size + 1]? = some p := by
  have h1 : ((w.alloc o).alloc p).heap[w.heap.size + 1]? = some p := by
    have := heap_alloc_last (w.alloc o) p
    rwa [World.size_alloc] at this
  have h2 : w.heap.size + 1 < ((w.alloc o).alloc p).heap.size := by simp only [World.size_alloc]; omega
  have := ((Below.refl _ ((w.alloc o).alloc p)).alloc (Nat.le_refl _) q).block (w.heap.size + 1) h2
  rw [this]; exact h1
theorem last3' (w : World) (o p q : Obj) : (((w.alloc o).alloc p).alloc q).heap[w.heap.size + 1 + 1]? = some q := by
  have := heap_alloc_last ((w.alloc o).alloc p) q
  simpa only [World.size_alloc] using this
theorem bel3 (w : World) (o p q : Obj) : Below w.heap.size w (((w.alloc o).alloc p).alloc q) :=
  (((Below.refl _ w).alloc (Nat.le_refl _) _).alloc (by simp only [World.size_alloc]; omega) _).alloc (by simp only [World.size_alloc]; omega) _
set_option maxRecDepth 100000 in
theorem toWant (nm mn : ByteArray) (mx : Int) (w : World) :
    Calls Tryd.prog 33 #[.agg #[.string nm, .string mn, .int .i64 mx]] w fun e w' => e = .returned (.agg #[.string nm, .string mn, .int .i64 mx]) ∧ Below w.heap.size w w' := by
  go_enter Tryd.func33, Tryd.ntmps33
  go_wp2_with fail
  refine bodyPost_ret (v := .agg #[.string nm, .string mn, .int .i64 mx]) (results_cell_row rfl _ _ (w.heap.size + 1) 39 #[.string nm, .string mn, .int .i64 mx] (0, 0) _ rfl (last3 w _ _ _) Tryd.underlying39 rfl (by kernel_rfl)) rfl ?_
  exact ⟨rfl, bel3 w _ _ _⟩

theorem makeN (z : Nat) (t e : TypeId) (bytes n : Nat) (ht : Tryd.prog.underlying t = some (.slice e)) (hinfo : ((Tryd.prog.info? e).bind fun i => i.zero.map fun _ => (i.size, i.bytes)) = some (z, bytes)) (hb : bytes * n ≤ 281474976710656) (hn : n ≤ 9223372036854775807) (W : World) :
    ∃ cur : Array Value, cur.size = n * z ∧ (Instr.makeSlice t (.int .i64 (n : Int)) (.int .i64 (n : Int))).run Tryd.prog W = .ok (.slice (some ⟨W.heap.size, 0, none⟩) n n) (W.alloc (.cells cur e)) := by
  cases hi : Tryd.prog.info? e with
  | none => rw [hi] at hinfo; simp at hinfo
  | some i =>
    rw [hi] at hinfo
    simp only [Option.bind_some] at hinfo
    cases hz : i.zero with
    | none => rw [hz] at hinfo; simp at hinfo
    | some z =>
      rw [hz] at hinfo
      simp only [Option.map_some, Option.some.injEq, Prod.mk.injEq] at hinfo
      obtain ⟨h3, hby⟩ := hinfo
      have hbn : (i.bytes : Int) * (n : Int) ≤ 281474976710656 := by
        rw [hby]
        have h : ((bytes * n : Nat) : Int) ≤ 281474976710656 := by omega
        rwa [Int.natCast_mul] at h
      have hr := run_make (P := Tryd.prog) W t e i z ht hi hz .i64 .i64 (n : Int) (n : Int) (by omega) (by omega) hbn (by omega)
      simp only [Int.toNat_natCast] at hr
      exact ⟨_, by rw [size_madeCells, h3], hr⟩

/-- A row of wants that is laid: the first k are. -/
def WntsC (cur : Array Value) (l : List Wnt) (k : Nat) : Prop := ∀ i (h : i < l.length), i < k → cur[i * 3]? = some (.string l[i].key) ∧ cur[i * 3 + 1]? = some (.string l[i].tag) ∧ cur[i * 3 + 2]? = some (.int .i64 l[i].mode)
theorem three {k n : Nat} (h : k < n) {j : Nat} (hj : j < 3) : k * 3 + j < n * 3 := by
  have := Nat.mul_le_mul_right 3 (Nat.succ_le_of_lt h)
  omega
theorem eight {k n : Nat} (h : k < n) {j : Nat} (hj : j < 8) : k * 8 + j < n * 8 := by
  have := Nat.mul_le_mul_right 8 (Nat.succ_le_of_lt h)
  omega
theorem WntsC.step {cur : Array Value} {l : List Wnt} {k : Nat} (h : WntsC cur l k) (hk : k < l.length) (hc : k * 3 + 2 < cur.size) :
    WntsC (((cur.setIfInBounds (k * 3) (.string l[k].key)).setIfInBounds (k * 3 + 1) (.string l[k].tag)).setIfInBounds (k * 3 + 2) (.int .i64 l[k].mode)) l (k + 1) := by
  intro i hi hik
  simp only [Array.getElem?_setIfInBounds, Array.size_setIfInBounds]
  by_cases hmk : i = k
  · subst hmk
    refine ⟨?_, ?_, ?_⟩
    · rw [if_neg (by omega), if_neg (by omega), if_pos rfl, if_pos (by omega)]
    · rw [if_neg (by omega), if_pos rfl, if_pos (by omega)]
    · rw [if_pos rfl, if_pos (by omega)]
  · have := h i hi (by omega)
    have h3 := three (show i < k by omega) (show 2 < 3 by omega)
    rw [if_neg (by omega), if_neg (by omega), if_neg (by omega), if_neg (by omega), if_neg (by omega), if_neg (by omega), if_neg (by omega), if_neg (by omega), if_neg (by omega)]
    exact this

/-- The row of wants l, laid in the block g of its own. -/
def RowW (w : World) (g : Nat) (v : Value) (l : List Wnt) : Prop := l.length ≤ maxLen ∧ v = .slice (some ⟨g, 0, none⟩) l.length l.length ∧ ∃ cur, Blk w g 39 cur ∧ cur.size = l.length * 3 ∧ WntsC cur l l.length
theorem RowW.keep {w w' : World} {g : Nat} {v : Value} {l : List Wnt} (h : RowW w g v l) (hk : w'.heap[g]? = w.heap[g]?) : RowW w' g v l := by
  obtain ⟨h1, h2, cur, h3, h4⟩ := h
  exact ⟨h1, h2, cur, by unfold Blk at *; rw [hk]; exact h3, h4⟩
theorem RowW.lt {w : World} {g : Nat} {v : Value} {l : List Wnt} (h : RowW w g v l) : g < w.heap.size := by
  obtain ⟨h1, h2, cur, h3, h4⟩ := h
  exact h3.lt
theorem RowW.wants {S : Nat → Prop} {w : World} {g : Nat} {v : Value} {l : List Wnt} (h : RowW w g v l) (hS : S g) : WntsAt S w v l := by
  obtain ⟨h1, h2, cur, h3, h4, h5⟩ := h
  refine ⟨h1, _, _, h2, fun _ => ⟨g, 0, rfl, hS, fun i hi => ?_⟩⟩
  simp only [Nat.zero_add]
  rw [h3.cell, h3.cell, h3.cell]
  exact h5 i hi hi

set_option maxRecDepth 100000 in
set_option maxHeartbeats 400000 in
theorem toWantS {S : Nat → Prop} {l : List Wnt} {v : Value} {w : World} (hS : ∀ b, S b → b < w.heap.size) (h : WntsAt S w v l) (hl : l.length ≤ 1048576) :
    Calls Tryd.prog 21 #[v] w fun e w' => (∃ v', e = .returned v' ∧ RowW w' w.heap.size v' l) ∧ Below w.heap.size w w' := by
  obtain ⟨hlm, a, cap, rfl, hc⟩ := h
  have HC : Hid _ := hc
  clear hc
  obtain ⟨n, hn⟩ : ∃ n, l.length = n := ⟨_, rfl⟩
  obtain ⟨cur0, hcs, hmk0⟩ := makeN 3 33 39 40 n Tryd.underlying33 (by kernel_rfl) (by omega) (by omega) w
  rw [hn] at hl hlm ⊢
  go_enter Tryd.func21, Tryd.ntmps21
  go_wp2_with fail
  go_loopw [4] (fun i4 wr => ∃ (k : Nat) (cur : Array Value), i4 = .int .i64 (k : Int) ∧ k ≤ n ∧ Blk wr w.heap.size 39 cur ∧ cur.size = n * 3 ∧ WntsC cur l k ∧ Below w.heap.size w wr) (fun i4 _ => n - (intOf i4).toNat)
  case atStart => exact ⟨0, cur0, rfl, by omega, heap_alloc_last w _, hcs, fun i _ h => by omega, (Below.refl _ w).alloc (Nat.le_refl _) _⟩
  case round =>
    obtain ⟨k, cur, rfl, hk, hblk, hsz, hic, hb⟩ := hrel
    have HI : Hid (WntsC cur l k) := hic
    have HB : Hid (Blk wr w.heap.size 39 cur) := hblk
    clear hic hblk
    by_cases hkn : k < n
    · have hkn' : (k : Int) < (n : Int) := by omega
      have hkl : k < l.length := by omega
      obtain ⟨b, off, rfl, hbB, hcell⟩ := HC.out (by omega)
      obtain ⟨c1, c2, c3⟩ := hcell k hkl
      have hbw : b < w.heap.size := hS b hbB
      have d1 := (hb.cell (p := ⟨b, off + k * 3, none⟩) hbw).trans c1
      have d2 := (hb.cell (p := ⟨b, off + k * 3 + 1, none⟩) hbw).trans c2
      have d3 := (hb.cell (p := ⟨b, off + k * 3 + 2, none⟩) hbw).trans c3
      have hst := HI.out.step hkl (by have := three hkn (show 2 < 3 by omega); omega)
      obtain ⟨x, hxk⟩ : ∃ x, l[k] = x := ⟨_, rfl⟩
      rw [hxk] at d1 d2 d3 hst
      clear hxk c1 c2 c3 hcell
      obtain ⟨nm, mn, mx⟩ := x
      dsimp only at d1 d2 d3 hst
      have HST : Hid _ := hst
      clear hst
      have z2 := three hkn (show 2 < 3 by omega)
      have z0 : k * 3 < cur.size := by omega
      have z1 : k * 3 + 1 < cur.size := by omega
      have z3 : k * 3 + 2 < cur.size := by omega
      go_wp2_with (go_at_call 33; go_must (refine (toWant nm mn mx _).mono ?_; rintro e w1 ⟨rfl, hb1⟩; have hbk := HB.out.below hb1; have e0 := hbk.cell (k * 3); have e1 := hbk.cell (k * 3 + 1); have e2 := hbk.cell (k * 3 + 2); rw [Array.getElem?_eq_getElem z0] at e0; rw [Array.getElem?_eq_getElem z1] at e1; rw [Array.getElem?_eq_getElem z3] at e2; have f0 := hbk.fro (k * 3); have f1 := hbk.fro (k * 3 + 1); have f2 := hbk.fro (k * 3 + 2)))
      exact ⟨⟨k + 1, _, rfl, by omega, ((hbk.set (k * 3) _).set (k * 3 + 1) _).set (k * 3 + 2) _, by simp [hsz], HST.out, (((good_below hb hb1).setCell (Nat.le_refl _) _).setCell (Nat.le_refl _) _).setCell (Nat.le_refl _) _⟩, by simp [intOf]; omega⟩
    · have hkn' : ¬ ((k : Int) < (n : Int)) := by omega
      go_wp2_with fail
      go_ret
      exact ⟨⟨.slice (some ⟨w.heap.size, 0, none⟩) n n, rfl, by omega, by rw [hn], cur, HB.out, by rw [hsz, hn], by rw [hn]; obtain rfl : k = n := (by omega); exact HI.out⟩, hb⟩

theorem Blk.other {w : World} {g g' : Nat} {ty : TypeId} {cs : Array Value} (h : Blk w g ty cs) (hne : g ≠ g') (i : Nat) (v : Value) : Blk (w.setCell ⟨g', i, none⟩ v) g ty cs := by
  unfold Blk at *
  rw [Below.heap_setCell _ _ _ _ hne]; exact h

theorem get_ne {a : Array Value} {i j : Nat} {v : Value} (h : i ≠ j) : (a.setIfInBounds i v)[j]? = a[j]? := by
  rw [Array.getElem?_setIfInBounds, if_neg h]
theorem get_eq {a : Array Value} {i : Nat} {v : Value} (h : i < a.size) : (a.setIfInBounds i v)[i]? = some v := by
  rw [Array.getElem?_setIfInBounds, if_pos rfl, if_pos h]
def bndVal (x : Bnd) (nv : Value) : Value := .agg #[.string x.name, .string x.key, .string x.tag, .int .i64 x.scope, nv, .string x.cond, .int .i64 x.rank, .bool x.wraps]
set_option maxRecDepth 100000 in
set_option maxHeartbeats 1000000 in
theorem toBinding {S : Nat → Prop} (nm ky tg : ByteArray) (sc : Int) (ns : List Wnt) (cd : ByteArray) (rk : Int) (wp : Bool) (nv : Value) (w : World) (hS : ∀ b, S b → b < w.heap.size) (h : WntsAt S w nv ns) (hl : ns.length ≤ 1048576) :
    Calls Tryd.prog 14 #[.agg #[.string nm, .string ky, .string tg, .int .i64 sc, nv, .string cd, .int .i64 rk, .bool wp]] w fun e w' => (∃ nv', e = .returned (.agg #[.string nm, .string ky, .string tg, .int .i64 sc, nv', .string cd, .int .i64 rk, .bool wp]) ∧ ∃ g, w.heap.size ≤ g ∧ RowW w' g nv' ns) ∧ Below w.heap.size w w' := by
  have cs := fun o p q => toWantS (w := ((w.alloc o).alloc p).alloc q) (fun b hb => Nat.lt_of_lt_of_le (hS b hb) (bel3 w o p q).size) (h.keep (cells_below hS (bel3 w o p q))) hl
  have hl3 : ∀ o p q W, Below (((w.alloc o).alloc p).alloc q).heap.size (((w.alloc o).alloc p).alloc q) W → W.heap[w.heap.size]? = some o := fun o p q W hb => by
    rw [hb.block _ (by simp only [World.size_alloc]; omega)]
    have h1 := heap_alloc_last w o
    have b1 : Below (w.alloc o).heap.size (w.alloc o) (((w.alloc o).alloc p).alloc q) := ((Below.refl _ _).alloc (Nat.le_refl _) _).alloc (by simp only [World.size_alloc]; omega) _
    rw [b1.block _ (by simp only [World.size_alloc]; omega)]
    exact h1
  obtain ⟨na, nc, rfl⟩ := h.shape
  clear h
  go_enter Tryd.func14, Tryd.ntmps14
  go_wp2_with (go_at_call 21; go_must (refine (cs _ _ _).mono ?_; rintro e w1 ⟨⟨nv', rfl, hn⟩, hb1⟩; simp only [World.size_alloc] at hn; have HN : Hid (RowW w1 (w.heap.size + 1 + 1 + 1) nv' ns) := hn; obtain rfl := hn.2.1; clear hn; have hk0 : Blk w1 w.heap.size 32 #[.string nm, .string ky, .string tg, .int .i64 sc, .slice na ns.length nc, .string cd, .int .i64 rk, .bool wp] := hl3 _ _ _ _ hb1; have hk1 : Blk w1 (w.heap.size + 1) 35 #[.string ⟨#[]⟩, .string ⟨#[]⟩, .string ⟨#[]⟩, .int .i64 0, .slice none 0 0, .string ⟨#[]⟩, .int .i64 0, .bool false] := Blk.below (last3 w _ _ _) hb1; have hk2 : Blk w1 (w.heap.size + 1 + 1) 35 #[.string nm, .string ky, .string tg, .int .i64 sc, .slice none 0 0, .string ⟨#[]⟩, .int .i64 0, .bool false] := Blk.below (last3' w _ _ _) hb1; have e05 := hk0.cell 5; have e06 := hk0.cell 6; have e07 := hk0.cell 7; have e10 := hk1.cell 0; have e11 := hk1.cell 1; have e12 := hk1.cell 2; have e13 := hk1.cell 3; have e14 := hk1.cell 4; have e15 := hk1.cell 5; have e16 := hk1.cell 6; have e17 := hk1.cell 7; have e20 := hk2.cell 0; have e21 := hk2.cell 1; have e22 := hk2.cell 2; have e23 := hk2.cell 3; have e24 := hk2.cell 4; have e25 := hk2.cell 5; have e26 := hk2.cell 6; have e27 := hk2.cell 7; simp at e05 e06 e07 e10 e11 e12 e13 e14 e15 e16 e17 e20 e21 e22 e23 e24 e25 e26 e27; have f10 := hk1.fro 0; have f11 := hk1.fro 1; have f12 := hk1.fro 2; have f13 := hk1.fro 3; have f14 := hk1.fro 4; have f15 := hk1.fro 5; have f16 := hk1.fro 6; have f17 := hk1.fro 7; have f24 := hk2.fro 4; have f25 := hk2.fro 5; have f26 := hk2.fro 6; have f27 := hk2.fro 7))
  have hb2 : Below w.heap.size w w1 := (bel3 w _ _ _).trans (hb1.mono (bel3 w _ _ _).size)
  have hle1 : w.heap.size ≤ w.heap.size + 1 := by omega
  have hle2 : w.heap.size ≤ w.heap.size + 1 + 1 := by omega
  refine bodyPost_ret (v := .agg #[.string nm, .string ky, .string tg, .int .i64 sc, .slice (some ⟨w.heap.size + 1 + 1 + 1, 0, none⟩) ns.length ns.length, .string cd, .int .i64 rk, .bool wp]) (results_cell_row rfl _ _ (w.heap.size + 1) 35 #[.string nm, .string ky, .string tg, .int .i64 sc, .slice (some ⟨w.heap.size + 1 + 1 + 1, 0, none⟩) ns.length ns.length, .string cd, .int .i64 rk, .bool wp] (0, 0) _ rfl ((((((((((((hk1.other (by omega) 4 _).other (by omega) 5 _).other (by omega) 6 _).other (by omega) 7 _).set 0 _).set 1 _).set 2 _).set 3 _).set 4 _).set 5 _).set 6 _).set 7 _) Tryd.underlying35 rfl (by kernel_rfl)) rfl ?_
  refine ⟨⟨_, rfl, ?_⟩, (((((((((((hb2.setCell hle2 _).setCell hle2 _).setCell hle2 _).setCell hle2 _).setCell hle1 _).setCell hle1 _).setCell hle1 _).setCell hle1 _).setCell hle1 _).setCell hle1 _).setCell hle1 _).setCell hle1 _⟩
  refine ⟨_, by omega, HN.out.keep ?_⟩
  have n1 : w.heap.size + 1 + 1 + 1 ≠ w.heap.size + 1 := by omega
  have n2 : w.heap.size + 1 + 1 + 1 ≠ w.heap.size + 1 + 1 := by omega
  iterate 8 rw [Below.heap_setCell _ _ _ _ n1]
  iterate 4 rw [Below.heap_setCell _ _ _ _ n2]

/-- The eight cells of a row from i * 8 on. -/
def BndC (cur : Array Value) (i : Nat) (x : Bnd) (nv : Value) : Prop :=
  cur[i * 8]? = some (.string x.name) ∧ cur[i * 8 + 1]? = some (.string x.key) ∧ cur[i * 8 + 2]? = some (.string x.tag) ∧ cur[i * 8 + 3]? = some (.int .i64 x.scope) ∧ cur[i * 8 + 4]? = some nv ∧ cur[i * 8 + 5]? = some (.string x.cond) ∧ cur[i * 8 + 6]? = some (.int .i64 x.rank) ∧ cur[i * 8 + 7]? = some (.bool x.wraps)
/-- A row of bindings that is laid: the first k are; their needs lie each in a block between L and U. -/
def BndsC (L U : Nat) (w : World) (cur : Array Value) (l : List Bnd) (k : Nat) : Prop := ∀ i (h : i < l.length), i < k → ∃ nv g, BndC cur i l[i] nv ∧ L < g ∧ g < U ∧ RowW w g nv l[i].needs
theorem BndsC.keep {L U U' : Nat} {w w' : World} {cur : Array Value} {l : List Bnd} {k : Nat} (h : BndsC L U w cur l k) (hU : U ≤ U') (hk : ∀ b, L < b → b < U → w'.heap[b]? = w.heap[b]?) : BndsC L U' w' cur l k := by
  intro i hi hik
  obtain ⟨nv, g, c3, c4, c5, c6⟩ := h i hi hik
  exact ⟨nv, g, c3, c4, by omega, c6.keep (hk g c4 c5)⟩
def set8 (cur : Array Value) (k : Nat) (x : Bnd) (nv : Value) : Array Value :=
  (((((((cur.setIfInBounds (k * 8) (.string x.name)).setIfInBounds (k * 8 + 1) (.string x.key)).setIfInBounds (k * 8 + 2) (.string x.tag)).setIfInBounds (k * 8 + 3) (.int .i64 x.scope)).setIfInBounds (k * 8 + 4) nv).setIfInBounds (k * 8 + 5) (.string x.cond)).setIfInBounds (k * 8 + 6) (.int .i64 x.rank)).setIfInBounds (k * 8 + 7) (.bool x.wraps)
theorem set8_size (cur : Array Value) (k : Nat) (x : Bnd) (nv : Value) : (set8 cur k x nv).size = cur.size := by simp [set8]
theorem set8_at {cur : Array Value} {k : Nat} (x : Bnd) (nv : Value) (hc : k * 8 + 7 < cur.size) : BndC (set8 cur k x nv) k x nv := by
  unfold set8
  refine ⟨?_, ?_, ?_, ?_, ?_, ?_, ?_, ?_⟩
  · iterate 7 rw [get_ne (by omega)]
    rw [get_eq (by first | omega | (simp; omega))]
  · iterate 6 rw [get_ne (by omega)]
    rw [get_eq (by first | omega | (simp; omega))]
  · iterate 5 rw [get_ne (by omega)]
    rw [get_eq (by first | omega | (simp; omega))]
  · iterate 4 rw [get_ne (by omega)]
    rw [get_eq (by first | omega | (simp; omega))]
  · iterate 3 rw [get_ne (by omega)]
    rw [get_eq (by first | omega | (simp; omega))]
  · iterate 2 rw [get_ne (by omega)]
    rw [get_eq (by first | omega | (simp; omega))]
  · rw [get_ne (by omega)]
    rw [get_eq (by first | omega | (simp; omega))]
  · rw [get_eq (by first | omega | (simp; omega))]
theorem set8_out {cur : Array Value} {k j : Nat} (x : Bnd) (nv : Value) (h : j < k * 8 ∨ k * 8 + 7 < j) : (set8 cur k x nv)[j]? = cur[j]? := by
  unfold set8
  iterate 8 rw [get_ne (by omega)]
theorem BndsC.step {L U U' : Nat} {w w' : World} {cur : Array Value} {l : List Bnd} {k : Nat} (h : BndsC L U w cur l k) (hk : k < l.length) (hc : k * 8 + 7 < cur.size) (nv : Value) (hU : U ≤ U')
    (hkeep : ∀ b, L < b → b < U → w'.heap[b]? = w.heap[b]?) (g : Nat) (hg : L < g) (hgU : g < U') (hn : RowW w' g nv l[k].needs) :
    BndsC L U' w' (set8 cur k l[k] nv) l (k + 1) := by
  intro i hi hik
  by_cases hmk : i = k
  · subst hmk
    exact ⟨nv, g, set8_at _ _ hc, hg, hgU, hn⟩
  · obtain ⟨nv', g', ⟨a0, a1, a2, a3, a4, a5, a6, a7⟩, c4, c5, c6⟩ := h i hi (by omega)
    have h3 := eight (show i < k by omega) (show 7 < 8 by omega)
    refine ⟨nv', g', ⟨?_, ?_, ?_, ?_, ?_, ?_, ?_, ?_⟩, c4, by omega, c6.keep (hkeep g' c4 c5)⟩
    all_goals (rw [set8_out _ _ (.inl (by omega))]; assumption)

/-- The row of bindings l, laid in the block L of its own, its needs between L and U. -/
def RowB (L U : Nat) (w : World) (v : Value) (l : List Bnd) : Prop := l.length ≤ maxLen ∧ v = .slice (some ⟨L, 0, none⟩) l.length l.length ∧ ∃ cur, Blk w L 35 cur ∧ cur.size = l.length * 8 ∧ BndsC L U w cur l l.length
theorem RowB.binds {L U : Nat} {w : World} {v : Value} {l : List Bnd} (h : RowB L U w v l) (hU : L < U) : BndsAt (fun b => L ≤ b ∧ b < U) w v l := by
  obtain ⟨h1, h2, cur, h3, h4, h5⟩ := h
  refine ⟨h1, _, _, h2, fun _ => ⟨L, 0, rfl, ⟨Nat.le_refl _, hU⟩, fun i hi => ?_⟩⟩
  obtain ⟨nv, g, ⟨a0, a1, a2, a3, a4, a5, a6, a7⟩, c4, c5, c6⟩ := h5 i hi hi
  simp only [Nat.zero_add]
  unfold BndAt
  rw [h3.cell, h3.cell, h3.cell, h3.cell, h3.cell, h3.cell, h3.cell]
  refine ⟨a0, a1, a2, a3, a5, a6, a7, nv, ?_, c6.wants ⟨by omega, c5⟩⟩
  rw [h3.cell]; exact a4

set_option maxRecDepth 100000 in
set_option maxHeartbeats 1000000 in
theorem toBindingS {S : Nat → Prop} {l : List Bnd} {v : Value} {w : World} (hS : ∀ b, S b → b < w.heap.size) (h : BndsAt S w v l) (hl : l.length ≤ 1048576) (hns : ∀ x ∈ l, x.needs.length ≤ 1048576) :
    Calls Tryd.prog 6 #[v] w fun e w' => (∃ v', e = .returned v' ∧ RowB w.heap.size w'.heap.size w' v' l ∧ w.heap.size < w'.heap.size) ∧ Below w.heap.size w w' := by
  obtain ⟨hlm, a, cap, rfl, hc⟩ := h
  have HC : Hid _ := hc
  have HNS : Hid (∀ x ∈ l, x.needs.length ≤ 1048576) := hns
  clear hc hns
  obtain ⟨n, hn⟩ : ∃ n, l.length = n := ⟨_, rfl⟩
  obtain ⟨cur0, hcs, hmk0⟩ := makeN 8 25 35 112 n Tryd.underlying25 (by kernel_rfl) (by omega) (by omega) w
  rw [hn] at hl hlm ⊢
  go_enter Tryd.func6, Tryd.ntmps6
  go_wp2_with fail
  go_loopw [4] (fun i4 wr => ∃ (k : Nat) (cur : Array Value), i4 = .int .i64 (k : Int) ∧ k ≤ n ∧ Blk wr w.heap.size 35 cur ∧ cur.size = n * 8 ∧ BndsC w.heap.size wr.heap.size wr cur l k ∧ Below w.heap.size w wr) (fun i4 _ => n - (intOf i4).toNat)
  case atStart => exact ⟨0, cur0, rfl, by omega, heap_alloc_last w _, hcs, fun i _ h => by omega, (Below.refl _ w).alloc (Nat.le_refl _) _⟩
  case round =>
    obtain ⟨k, cur, rfl, hk, hblk, hsz, hic, hb⟩ := hrel
    have HI : Hid (BndsC w.heap.size wr.heap.size wr cur l k) := hic
    have HB : Hid (Blk wr w.heap.size 35 cur) := hblk
    clear hic hblk
    by_cases hkn : k < n
    · have hkn' : (k : Int) < (n : Int) := by omega
      have hkl : k < l.length := by omega
      obtain ⟨b, off, rfl, hbB, hcell⟩ := HC.out (by omega)
      obtain ⟨d0, d1, d2, d3, d5, d6, d7, nv, d4, c4⟩ := (hcell k hkl).keep hbB (cells_below hS hb)
      have zz := eight hkn (show 7 < 8 by omega)
      have z0 : k * 8 < cur.size := by omega
      have z1 : k * 8 + 1 < cur.size := by omega
      have z2 : k * 8 + 2 < cur.size := by omega
      have z3 : k * 8 + 3 < cur.size := by omega
      have z4 : k * 8 + 4 < cur.size := by omega
      have z5 : k * 8 + 5 < cur.size := by omega
      have z6 : k * 8 + 6 < cur.size := by omega
      have z7 : k * 8 + 7 < cur.size := by omega
      have hst := fun U' w' nv => HI.out.step (U' := U') (w' := w') hkl z7 nv
      have cr := toBinding l[k].name l[k].key l[k].tag l[k].scope l[k].needs l[k].cond l[k].rank l[k].wraps nv wr (fun b hbb => Nat.lt_of_lt_of_le (hS b hbb) hb.size) c4 (HNS.out _ (List.getElem_mem hkl))
      obtain ⟨x, hxk⟩ : ∃ x, l[k] = x := ⟨_, rfl⟩
      rw [hxk] at d0 d1 d2 d3 d5 d6 d7 hst cr
      clear hxk c4 hcell
      obtain ⟨nm, ky, tg, sc, ns, cd, rk, wp⟩ := x
      dsimp only at d0 d1 d2 d3 d4 d5 d6 d7 hst cr
      have HST : Hid _ := hst
      clear hst
      go_wp2_with (go_at_call 14; go_must (refine cr.mono ?_; rintro e w1 ⟨⟨nv', rfl, g', hg', hn'⟩, hb1⟩; have HN : Hid (RowW w1 g' nv' ns) := hn'; obtain rfl := hn'.2.1; clear hn'; have hbk := HB.out.below hb1; have e0 := hbk.cell (k * 8); have e1 := hbk.cell (k * 8 + 1); have e2 := hbk.cell (k * 8 + 2); have e3 := hbk.cell (k * 8 + 3); have e4 := hbk.cell (k * 8 + 4); have e5 := hbk.cell (k * 8 + 5); have e6 := hbk.cell (k * 8 + 6); have e7 := hbk.cell (k * 8 + 7); rw [Array.getElem?_eq_getElem z0] at e0; rw [Array.getElem?_eq_getElem z1] at e1; rw [Array.getElem?_eq_getElem z2] at e2; rw [Array.getElem?_eq_getElem z3] at e3; rw [Array.getElem?_eq_getElem z4] at e4; rw [Array.getElem?_eq_getElem z5] at e5; rw [Array.getElem?_eq_getElem z6] at e6; rw [Array.getElem?_eq_getElem z7] at e7; have f0 := hbk.fro (k * 8); have f1 := hbk.fro (k * 8 + 1); have f2 := hbk.fro (k * 8 + 2); have f3 := hbk.fro (k * 8 + 3); have f4 := hbk.fro (k * 8 + 4); have f5 := hbk.fro (k * 8 + 5); have f6 := hbk.fro (k * 8 + 6); have f7 := hbk.fro (k * 8 + 7)))
      have hglt := HB.out.lt
      have hgl := HN.out.lt
      have hbB2 := good_below hb hb1
      refine ⟨⟨k + 1, set8 cur k ⟨nm, ky, tg, sc, ns, cd, rk, wp⟩ (.slice (some ⟨g', 0, none⟩) ns.length ns.length), rfl, by omega, (((((((hbk.set (k * 8) _).set (k * 8 + 1) _).set (k * 8 + 2) _).set (k * 8 + 3) _).set (k * 8 + 4) _).set (k * 8 + 5) _).set (k * 8 + 6) _).set (k * 8 + 7) _, by rw [set8_size, hsz], ?_, (((((((hbB2.setCell (Nat.le_refl _) _).setCell (Nat.le_refl _) _).setCell (Nat.le_refl _) _).setCell (Nat.le_refl _) _).setCell (Nat.le_refl _) _).setCell (Nat.le_refl _) _).setCell (Nat.le_refl _) _).setCell (Nat.le_refl _) _⟩, by simp [intOf]; omega⟩
      refine HST.out _ _ _ (by simp only [World.size_setCell]; exact hb1.size) (fun b hb3 hb4 => ?_) g' (by omega) (by simp only [World.size_setCell]; exact hgl) (HN.out.keep ?_)
      · have hne : b ≠ w.heap.size := by omega
        iterate 8 rw [Below.heap_setCell _ _ _ _ hne]
        exact hb1.block b hb4
      · have hne : g' ≠ w.heap.size := by omega
        iterate 8 rw [Below.heap_setCell _ _ _ _ hne]
    · have hkn' : ¬ ((k : Int) < (n : Int)) := by omega
      go_wp2_with fail
      go_ret
      exact ⟨⟨.slice (some ⟨w.heap.size, 0, none⟩) n n, rfl, ⟨by omega, by rw [hn], cur, HB.out, by rw [hsz, hn], by rw [hn]; obtain rfl : k = n := (by omega); exact HI.out⟩, HB.out.lt⟩, hb⟩
end Go.Proofs.YtokolklaamfedaaDoor
