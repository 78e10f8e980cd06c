/-
  Stores are copied. No statement of the seat is proved here.
-/
import Derived.Test.YtmgboljcdhegiaaDoorSt0
import Derived.Lib.OthersKept
import Derived.Deep.RegionLaw
import Derived.Deep.WholeRow
namespace Go.Proofs.YtmgboljcdhegiaaDoor
open Go.ChangeShapes Go.WideShapes Go.ChangeAt Go.RowKit
set_option linter.unusedVariables false

theorem last3 (w : World) (o p q : Obj) : (((w.alloc o).alloc p).alloc q).heap[w.heap.size + 1]? = some p := by
  have h1 : ((w.alloc o).alloc p).heap[w.heap.size + 1]? = some p := by
    have := heap_alloc_last (w.alloc o) p
    rwa [World.size_alloc] at this
  have h2 : w.heap.size + 1 < ((w.alloc o).alloc p).heap.size := by simp only [World.size_alloc]; omega
  have := ((Below.refl _ ((w.alloc o).alloc p)).alloc (Nat.le_refl _) q).block (w.heap.size + 1) h2
  rw [this]; exact h1
theorem last3' (w : World) (o p q : Obj) : (((w.alloc o).alloc p).alloc q).heap[w.heap.size + 1 + 1]? = some q := by
  have := heap_alloc_last ((w.alloc o).alloc p) q
  simpa only [World.size_alloc] using this
theorem bel3 (w : World) (o p q : Obj) : Below w.heap.size w (((w.alloc o).alloc p).alloc q) :=
  (((Below.refl _ w).alloc (Nat.le_refl _) _).alloc (by simp only [World.size_alloc]; omega) _).alloc (by simp only [World.size_alloc]; omega) _
set_option maxRecDepth 100000 in
theorem toImport (nm : ByteArray) (mn mx : Int) (w : World) :
    Calls Tryd.prog 31 #[.agg #[.string nm, .int .i64 mn, .int .i64 mx]] w fun e w' => e = .returned (.agg #[.string nm, .int .i64 mn, .int .i64 mx]) ∧ Below w.heap.size w w' := by
  go_enter Tryd.func31, Tryd.ntmps31
  go_wp2_with fail
  refine bodyPost_ret (v := .agg #[.string nm, .int .i64 mn, .int .i64 mx]) (results_cell_row rfl _ _ (w.heap.size + 1) 39 #[.string nm, .int .i64 mn, .int .i64 mx] (0, 0) _ rfl (last3 w _ _ _) Tryd.underlying39 rfl (by kernel_rfl)) rfl ?_
  exact ⟨rfl, bel3 w _ _ _⟩

theorem make3 (t e : TypeId) (bytes n : Nat) (ht : Tryd.prog.underlying t = some (.slice e)) (hinfo : ((Tryd.prog.info? e).bind fun i => i.zero.map fun _ => (i.size, i.bytes)) = some (3, bytes)) (hb : bytes * n ≤ 281474976710656) (hn : n ≤ 9223372036854775807) (W : World) :
    ∃ cur : Array Value, cur.size = n * 3 ∧ (Instr.makeSlice t (.int .i64 (n : Int)) (.int .i64 (n : Int))).run Tryd.prog W = .ok (.slice (some ⟨W.heap.size, 0, none⟩) n n) (W.alloc (.cells cur e)) := by
  cases hi : Tryd.prog.info? e with
  | none => rw [hi] at hinfo; simp at hinfo
  | some i =>
    rw [hi] at hinfo
    simp only [Option.bind_some] at hinfo
    cases hz : i.zero with
    | none => rw [hz] at hinfo; simp at hinfo
    | some z =>
      rw [hz] at hinfo
      simp only [Option.map_some, Option.some.injEq, Prod.mk.injEq] at hinfo
      obtain ⟨h3, hby⟩ := hinfo
      have hbn : (i.bytes : Int) * (n : Int) ≤ 281474976710656 := by
        rw [hby]
        have h : ((bytes * n : Nat) : Int) ≤ 281474976710656 := by omega
        rwa [Int.natCast_mul] at h
      have hr := run_make (P := Tryd.prog) W t e i z ht hi hz .i64 .i64 (n : Int) (n : Int) (by omega) (by omega) hbn (by omega)
      simp only [Int.toNat_natCast] at hr
      exact ⟨_, by rw [size_madeCells, h3], hr⟩

/-- A row of needs that is laid: the first k are. -/
def ImpsC (cur : Array Value) (l : List Imp) (k : Nat) : Prop := ∀ i (h : i < l.length), i < k → cur[i * 3]? = some (.string l[i].name) ∧ cur[i * 3 + 1]? = some (.int .i64 l[i].mn) ∧ cur[i * 3 + 2]? = some (.int .i64 l[i].mx)
theorem three {k n : Nat} (h : k < n) {j : Nat} (hj : j < 3) : k * 3 + j < n * 3 := by
  have := Nat.mul_le_mul_right 3 (Nat.succ_le_of_lt h)
  omega
theorem ImpsC.step {cur : Array Value} {l : List Imp} {k : Nat} (h : ImpsC cur l k) (hk : k < l.length) (hc : k * 3 + 2 < cur.size) :
    ImpsC (((cur.setIfInBounds (k * 3) (.string l[k].name)).setIfInBounds (k * 3 + 1) (.int .i64 l[k].mn)).setIfInBounds (k * 3 + 2) (.int .i64 l[k].mx)) l (k + 1) := by
  intro i hi hik
  simp only [Array.getElem?_setIfInBounds, Array.size_setIfInBounds]
  by_cases hmk : i = k
  · subst hmk
    refine ⟨?_, ?_, ?_⟩
    · rw [if_neg (by omega), if_neg (by omega), if_pos rfl, if_pos (by omega)]
    · rw [if_neg (by omega), if_pos rfl, if_pos (by omega)]
    · rw [if_pos rfl, if_pos (by omega)]
  · have := h i hi (by omega)
    have h3 := three (show i < k by omega) (show 2 < 3 by omega)
    rw [if_neg (by omega), if_neg (by omega), if_neg (by omega), if_neg (by omega), if_neg (by omega), if_neg (by omega), if_neg (by omega), if_neg (by omega), if_neg (by omega)]
    exact this

/-- The row of needs l, laid in the block g of its own. -/
def RowI (w : World) (g : Nat) (v : Value) (l : List Imp) : Prop := l.length ≤ maxLen ∧ v = .slice (some ⟨g, 0, none⟩) l.length l.length ∧ ∃ cur, Blk w g 39 cur ∧ cur.size = l.length * 3 ∧ ImpsC cur l l.length
theorem RowI.keep {w w' : World} {g : Nat} {v : Value} {l : List Imp} (h : RowI w g v l) (hk : w'.heap[g]? = w.heap[g]?) : RowI w' g v l := by
  obtain ⟨h1, h2, cur, h3, h4⟩ := h
  exact ⟨h1, h2, cur, by unfold Blk at *; rw [hk]; exact h3, h4⟩
theorem RowI.lt {w : World} {g : Nat} {v : Value} {l : List Imp} (h : RowI w g v l) : g < w.heap.size := by
  obtain ⟨h1, h2, cur, h3, h4⟩ := h
  exact h3.lt
theorem RowI.imps {S : Nat → Prop} {w : World} {g : Nat} {v : Value} {l : List Imp} (h : RowI w g v l) (hS : S g) : ImpsAt S w v l := by
  obtain ⟨h1, h2, cur, h3, h4, h5⟩ := h
  refine ⟨h1, _, _, h2, fun _ => ⟨g, 0, rfl, hS, fun i hi => ?_⟩⟩
  simp only [Nat.zero_add]
  rw [h3.cell, h3.cell, h3.cell]
  exact h5 i hi hi

set_option maxRecDepth 100000 in
set_option maxHeartbeats 400000 in
theorem toImportS {S : Nat → Prop} {l : List Imp} {v : Value} {w : World} (hS : ∀ b, S b → b < w.heap.size) (h : ImpsAt S w v l) (hl : l.length ≤ 1048576) :
    Calls Tryd.prog 20 #[v] w fun e w' => (∃ v', e = .returned v' ∧ RowI w' w.heap.size v' l) ∧ Below w.heap.size w w' := by
  obtain ⟨hlm, a, cap, rfl, hc⟩ := h
  have HC : Hid _ := hc
  clear hc
  obtain ⟨n, hn⟩ : ∃ n, l.length = n := ⟨_, rfl⟩
  obtain ⟨cur0, hcs, hmk0⟩ := make3 33 39 32 n Tryd.underlying33 (by kernel_rfl) (by omega) (by omega) w
  rw [hn] at hl hlm ⊢
  go_enter Tryd.func20, Tryd.ntmps20
  go_wp2_with fail
  go_loopw [4] (fun i4 wr => ∃ (k : Nat) (cur : Array Value), i4 = .int .i64 (k : Int) ∧ k ≤ n ∧ Blk wr w.heap.size 39 cur ∧ cur.size = n * 3 ∧ ImpsC cur l k ∧ Below w.heap.size w wr) (fun i4 _ => n - (intOf i4).toNat)
  case atStart => exact ⟨0, cur0, rfl, by omega, heap_alloc_last w _, hcs, fun i _ h => by omega, (Below.refl _ w).alloc (Nat.le_refl _) _⟩
  case round =>
    obtain ⟨k, cur, rfl, hk, hblk, hsz, hic, hb⟩ := hrel
    have HI : Hid (ImpsC cur l k) := hic
    have HB : Hid (Blk wr w.heap.size 39 cur) := hblk
    clear hic hblk
    by_cases hkn : k < n
    · have hkn' : (k : Int) < (n : Int) := by omega
      have hkl : k < l.length := by omega
      obtain ⟨b, off, rfl, hbB, hcell⟩ := HC.out (by omega)
      obtain ⟨c1, c2, c3⟩ := hcell k hkl
      have hbw : b < w.heap.size := hS b hbB
      have d1 := (hb.cell (p := ⟨b, off + k * 3, none⟩) hbw).trans c1
      have d2 := (hb.cell (p := ⟨b, off + k * 3 + 1, none⟩) hbw).trans c2
      have d3 := (hb.cell (p := ⟨b, off + k * 3 + 2, none⟩) hbw).trans c3
      have hst := HI.out.step hkl (by have := three hkn (show 2 < 3 by omega); omega)
      obtain ⟨x, hxk⟩ : ∃ x, l[k] = x := ⟨_, rfl⟩
      rw [hxk] at d1 d2 d3 hst
      clear hxk c1 c2 c3 hcell
      obtain ⟨nm, mn, mx⟩ := x
      dsimp only at d1 d2 d3 hst
      have HST : Hid _ := hst
      clear hst
      have z2 := three hkn (show 2 < 3 by omega)
      have z0 : k * 3 < cur.size := by omega
      have z1 : k * 3 + 1 < cur.size := by omega
      have z3 : k * 3 + 2 < cur.size := by omega
      go_wp2_with (go_at_call 31; go_must (refine (toImport nm mn mx _).mono ?_; rintro e w1 ⟨rfl, hb1⟩; have hbk := HB.out.below hb1; have e0 := hbk.cell (k * 3); have e1 := hbk.cell (k * 3 + 1); have e2 := hbk.cell (k * 3 + 2); rw [Array.getElem?_eq_getElem z0] at e0; rw [Array.getElem?_eq_getElem z1] at e1; rw [Array.getElem?_eq_getElem z3] at e2; have f0 := hbk.fro (k * 3); have f1 := hbk.fro (k * 3 + 1); have f2 := hbk.fro (k * 3 + 2)))
      exact ⟨⟨k + 1, _, rfl, by omega, ((hbk.set (k * 3) _).set (k * 3 + 1) _).set (k * 3 + 2) _, by simp [hsz], HST.out, (((good_below hb hb1).setCell (Nat.le_refl _) _).setCell (Nat.le_refl _) _).setCell (Nat.le_refl _) _⟩, by simp [intOf]; omega⟩
    · have hkn' : ¬ ((k : Int) < (n : Int)) := by omega
      go_wp2_with fail
      go_ret
      exact ⟨⟨.slice (some ⟨w.heap.size, 0, none⟩) n n, rfl, by omega, by rw [hn], cur, HB.out, by rw [hsz, hn], by rw [hn]; obtain rfl : k = n := (by omega); exact HI.out⟩, hb⟩

theorem ImpsAt.shape {S : Nat → Prop} {w : World} {v : Value} {l : List Imp} (h : ImpsAt S w v l) : ∃ a c, v = .slice a l.length c := by
  obtain ⟨_, a, c, hv, _⟩ := h
  exact ⟨a, c, hv⟩
theorem Blk.other {w : World} {g g' : Nat} {ty : TypeId} {cs : Array Value} (h : Blk w g ty cs) (hne : g ≠ g') (i : Nat) (v : Value) : Blk (w.setCell ⟨g', i, none⟩ v) g ty cs := by
  unfold Blk at *
  rw [Below.heap_setCell _ _ _ _ hne]; exact h
set_option maxRecDepth 100000 in
theorem toRelease {S : Nat → Prop} (nm : ByteArray) (ve : Int) (ns : List Imp) (nv : Value) (w : World) (hS : ∀ b, S b → b < w.heap.size) (h : ImpsAt S w nv ns) (hl : ns.length ≤ 1048576) :
    Calls Tryd.prog 12 #[.agg #[.string nm, .int .i64 ve, nv]] w fun e w' => (∃ nv', e = .returned (.agg #[.string nm, .int .i64 ve, nv']) ∧ ∃ g, w.heap.size ≤ g ∧ RowI w' g nv' ns) ∧ Below w.heap.size w w' := by
  have cs := fun o p q => toImportS (w := ((w.alloc o).alloc p).alloc q) (fun b hb => Nat.lt_of_lt_of_le (hS b hb) (bel3 w o p q).size) (h.keep (cells_below hS (bel3 w o p q))) hl
  clear h
  go_enter Tryd.func12, Tryd.ntmps12
  go_wp2_with (go_at_call 20; go_must (refine (cs _ _ _).mono ?_; rintro e w1 ⟨⟨nv', rfl, hn⟩, hb1⟩; simp only [World.size_alloc] at hn; have HN : Hid (RowI w1 (w.heap.size + 1 + 1 + 1) nv' ns) := hn; obtain rfl := hn.2.1; clear hn; have hk1 : Blk w1 (w.heap.size + 1) 35 #[.string ⟨#[]⟩, .int .i64 0, .slice none 0 0] := Blk.below (last3 w _ _ _) hb1; have hk2 : Blk w1 (w.heap.size + 1 + 1) 35 #[.string nm, .int .i64 ve, .slice none 0 0] := Blk.below (last3' w _ _ _) hb1; have e10 := hk1.cell 0; have e11 := hk1.cell 1; have e12 := hk1.cell 2; have e20 := hk2.cell 0; have e21 := hk2.cell 1; have e22 := hk2.cell 2; simp at e10 e11 e12 e20 e21 e22; have f10 := hk1.fro 0; have f11 := hk1.fro 1; have f12 := hk1.fro 2; have f20 := hk2.fro 0; have f21 := hk2.fro 1; have f22 := hk2.fro 2))
  have hb2 : Below w.heap.size w w1 := (bel3 w _ _ _).trans (hb1.mono (bel3 w _ _ _).size)
  have hle1 : w.heap.size ≤ w.heap.size + 1 := by omega
  have hle2 : w.heap.size ≤ w.heap.size + 1 + 1 := by omega
  refine bodyPost_ret (v := .agg #[.string nm, .int .i64 ve, .slice (some ⟨w.heap.size + 1 + 1 + 1, 0, none⟩) ns.length ns.length]) (results_cell_row rfl _ _ (w.heap.size + 1) 35 #[.string nm, .int .i64 ve, .slice (some ⟨w.heap.size + 1 + 1 + 1, 0, none⟩) ns.length ns.length] (0, 0) _ rfl ((((hk1.other (by omega) 2 _).set 0 _).set 1 _).set 2 _) Tryd.underlying35 rfl (by kernel_rfl)) rfl ?_
  refine ⟨⟨_, rfl, ?_⟩, (((hb2.setCell hle2 _).setCell hle1 _).setCell hle1 _).setCell hle1 _⟩
  refine ⟨_, by omega, HN.out.keep ?_⟩
  rw [Below.heap_setCell _ _ _ _ (by show w.heap.size + 1 + 1 + 1 ≠ w.heap.size + 1; omega), Below.heap_setCell _ _ _ _ (by show w.heap.size + 1 + 1 + 1 ≠ w.heap.size + 1; omega), Below.heap_setCell _ _ _ _ (by show w.heap.size + 1 + 1 + 1 ≠ w.heap.size + 1; omega), Below.heap_setCell _ _ _ _ (by show w.heap.size + 1 + 1 + 1 ≠ w.heap.size + 1 + 1; omega)]

/-- A row of releases that is laid: the first k are; their needs lie each in a block between L and U. -/
def RelsC (L U : Nat) (w : World) (cur : Array Value) (l : List Rel) (k : Nat) : Prop := ∀ i (h : i < l.length), i < k → cur[i * 3]? = some (.string l[i].name) ∧ cur[i * 3 + 1]? = some (.int .i64 l[i].ver) ∧ ∃ nv g, cur[i * 3 + 2]? = some nv ∧ L < g ∧ g < U ∧ RowI w g nv l[i].needs
theorem RelsC.keep {L U U' : Nat} {w w' : World} {cur : Array Value} {l : List Rel} {k : Nat} (h : RelsC L U w cur l k) (hU : U ≤ U') (hk : ∀ b, L < b → b < U → w'.heap[b]? = w.heap[b]?) : RelsC L U' w' cur l k := by
  intro i hi hik
  obtain ⟨c1, c2, nv, g, c3, c4, c5, c6⟩ := h i hi hik
  exact ⟨c1, c2, nv, g, c3, c4, by omega, c6.keep (hk g c4 c5)⟩
theorem RelsC.step {L U U' : Nat} {w w' : World} {cur : Array Value} {l : List Rel} {k : Nat} (h : RelsC L U w cur l k) (hk : k < l.length) (hc : k * 3 + 2 < cur.size) (nv : Value) (hU : U ≤ U')
    (hkeep : ∀ b, L < b → b < U → w'.heap[b]? = w.heap[b]?) (g : Nat) (hg : L < g) (hgU : g < U') (hn : RowI w' g nv l[k].needs) :
    RelsC L U' w' (((cur.setIfInBounds (k * 3) (.string l[k].name)).setIfInBounds (k * 3 + 1) (.int .i64 l[k].ver)).setIfInBounds (k * 3 + 2) nv) l (k + 1) := by
  intro i hi hik
  simp only [Array.getElem?_setIfInBounds, Array.size_setIfInBounds]
  by_cases hmk : i = k
  · subst hmk
    refine ⟨?_, ?_, nv, g, ?_, hg, hgU, hn⟩
    · rw [if_neg (by omega), if_neg (by omega), if_pos rfl, if_pos (by omega)]
    · rw [if_neg (by omega), if_pos rfl, if_pos (by omega)]
    · rw [if_pos rfl, if_pos (by omega)]
  · obtain ⟨c1, c2, nv', g', c3, c4, c5, c6⟩ := h i hi (by omega)
    have h3 := three (show i < k by omega) (show 2 < 3 by omega)
    rw [if_neg (by omega), if_neg (by omega), if_neg (by omega), if_neg (by omega), if_neg (by omega), if_neg (by omega), if_neg (by omega), if_neg (by omega), if_neg (by omega)]
    exact ⟨c1, c2, nv', g', c3, c4, by omega, c6.keep (hkeep g' c4 c5)⟩

/-- The row of releases l, laid in the block L of its own, its needs between L and U. -/
def RowR (L U : Nat) (w : World) (v : Value) (l : List Rel) : Prop := l.length ≤ maxLen ∧ v = .slice (some ⟨L, 0, none⟩) l.length l.length ∧ ∃ cur, Blk w L 35 cur ∧ cur.size = l.length * 3 ∧ RelsC L U w cur l l.length
theorem RowR.keep {L U : Nat} {w w' : World} {v : Value} {l : List Rel} (h : RowR L U w v l) (hk : ∀ b, L ≤ b → b < U → w'.heap[b]? = w.heap[b]?) (hU : L < U) : RowR L U w' v l := by
  obtain ⟨h1, h2, cur, h3, h4, h5⟩ := h
  exact ⟨h1, h2, cur, by unfold Blk at *; rw [hk L (Nat.le_refl _) hU]; exact h3, h4, h5.keep (Nat.le_refl _) (fun b hb hb' => hk b (by omega) hb')⟩
theorem RowR.rels {L U : Nat} {w : World} {v : Value} {l : List Rel} (h : RowR L U w v l) (hU : L < U) : RelsAt (fun b => L ≤ b ∧ b < U) w v l := by
  obtain ⟨h1, h2, cur, h3, h4, h5⟩ := h
  refine ⟨h1, _, _, h2, fun _ => ⟨L, 0, rfl, ⟨Nat.le_refl _, hU⟩, fun i hi => ?_⟩⟩
  obtain ⟨c1, c2, nv, g, c3, c4, c5, c6⟩ := h5 i hi hi
  simp only [Nat.zero_add]
  rw [h3.cell, h3.cell, h3.cell]
  exact ⟨c1, c2, nv, c3, c6.imps ⟨by omega, c5⟩⟩

theorem sets3 (w : World) (g i1 i2 i3 : Nat) (v1 v2 v3 : Value) (b i : Nat) (hb : b ≠ g) : (((w.setCell ⟨g, i1, none⟩ v1).setCell ⟨g, i2, none⟩ v2).setCell ⟨g, i3, none⟩ v3).cell? ⟨b, i, none⟩ = w.cell? ⟨b, i, none⟩ := by
  have hne : ∀ j : Nat, (⟨g, j, none⟩ : Addr) ≠ ⟨b, i, none⟩ := fun j e => by injection e with e; exact hb e.symm
  rw [World.cell?_setCell_other _ _ _ _ (hne i3), World.cell?_setCell_other _ _ _ _ (hne i2), World.cell?_setCell_other _ _ _ _ (hne i1)]

set_option maxRecDepth 100000 in
set_option maxHeartbeats 400000 in
theorem toReleaseS {S : Nat → Prop} {l : List Rel} {v : Value} {w : World} (hS : ∀ b, S b → b < w.heap.size) (h : RelsAt S w v l) (hl : l.length ≤ 1048576) (hns : ∀ x ∈ l, x.needs.length ≤ 1048576) :
    Calls Tryd.prog 6 #[v] w fun e w' => (∃ v', e = .returned v' ∧ RowR w.heap.size w'.heap.size w' v' l ∧ w.heap.size < w'.heap.size) ∧ Below w.heap.size w w' := by
  obtain ⟨hlm, a, cap, rfl, hc⟩ := h
  have HC : Hid _ := hc
  have HNS : Hid (∀ x ∈ l, x.needs.length ≤ 1048576) := hns
  clear hc hns
  obtain ⟨n, hn⟩ : ∃ n, l.length = n := ⟨_, rfl⟩
  obtain ⟨cur0, hcs, hmk0⟩ := make3 25 35 48 n Tryd.underlying25 (by kernel_rfl) (by omega) (by omega) w
  rw [hn] at hl hlm ⊢
  go_enter Tryd.func6, Tryd.ntmps6
  go_wp2_with fail
  go_loopw [4] (fun i4 wr => ∃ (k : Nat) (cur : Array Value), i4 = .int .i64 (k : Int) ∧ k ≤ n ∧ Blk wr w.heap.size 35 cur ∧ cur.size = n * 3 ∧ RelsC w.heap.size wr.heap.size wr cur l k ∧ Below w.heap.size w wr) (fun i4 _ => n - (intOf i4).toNat)
  case atStart => exact ⟨0, cur0, rfl, by omega, heap_alloc_last w _, hcs, fun i _ h => by omega, (Below.refl _ w).alloc (Nat.le_refl _) _⟩
  case round =>
    obtain ⟨k, cur, rfl, hk, hblk, hsz, hic, hb⟩ := hrel
    have HI : Hid (RelsC w.heap.size wr.heap.size wr cur l k) := hic
    have HB : Hid (Blk wr w.heap.size 35 cur) := hblk
    clear hic hblk
    by_cases hkn : k < n
    · have hkn' : (k : Int) < (n : Int) := by omega
      have hkl : k < l.length := by omega
      obtain ⟨b, off, rfl, hbB, hcell⟩ := HC.out (by omega)
      obtain ⟨c1, c2, nv, c3, c4⟩ := hcell k hkl
      have hbw : b < w.heap.size := hS b hbB
      have d1 := (hb.cell (p := ⟨b, off + k * 3, none⟩) hbw).trans c1
      have d2 := (hb.cell (p := ⟨b, off + k * 3 + 1, none⟩) hbw).trans c2
      have d3 := (hb.cell (p := ⟨b, off + k * 3 + 2, none⟩) hbw).trans c3
      have z2 := three hkn (show 2 < 3 by omega)
      have z0 : k * 3 < cur.size := by omega
      have z1 : k * 3 + 1 < cur.size := by omega
      have z3 : k * 3 + 2 < cur.size := by omega
      have hst := fun U' w' nv => HI.out.step (U' := U') (w' := w') hkl z3 nv
      have cr := toRelease l[k].name l[k].ver l[k].needs nv wr (fun b hbb => Nat.lt_of_lt_of_le (hS b hbb) hb.size) (c4.keep (cells_below hS hb)) (HNS.out _ (List.getElem_mem hkl))
      obtain ⟨x, hxk⟩ : ∃ x, l[k] = x := ⟨_, rfl⟩
      rw [hxk] at d1 d2 hst cr
      clear hxk c1 c2 c3 c4 hcell
      obtain ⟨nm, ve, ns⟩ := x
      dsimp only at d1 d2 d3 hst cr
      have HST : Hid _ := hst
      clear hst
      go_wp2_with (go_at_call 12; go_must (refine cr.mono ?_; rintro e w1 ⟨⟨nv', rfl, g', hg', hn'⟩, hb1⟩; have HN : Hid (RowI w1 g' nv' ns) := hn'; obtain rfl := hn'.2.1; clear hn'; have hbk := HB.out.below hb1; have e0 := hbk.cell (k * 3); have e1 := hbk.cell (k * 3 + 1); have e2 := hbk.cell (k * 3 + 2); rw [Array.getElem?_eq_getElem z0] at e0; rw [Array.getElem?_eq_getElem z1] at e1; rw [Array.getElem?_eq_getElem z3] at e2; have f0 := hbk.fro (k * 3); have f1 := hbk.fro (k * 3 + 1); have f2 := hbk.fro (k * 3 + 2)))
      have hglt := HB.out.lt
      have hkp : ∀ b, b ≠ w.heap.size → ∀ v1 v2 v3 : Value, (((w1.setCell ⟨w.heap.size, k * 3, none⟩ v1).setCell ⟨w.heap.size, k * 3 + 1, none⟩ v2).setCell ⟨w.heap.size, k * 3 + 2, none⟩ v3).heap[b]? = w1.heap[b]? := fun b hb v1 v2 v3 => by
        rw [Below.heap_setCell _ _ _ _ hb, Below.heap_setCell _ _ _ _ hb, Below.heap_setCell _ _ _ _ hb]
      have hgl := HN.out.lt
      refine ⟨⟨k + 1, _, rfl, by omega, ((hbk.set (k * 3) _).set (k * 3 + 1) _).set (k * 3 + 2) _, by simp [hsz], ?_, (((good_below hb hb1).setCell (Nat.le_refl _) _).setCell (Nat.le_refl _) _).setCell (Nat.le_refl _) _⟩, by simp [intOf]; omega⟩
      exact HST.out _ _ _ (by simp only [World.size_setCell]; exact hb1.size) (fun b hb3 hb4 => (hkp b (by omega) _ _ _).trans (hb1.block b hb4)) g' (by omega) (by simp only [World.size_setCell]; exact hgl) (HN.out.keep (hkp g' (by omega) _ _ _))
    · have hkn' : ¬ ((k : Int) < (n : Int)) := by omega
      go_wp2_with fail
      go_ret
      exact ⟨⟨.slice (some ⟨w.heap.size, 0, none⟩) n n, rfl, ⟨by omega, by rw [hn], cur, HB.out, by rw [hsz, hn], by rw [hn]; obtain rfl : k = n := (by omega); exact HI.out⟩, HB.out.lt⟩, hb⟩
end Go.Proofs.YtmgboljcdhegiaaDoor
