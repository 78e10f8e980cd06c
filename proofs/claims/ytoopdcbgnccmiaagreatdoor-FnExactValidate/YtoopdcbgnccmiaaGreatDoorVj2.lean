/-
  Rules are copied. Rules are held against each other. Copies of rules are marked. A row of texts that came in. Rules that came in are opened. The law on Lookup: its walk, over what both Lookup answer. Rows of texts and of settings of one's own: many appended. No statement of the seat is proved here.
-/
import Derived.Test.YtoopdcbgnccmiaaGreatDoorVj1
import Derived.Deep.Strs
import Derived.Deep.Cut
import Derived.Laws.AppendOwn
import Derived.Laws.AppendOwnNone
namespace Go.Proofs.YtoopdcbgnccmiaaGreatDoor
open Go.ChangeShapes Go.WideShapes Go.ChangeAt Go.RowKit
set_option linter.unusedVariables false
set_option linter.unusedSimpArgs false

theorem last30 (w : World) (o p q : Obj) : (((w.alloc o).alloc p).alloc q).heap[w.heap.size]? = some o := by
  have h1 := heap_alloc_last w o
  have hb : Below (w.alloc o).heap.size (w.alloc o) (((w.alloc o).alloc p).alloc q) := ((Below.refl _ _).alloc (Nat.le_refl _) _).alloc (by simp only [World.size_alloc]; omega) _
  have := hb.block w.heap.size (by simp only [World.size_alloc]; omega)
  rw [this]; exact h1
set_option maxRecDepth 100000 in
theorem toRule {S : Nat → Prop} (x0 : ByteArray) (x1 : Int) (x2 : Int) (x3 : Int) (x4 : List ByteArray) (x5 : Bool) (x6 : ByteArray) (nv : Value) (w : World) (hS : ∀ b, S b → b < w.heap.size) (h : TxtsAt S w nv x4) (hl : x4.length ≤ 1048576) :
    Calls Tryz.prog 51 #[.agg #[.string x0, .int .i64 x1, .int .i64 x2, .int .i64 x3, nv, .bool x5, .string x6]] w fun e w' => (∃ nv', e = .returned (.agg #[.string x0, .int .i64 x1, .int .i64 x2, .int .i64 x3, nv', .bool x5, .string x6]) ∧ ∃ g, w.heap.size ≤ g ∧ RowTxts w' g nv' x4) ∧ Below w.heap.size w w' := by
  have cs := fun o p q => toStringS (w := ((w.alloc o).alloc p).alloc q) (fun b hb => Nat.lt_of_lt_of_le (hS b hb) (bel3 w o p q).size) (h.keep (cells_below hS (bel3 w o p q))) hl
  clear h
  go_enter Tryz.func51, Tryz.ntmps51
  go_wp2_with (go_at_call 24; go_must (refine (cs _ _ _).mono ?_; rintro e w1 ⟨⟨nv', rfl, hn⟩, hb1⟩; simp only [World.size_alloc] at hn; have HN : Hid (RowTxts w1 (w.heap.size + 1 + 1 + 1) nv' x4) := hn; obtain rfl := hn.2.1; clear hn; have hk1 : Blk w1 (w.heap.size + 1) 85 #[.string ⟨#[]⟩, .int .i64 0, .int .i64 0, .int .i64 0, .slice none 0 0, .bool false, .string ⟨#[]⟩] := Blk.below (last3 w _ _ _) hb1; have hk2 : Blk w1 (w.heap.size + 1 + 1) 85 #[.string x0, .int .i64 x1, .int .i64 x2, .int .i64 x3, .slice none 0 0, .bool false, .string ⟨#[]⟩] := Blk.below (last3' w _ _ _) hb1; have e10 := hk1.cell 0; have e11 := hk1.cell 1; have e12 := hk1.cell 2; have e13 := hk1.cell 3; have e14 := hk1.cell 4; have e15 := hk1.cell 5; have e16 := hk1.cell 6; have e20 := hk2.cell 0; have e21 := hk2.cell 1; have e22 := hk2.cell 2; have e23 := hk2.cell 3; have e24 := hk2.cell 4; have e25 := hk2.cell 5; have e26 := hk2.cell 6; simp at e10 e11 e12 e13 e14 e15 e16 e20 e21 e22 e23 e24 e25 e26; have f10 := hk1.fro 0; have f11 := hk1.fro 1; have f12 := hk1.fro 2; have f13 := hk1.fro 3; have f14 := hk1.fro 4; have f15 := hk1.fro 5; have f16 := hk1.fro 6; have f20 := hk2.fro 0; have f21 := hk2.fro 1; have f22 := hk2.fro 2; have f23 := hk2.fro 3; have f24 := hk2.fro 4; have f25 := hk2.fro 5; have f26 := hk2.fro 6; have hk0 : Blk w1 w.heap.size 75 #[.string x0, .int .i64 x1, .int .i64 x2, .int .i64 x3, nv, .bool x5, .string x6] := Blk.below (last30 w _ _ _) hb1; have e05 := hk0.cell 5; simp at e05; have e06 := hk0.cell 6; simp at e06))
  have hb2 : Below w.heap.size w w1 := (bel3 w _ _ _).trans (hb1.mono (bel3 w _ _ _).size)
  have hle1 : w.heap.size ≤ w.heap.size + 1 := by omega
  have hle2 : w.heap.size ≤ w.heap.size + 1 + 1 := by omega
  refine bodyPost_ret (v := .agg #[.string x0, .int .i64 x1, .int .i64 x2, .int .i64 x3, .slice (some ⟨w.heap.size + 1 + 1 + 1, 0, none⟩) x4.length x4.length, .bool x5, .string x6]) (results_cell_row rfl _ _ (w.heap.size + 1) 85 #[.string x0, .int .i64 x1, .int .i64 x2, .int .i64 x3, .slice (some ⟨w.heap.size + 1 + 1 + 1, 0, none⟩) x4.length x4.length, .bool x5, .string x6] (0, 0) _ rfl ((((((((((hk1.other (show w.heap.size + 1 ≠ w.heap.size + 1 + 1 by omega) 4 _).other (show w.heap.size + 1 ≠ w.heap.size + 1 + 1 by omega) 5 _).other (show w.heap.size + 1 ≠ w.heap.size + 1 + 1 by omega) 6 _).set 0 _).set 1 _).set 2 _).set 3 _).set 4 _).set 5 _).set 6 _) Tryz.underlying85 rfl (by kernel_rfl)) rfl ?_
  refine ⟨⟨_, rfl, ?_⟩, ((((((((((hb2.setCell hle2 _).setCell hle2 _).setCell hle2 _).setCell hle1 _).setCell hle1 _).setCell hle1 _).setCell hle1 _).setCell hle1 _).setCell hle1 _).setCell hle1 _)⟩
  refine ⟨_, by omega, HN.out.keep ?_⟩
  rw [Below.heap_setCell _ _ _ _ (by show w.heap.size + 1 + 1 + 1 ≠ w.heap.size + 1; omega), Below.heap_setCell _ _ _ _ (by show w.heap.size + 1 + 1 + 1 ≠ w.heap.size + 1; omega), Below.heap_setCell _ _ _ _ (by show w.heap.size + 1 + 1 + 1 ≠ w.heap.size + 1; omega), Below.heap_setCell _ _ _ _ (by show w.heap.size + 1 + 1 + 1 ≠ w.heap.size + 1; omega), Below.heap_setCell _ _ _ _ (by show w.heap.size + 1 + 1 + 1 ≠ w.heap.size + 1; omega), Below.heap_setCell _ _ _ _ (by show w.heap.size + 1 + 1 + 1 ≠ w.heap.size + 1; omega), Below.heap_setCell _ _ _ _ (by show w.heap.size + 1 + 1 + 1 ≠ w.heap.size + 1; omega), Below.heap_setCell _ _ _ _ (by show w.heap.size + 1 + 1 + 1 ≠ w.heap.size + 1 + 1; omega), Below.heap_setCell _ _ _ _ (by show w.heap.size + 1 + 1 + 1 ≠ w.heap.size + 1 + 1; omega), Below.heap_setCell _ _ _ _ (by show w.heap.size + 1 + 1 + 1 ≠ w.heap.size + 1 + 1; omega)]
/-- A row that is laid: the first k are; what they hold lies each in a block between L and U. -/
def RulesC (L U : Nat) (w : World) (cur : Array Value) (l : List Rule) (k : Nat) : Prop := ∀ i (h : i < l.length), i < k → cur[i * 7]? = some (.string l[i].path) ∧ cur[i * 7 + 1]? = some (.int .i64 l[i].kind) ∧ cur[i * 7 + 2]? = some (.int .i64 l[i].min') ∧ cur[i * 7 + 3]? = some (.int .i64 l[i].max') ∧ cur[i * 7 + 5]? = some (.bool l[i].must) ∧ cur[i * 7 + 6]? = some (.string l[i].default') ∧ ∃ nv g, cur[i * 7 + 4]? = some nv ∧ L < g ∧ g < U ∧ RowTxts w g nv l[i].choices
theorem RulesC.keep {L U U' : Nat} {w w' : World} {cur : Array Value} {l : List Rule} {k : Nat} (h : RulesC L U w cur l k) (hU : U ≤ U') (hk : ∀ b, L < b → b < U → w'.heap[b]? = w.heap[b]?) : RulesC L U' w' cur l k := by
  intro i hi hik
  obtain ⟨c0, c1, c2, c3, c5, c6, nv, g, q3, q4, q5, q6⟩ := h i hi hik
  exact ⟨c0, c1, c2, c3, c5, c6, nv, g, q3, q4, by omega, q6.keep (hk g q4 q5)⟩
theorem RulesC.step {L U U' : Nat} {w w' : World} {cur : Array Value} {l : List Rule} {k : Nat} (h : RulesC L U w cur l k) (hk : k < l.length) (hc : k * 7 + 6 < cur.size) (nv : Value) (hU : U ≤ U')
    (hkeep : ∀ b, L < b → b < U → w'.heap[b]? = w.heap[b]?) (g : Nat) (hg : L < g) (hgU : g < U') (hn : RowTxts w' g nv l[k].choices) :
    RulesC L U' w' (((((((cur.setIfInBounds (k * 7) (.string l[k].path)).setIfInBounds (k * 7 + 1) (.int .i64 l[k].kind)).setIfInBounds (k * 7 + 2) (.int .i64 l[k].min')).setIfInBounds (k * 7 + 3) (.int .i64 l[k].max')).setIfInBounds (k * 7 + 4) (nv)).setIfInBounds (k * 7 + 5) (.bool l[k].must)).setIfInBounds (k * 7 + 6) (.string l[k].default')) l (k + 1) := by
  intro i hi hik
  simp only [Array.getElem?_setIfInBounds, Array.size_setIfInBounds]
  by_cases hmk : i = k
  · subst hmk
    refine ⟨?_, ?_, ?_, ?_, ?_, ?_, nv, g, ?_, hg, hgU, hn⟩
    · rw [if_neg (by omega), if_neg (by omega), if_neg (by omega), if_neg (by omega), if_neg (by omega), if_neg (by omega), if_pos rfl, if_pos (by omega)]
    · rw [if_neg (by omega), if_neg (by omega), if_neg (by omega), if_neg (by omega), if_neg (by omega), if_pos rfl, if_pos (by omega)]
    · rw [if_neg (by omega), if_neg (by omega), if_neg (by omega), if_neg (by omega), if_pos rfl, if_pos (by omega)]
    · rw [if_neg (by omega), if_neg (by omega), if_neg (by omega), if_pos rfl, if_pos (by omega)]
    · rw [if_neg (by omega), if_pos rfl, if_pos (by omega)]
    · rw [if_pos rfl, if_pos (by omega)]
    · rw [if_neg (by omega), if_neg (by omega), if_pos rfl, if_pos (by omega)]
  · obtain ⟨c0, c1, c2, c3, c5, c6, nv', g', q3, q4, q5, q6⟩ := h i hi (by omega)
    have h3 : i * 7 + 6 < k * 7 := by omega
    rw [if_neg (by omega), if_neg (by omega), if_neg (by omega), if_neg (by omega), if_neg (by omega), if_neg (by omega), if_neg (by omega), if_neg (by omega), if_neg (by omega), if_neg (by omega), if_neg (by omega), if_neg (by omega), if_neg (by omega), if_neg (by omega), if_neg (by omega), if_neg (by omega), if_neg (by omega), if_neg (by omega), if_neg (by omega), if_neg (by omega), if_neg (by omega), if_neg (by omega), if_neg (by omega), if_neg (by omega), if_neg (by omega), if_neg (by omega), if_neg (by omega), if_neg (by omega), if_neg (by omega), if_neg (by omega), if_neg (by omega), if_neg (by omega), if_neg (by omega), if_neg (by omega), if_neg (by omega), if_neg (by omega), if_neg (by omega), if_neg (by omega), if_neg (by omega), if_neg (by omega), if_neg (by omega), if_neg (by omega), if_neg (by omega), if_neg (by omega), if_neg (by omega), if_neg (by omega), if_neg (by omega), if_neg (by omega), if_neg (by omega)]
    exact ⟨c0, c1, c2, c3, c5, c6, nv', g', q3, q4, by omega, q6.keep (hkeep g' q4 q5)⟩
/-- The row l, laid in the block L of its own, what it holds between L and U. -/
def RowRules (L U : Nat) (w : World) (v : Value) (l : List Rule) : Prop := l.length ≤ maxLen ∧ v = .slice (some ⟨L, 0, none⟩) l.length l.length ∧ ∃ cur, Blk w L 85 cur ∧ cur.size = l.length * 7 ∧ RulesC L U w cur l l.length
theorem RowRules.keep {L U : Nat} {w w' : World} {v : Value} {l : List Rule} (h : RowRules L U w v l) (hk : ∀ b, L ≤ b → b < U → w'.heap[b]? = w.heap[b]?) (hU : L < U) : RowRules L U w' v l := by
  obtain ⟨h1, h2, cur, h3, h4, h5⟩ := h
  exact ⟨h1, h2, cur, by unfold Blk at *; rw [hk L (Nat.le_refl _) hU]; exact h3, h4, h5.keep (Nat.le_refl _) (fun b hb hb' => hk b (by omega) hb')⟩
theorem RowRules.at {L U : Nat} {w : World} {v : Value} {l : List Rule} (h : RowRules L U w v l) (hU : L < U) : RulesAt (fun b => L ≤ b ∧ b < U) w v l := by
  obtain ⟨h1, h2, cur, h3, h4, h5⟩ := h
  refine ⟨h1, _, _, h2, fun _ => ⟨L, 0, rfl, ⟨Nat.le_refl _, hU⟩, fun i hi => ?_⟩⟩
  obtain ⟨c0, c1, c2, c3, c5, c6, nv, g, q3, q4, q5, q6⟩ := h5 i hi hi
  simp only [Nat.zero_add]
  rw [h3.cell, h3.cell, h3.cell, h3.cell, h3.cell, h3.cell, h3.cell]
  exact ⟨c0, c1, c2, c3, c5, c6, nv, q3, q6.at ⟨by omega, q5⟩⟩
set_option maxRecDepth 100000 in
set_option maxHeartbeats 400000 in
theorem toRuleS {S : Nat → Prop} {l : List Rule} {v : Value} {w : World} (hS : ∀ b, S b → b < w.heap.size) (h : RulesAt S w v l) (hl : l.length ≤ 1048576) (hns : ∀ x ∈ l, x.choices.length ≤ 1048576) :
    Calls Tryz.prog 10 #[v] w fun e w' => (∃ v', e = .returned v' ∧ RowRules w.heap.size w'.heap.size w' v' l ∧ w.heap.size < w'.heap.size) ∧ Below w.heap.size w w' := by
  obtain ⟨hlm, a, cap, rfl, hc⟩ := h
  have HC : Hid _ := hc
  have HNS : Hid (∀ x ∈ l, x.choices.length ≤ 1048576) := hns
  clear hc hns
  obtain ⟨n, hn⟩ : ∃ n, l.length = n := ⟨_, rfl⟩
  obtain ⟨cur0, hcs, hmk0⟩ := makeN 7 29 85 88 n Tryz.underlying29 (by kernel_rfl) (by omega) (by omega) w
  rw [hn] at hl hlm ⊢
  go_enter Tryz.func10, Tryz.ntmps10
  go_wp2_with fail
  go_loopw [4] (fun i4 wr => ∃ (k : Nat) (cur : Array Value), i4 = .int .i64 (k : Int) ∧ k ≤ n ∧ Blk wr w.heap.size 85 cur ∧ cur.size = n * 7 ∧ RulesC w.heap.size wr.heap.size wr cur l k ∧ Below w.heap.size w wr) (fun i4 _ => n - (intOf i4).toNat)
  case atStart => exact ⟨0, cur0, rfl, by omega, heap_alloc_last w _, hcs, fun i _ h => by omega, (Below.refl _ w).alloc (Nat.le_refl _) _⟩
  case round =>
    obtain ⟨k, cur, rfl, hk, hblk, hsz, hic, hb⟩ := hrel
    have HI : Hid (RulesC w.heap.size wr.heap.size wr cur l k) := hic
    have HB : Hid (Blk wr w.heap.size 85 cur) := hblk
    clear hic hblk
    by_cases hkn : k < n
    · have hkn' : (k : Int) < (n : Int) := by omega
      have hkl : k < l.length := by omega
      obtain ⟨b, off, rfl, hbB, hcell⟩ := HC.out (by omega)
      obtain ⟨c0, c1, c2, c3, c5, c6, nv, t1, t2⟩ := hcell k hkl
      have hbw : b < w.heap.size := hS b hbB
      have d0 := (hb.cell (p := ⟨b, off + k * 7, none⟩) hbw).trans c0
      have d1 := (hb.cell (p := ⟨b, off + k * 7 + 1, none⟩) hbw).trans c1
      have d2 := (hb.cell (p := ⟨b, off + k * 7 + 2, none⟩) hbw).trans c2
      have d3 := (hb.cell (p := ⟨b, off + k * 7 + 3, none⟩) hbw).trans c3
      have d5 := (hb.cell (p := ⟨b, off + k * 7 + 5, none⟩) hbw).trans c5
      have d6 := (hb.cell (p := ⟨b, off + k * 7 + 6, none⟩) hbw).trans c6
      have d4 := (hb.cell (p := ⟨b, off + k * 7 + 4, none⟩) hbw).trans t1
      have z0 : k * 7 < cur.size := by rw [hsz]; omega
      have z1 : k * 7 + 1 < cur.size := by rw [hsz]; omega
      have z2 : k * 7 + 2 < cur.size := by rw [hsz]; omega
      have z3 : k * 7 + 3 < cur.size := by rw [hsz]; omega
      have z4 : k * 7 + 4 < cur.size := by rw [hsz]; omega
      have z5 : k * 7 + 5 < cur.size := by rw [hsz]; omega
      have z6 : k * 7 + 6 < cur.size := by rw [hsz]; omega
      have hst := fun U' w' nv => HI.out.step (U' := U') (w' := w') hkl z6 nv
      have cr := toRule l[k].path l[k].kind l[k].min' l[k].max' l[k].choices l[k].must l[k].default' nv wr (fun b hbb => Nat.lt_of_lt_of_le (hS b hbb) hb.size) (t2.keep (cells_below hS hb)) (HNS.out _ (List.getElem_mem hkl))
      obtain ⟨x, hxk⟩ : ∃ x, l[k] = x := ⟨_, rfl⟩
      rw [hxk] at d0 d1 d2 d3 d5 d6 hst cr
      clear hxk c0 c1 c2 c3 c5 c6 t1 t2 hcell
      obtain ⟨x0, x1, x2, x3, x4, x5, x6⟩ := x
      dsimp only at d0 d1 d2 d3 d5 d6 d4 hst cr
      have HST : Hid _ := hst
      clear hst
      go_wp2_with (go_at_call 51; go_must (refine cr.mono ?_; rintro e w1 ⟨⟨nv', rfl, g', hg', hn'⟩, hb1⟩; have HN : Hid (RowTxts w1 g' nv' x4) := hn'; obtain rfl := hn'.2.1; clear hn'; have hbk := HB.out.below hb1; have e0 := hbk.cell (k * 7); have e1 := hbk.cell (k * 7 + 1); have e2 := hbk.cell (k * 7 + 2); have e3 := hbk.cell (k * 7 + 3); have e4 := hbk.cell (k * 7 + 4); have e5 := hbk.cell (k * 7 + 5); have e6 := hbk.cell (k * 7 + 6); rw [Array.getElem?_eq_getElem z0] at e0; rw [Array.getElem?_eq_getElem z1] at e1; rw [Array.getElem?_eq_getElem z2] at e2; rw [Array.getElem?_eq_getElem z3] at e3; rw [Array.getElem?_eq_getElem z4] at e4; rw [Array.getElem?_eq_getElem z5] at e5; rw [Array.getElem?_eq_getElem z6] at e6; have f0 := hbk.fro (k * 7); have f1 := hbk.fro (k * 7 + 1); have f2 := hbk.fro (k * 7 + 2); have f3 := hbk.fro (k * 7 + 3); have f4 := hbk.fro (k * 7 + 4); have f5 := hbk.fro (k * 7 + 5); have f6 := hbk.fro (k * 7 + 6)))
      have hglt := HB.out.lt
      have hkp : ∀ b, b ≠ w.heap.size → ∀ v0 v1 v2 v3 v4 v5 v6 : Value, (((((((w1.setCell ⟨w.heap.size, k * 7, none⟩ v0).setCell ⟨w.heap.size, k * 7 + 1, none⟩ v1).setCell ⟨w.heap.size, k * 7 + 2, none⟩ v2).setCell ⟨w.heap.size, k * 7 + 3, none⟩ v3).setCell ⟨w.heap.size, k * 7 + 4, none⟩ v4).setCell ⟨w.heap.size, k * 7 + 5, none⟩ v5).setCell ⟨w.heap.size, k * 7 + 6, none⟩ v6).heap[b]? = w1.heap[b]? := fun b hb v0 v1 v2 v3 v4 v5 v6 => by
        rw [Below.heap_setCell _ _ _ _ hb, Below.heap_setCell _ _ _ _ hb, Below.heap_setCell _ _ _ _ hb, Below.heap_setCell _ _ _ _ hb, Below.heap_setCell _ _ _ _ hb, Below.heap_setCell _ _ _ _ hb, Below.heap_setCell _ _ _ _ hb]
      have hgl := HN.out.lt
      refine ⟨⟨k + 1, _, rfl, by omega, (((((((hbk.set (k * 7) _).set (k * 7 + 1) _).set (k * 7 + 2) _).set (k * 7 + 3) _).set (k * 7 + 4) _).set (k * 7 + 5) _).set (k * 7 + 6) _), by simp [hsz], ?_, ((((((((good_below hb hb1).setCell (Nat.le_refl _) _).setCell (Nat.le_refl _) _).setCell (Nat.le_refl _) _).setCell (Nat.le_refl _) _).setCell (Nat.le_refl _) _).setCell (Nat.le_refl _) _).setCell (Nat.le_refl _) _)⟩, by simp [intOf]; omega⟩
      exact HST.out _ _ _ (by simp only [World.size_setCell]; exact hb1.size) (fun b hb3 hb4 => (hkp b (by omega) _ _ _ _ _ _ _).trans (hb1.block b hb4)) g' (by omega) (by simp only [World.size_setCell]; exact hgl) (HN.out.keep (hkp g' (by omega) _ _ _ _ _ _ _))
    · have hkn' : ¬ ((k : Int) < (n : Int)) := by omega
      go_wp2_with fail
      go_ret
      exact ⟨⟨.slice (some ⟨w.heap.size, 0, none⟩) n n, rfl, ⟨by omega, by rw [hn], cur, HB.out, by rw [hsz, hn], by rw [hn]; obtain rfl : k = n := (by omega); exact HI.out⟩, HB.out.lt⟩, hb⟩
end Go.Proofs.YtoopdcbgnccmiaaGreatDoor

namespace Go.Proofs.YtoopdcbgnccmiaaGreatDoor
open Go.ChangeShapes Go.WideShapes Go.ChangeAt Go.RowKit
set_option linter.unusedVariables false
set_option linter.unusedSimpArgs false

set_option maxRecDepth 100000 in
theorem eqRule {S1 S2 : Nat → Prop} (x0 : ByteArray) (x1 : Int) (x2 : Int) (x3 : Int) (x4 : List ByteArray) (x5 : Bool) (x6 : ByteArray) (n1 n2 : Value) (w : World) (hS1 : ∀ b, S1 b → b < w.heap.size) (hS2 : ∀ b, S2 b → b < w.heap.size) (h1 : TxtsAt S1 w n1 x4) (h2 : TxtsAt S2 w n2 x4) :
    Calls Tryz.prog 55 #[.agg #[.string x0, .int .i64 x1, .int .i64 x2, .int .i64 x3, n1, .bool x5, .string x6], .agg #[.string x0, .int .i64 x1, .int .i64 x2, .int .i64 x3, n2, .bool x5, .string x6]] w fun e w' => e = .returned (.bool true) ∧ Below w.heap.size w w' := by
  have hw2 : ∀ o p, Below w.heap.size w ((w.alloc o).alloc p) := fun o p => ((Below.refl _ w).alloc (Nat.le_refl _) _).alloc (by simp) _
  have ce := fun o p => eqStringS (w := (w.alloc o).alloc p) (fun b hb => Nat.lt_of_lt_of_le (hS1 b hb) (hw2 o p).size) (fun b hb => Nat.lt_of_lt_of_le (hS2 b hb) (hw2 o p).size) (h1.keep (cells_below hS1 (hw2 o p))) (h2.keep (cells_below hS2 (hw2 o p)))
  obtain ⟨a1, c1, rfl⟩ := h1.shape
  obtain ⟨a2, c2, rfl⟩ := h2.shape
  clear h1 h2
  go_enter Tryz.func55, Tryz.ntmps55
  go_wp2_with (go_at_call 27; go_must (refine (ce _ _).mono ?_; rintro e w1 ⟨rfl, hb1⟩; have k1 : Blk w1 w.heap.size 85 _ := Blk.below (two1 w _ _) hb1; have k2 : Blk w1 (w.heap.size + 1) 85 _ := Blk.below (two2 w _ _) hb1; have g15 := k1.cell 5; have g25 := k2.cell 5; have g16 := k1.cell 6; have g26 := k2.cell 6; simp at g15 g25 g16 g26))
  go_ret
  exact ⟨rfl, good_below (hw2 _ _) hb1⟩
set_option maxRecDepth 100000 in
set_option maxHeartbeats 400000 in
theorem eqRuleS {S1 S2 : Nat → Prop} {v1 v2 : Value} {l : List Rule} {w : World} (hS1 : ∀ b, S1 b → b < w.heap.size) (hS2 : ∀ b, S2 b → b < w.heap.size) (h1 : RulesAt S1 w v1 l) (h2 : RulesAt S2 w v2 l) :
    Calls Tryz.prog 14 #[v1, v2] w fun e w' => e = .returned (.bool true) ∧ Below w.heap.size w w' := by
  obtain ⟨hlm, a1, c1, rfl, q1⟩ := h1
  obtain ⟨_, a2, c2, rfl, q2⟩ := h2
  have Q1 : Hid _ := q1
  have Q2 : Hid _ := q2
  have hlm' : (l.length : Int) ≤ 9223372036854775807 := by simp [maxLen] at hlm; omega
  clear q1 q2 hlm
  go_enter Tryz.func14, Tryz.ntmps14
  go_wp2
  go_loopw [5] (fun i5 wr => ∃ k : Nat, i5 = .int .i64 (k : Int) ∧ k ≤ l.length ∧ Below w.heap.size w wr) (fun i5 _ => l.length - (intOf i5).toNat)
  case atStart => exact ⟨0, rfl, by omega, Below.refl _ _⟩
  case round =>
    obtain ⟨k, rfl, hk, hB⟩ := hrel
    by_cases hkn : k < l.length
    · have hkn' : (k : Int) < (l.length : Int) := by omega
      obtain ⟨b1, o1, rfl, hb1, hc1⟩ := Q1.out (by omega)
      obtain ⟨b2, o2, rfl, hb2, hc2⟩ := Q2.out (by omega)
      obtain ⟨x_0, x_1, x_2, x_3, x_5, x_6, nv1, t1, i1⟩ := hc1 k hkn
      obtain ⟨y_0, y_1, y_2, y_3, y_5, y_6, nv2, t2, i2⟩ := hc2 k hkn
      obtain ⟨x, hx⟩ : ∃ x, l[k] = x := ⟨_, rfl⟩
      rw [hx] at x_0 x_1 x_2 x_3 x_5 x_6 y_0 y_1 y_2 y_3 y_5 y_6 i1 i2
      clear hx hc1 hc2
      obtain ⟨x0, x1, x2, x3, x4, x5, x6⟩ := x
      dsimp only at x_0 x_1 x_2 x_3 x_5 x_6 y_0 y_1 y_2 y_3 y_5 y_6 i1 i2
      have p0 := fun N : GoodW (fun W => Below w.heap.size w W) => (N.ok.cell (p := ⟨b1, o1 + k * 7, none⟩) (hS1 _ hb1)).trans x_0
      have r0 := fun N : GoodW (fun W => Below w.heap.size w W) => (N.ok.cell (p := ⟨b2, o2 + k * 7, none⟩) (hS2 _ hb2)).trans y_0
      have p1 := fun N : GoodW (fun W => Below w.heap.size w W) => (N.ok.cell (p := ⟨b1, o1 + k * 7 + 1, none⟩) (hS1 _ hb1)).trans x_1
      have r1 := fun N : GoodW (fun W => Below w.heap.size w W) => (N.ok.cell (p := ⟨b2, o2 + k * 7 + 1, none⟩) (hS2 _ hb2)).trans y_1
      have p2 := fun N : GoodW (fun W => Below w.heap.size w W) => (N.ok.cell (p := ⟨b1, o1 + k * 7 + 2, none⟩) (hS1 _ hb1)).trans x_2
      have r2 := fun N : GoodW (fun W => Below w.heap.size w W) => (N.ok.cell (p := ⟨b2, o2 + k * 7 + 2, none⟩) (hS2 _ hb2)).trans y_2
      have p3 := fun N : GoodW (fun W => Below w.heap.size w W) => (N.ok.cell (p := ⟨b1, o1 + k * 7 + 3, none⟩) (hS1 _ hb1)).trans x_3
      have r3 := fun N : GoodW (fun W => Below w.heap.size w W) => (N.ok.cell (p := ⟨b2, o2 + k * 7 + 3, none⟩) (hS2 _ hb2)).trans y_3
      have p5 := fun N : GoodW (fun W => Below w.heap.size w W) => (N.ok.cell (p := ⟨b1, o1 + k * 7 + 5, none⟩) (hS1 _ hb1)).trans x_5
      have r5 := fun N : GoodW (fun W => Below w.heap.size w W) => (N.ok.cell (p := ⟨b2, o2 + k * 7 + 5, none⟩) (hS2 _ hb2)).trans y_5
      have p6 := fun N : GoodW (fun W => Below w.heap.size w W) => (N.ok.cell (p := ⟨b1, o1 + k * 7 + 6, none⟩) (hS1 _ hb1)).trans x_6
      have r6 := fun N : GoodW (fun W => Below w.heap.size w W) => (N.ok.cell (p := ⟨b2, o2 + k * 7 + 6, none⟩) (hS2 _ hb2)).trans y_6
      have p4 := fun N : GoodW (fun W => Below w.heap.size w W) => (N.ok.cell (p := ⟨b1, o1 + k * 7 + 4, none⟩) (hS1 _ hb1)).trans t1
      have r4 := fun N : GoodW (fun W => Below w.heap.size w W) => (N.ok.cell (p := ⟨b2, o2 + k * 7 + 4, none⟩) (hS2 _ hb2)).trans t2
      clear t1 t2
      clear x_0 x_1 x_2 x_3 x_5 x_6 y_0 y_1 y_2 y_3 y_5 y_6
      have ce : ∀ N : GoodW (fun W => Below w.heap.size w W), Calls Tryz.prog 55 #[.agg #[.string x0, .int .i64 x1, .int .i64 x2, .int .i64 x3, nv1, .bool x5, .string x6], .agg #[.string x0, .int .i64 x1, .int .i64 x2, .int .i64 x3, nv2, .bool x5, .string x6]] N.W fun e w' => e = .returned (.bool true) ∧ Below N.W.heap.size N.W w' := fun N => eqRule x0 x1 x2 x3 x4 x5 x6 nv1 nv2 N.W (fun b hb => Nat.lt_of_lt_of_le (hS1 b hb) N.ok.size) (fun b hb => Nat.lt_of_lt_of_le (hS2 b hb) N.ok.size) (i1.keep (cells_below hS1 N.ok)) (i2.keep (cells_below hS2 N.ok))
      obtain ⟨a3, c3, rfl⟩ := i1.shape
      obtain ⟨a4, c4, rfl⟩ := i2.shape
      clear i1 i2
      go_wp2_with fail
      haveI ne : Nonempty (GoodW (fun W => Below w.heap.size w W)) := ⟨⟨_, hB⟩⟩
      refine wp_region_calm (fun W => Below w.heap.size w W) (by kernel_rfl) (by kernel_rfl) hB.drew ?_
      repeat (go_big_quiet_step ((go_at_call 55; exact Calls.calm _ (fun w2 hb => good_below (GoodW.ok _) hb) (ce _))))
      refine wpQuiet_nil ?_
      rintro _ ⟨⟨W2, hW2⟩, rfl⟩
      go_wp2_with fail
      go_roundw
      case rel => exact ⟨k + 1, by go_num, by omega, hW2⟩
      case measure => simp [intOf]; omega
    · have hkn' : ¬ ((k : Int) < (l.length : Int)) := by omega
      go_wp2_with fail
      go_ret
      exact ⟨rfl, hB⟩
end Go.Proofs.YtoopdcbgnccmiaaGreatDoor

namespace Go.Proofs.YtoopdcbgnccmiaaGreatDoor
open Go.ChangeShapes Go.WideShapes Go.ChangeAt Go.RowKit
set_option linter.unusedVariables false
set_option linter.unusedSimpArgs false

def ShRulesC (L U : Nat) (w : World) (cur : Array Value) (ms : List Nat) : Prop := ∀ i (h : i < ms.length), ∃ nv g, cur[i * 7 + 4]? = some nv ∧ L < g ∧ g < U ∧ ShTxts w g nv ms[i]
theorem ShRulesC.keep {L U : Nat} {w w' : World} {cur : Array Value} {ms : List Nat} (h : ShRulesC L U w cur ms) (hk : ∀ b, L < b → b < U → w'.heap[b]? = w.heap[b]?) : ShRulesC L U w' cur ms := by
  intro i hi
  obtain ⟨nv, g, h1, h2, h3, h4⟩ := h i hi
  exact ⟨nv, g, h1, h2, h3, h4.keep (hk g h2 h3)⟩
theorem ShRulesC.set {L U : Nat} {w : World} {cur : Array Value} {ms : List Nat} (h : ShRulesC L U w cur ms) (k j : Nat) (hj : j < 7) (hp : j ≠ 4) (v : Value) : ShRulesC L U w (cur.setIfInBounds (k * 7 + j) v) ms := by
  intro i hi
  obtain ⟨nv, g, h1, h2⟩ := h i hi
  refine ⟨nv, g, ?_, h2⟩
  rw [Array.getElem?_setIfInBounds, if_neg (by omega)]
  exact h1
theorem ShRulesC.mark {L U : Nat} {w w' : World} {cur : Array Value} {ms : List Nat} (h : ShRulesC L U w cur ms) {g m : Nat} {v : Value} (hg : ShTxts w g v m) (hU : U ≤ w.heap.size) (ho : OutS (fun b => b = g) w w') (hn : ∃ cur, Blk w' g 9 cur ∧ cur.size = m * 1) : ShRulesC L U w' cur ms := by
  intro i hi
  obtain ⟨nv, g', h1, h2, h3, h4⟩ := h i hi
  refine ⟨nv, g', h1, h2, h3, ?_⟩
  by_cases he : g' = g
  · subst he
    obtain ⟨hv, c1, hb1, hs1⟩ := h4
    obtain ⟨_, c2, hb2, hs2⟩ := hg
    obtain ⟨c3, hb3, hs3⟩ := hn
    refine ⟨hv, c3, hb3, ?_⟩
    unfold Blk at hb1 hb2
    rw [hb1] at hb2
    simp at hb2
    rw [hs3, ← hs2, ← hb2, hs1]
  · exact h4.keep (ho.block g' (by omega) he)
def ShRules (L U : Nat) (w : World) (v : Value) (ms : List Nat) : Prop := v = .slice (some ⟨L, 0, none⟩) ms.length ms.length ∧ ∃ cur, Blk w L 85 cur ∧ cur.size = ms.length * 7 ∧ ShRulesC L U w cur ms
theorem RowRules.sh {L U : Nat} {w : World} {v : Value} {l : List Rule} (h : RowRules L U w v l) : ShRules L U w v (l.map fun x => x.choices.length) := by
  obtain ⟨_, h1, cur, h2, h3, h4⟩ := h
  refine ⟨by simpa using h1, cur, h2, by simpa using h3, fun i hi => ?_⟩
  simp at hi
  obtain ⟨_, _, _, _, _, _, nv, g, q3, q4, q5, q6⟩ := h4 i hi hi
  exact ⟨nv, g, q3, q4, q5, by simpa using q6.sh⟩
set_option maxRecDepth 100000 in
set_option maxHeartbeats 8000000 in
theorem markRuleS {L U : Nat} {ms : List Nat} {v : Value} {w : World} (s : Nat) (hs0 : 0 < s) (hs1 : s ≤ 10000000000000) (hn : ms.length ≤ 1048576) (hm : ∀ m ∈ ms, m ≤ 1048576) (hU : L < U) (hUw : U ≤ w.heap.size) (h : ShRules L U w v ms) :
    Calls Tryz.prog 16 #[v, .int .i64 s] w fun e w' => (∃ r : Nat, e = .returned (.int .i64 (r : Int)) ∧ 0 < r ∧ r ≤ s + ms.length * 1048582) ∧ OutS (fun b => L ≤ b ∧ b < U) w w' := by
  obtain ⟨n, hnl⟩ : ∃ n, ms.length = n := ⟨_, rfl⟩
  obtain ⟨rfl, cu, hcu, hcs, hsc⟩ := h
  have HCU : Hid (Blk w L 85 cu) := hcu
  have HSC : Hid (ShRulesC L U w cu ms) := hsc
  have HM : Hid (∀ m ∈ ms, m ≤ 1048576) := hm
  clear hcu hsc hm
  rw [hnl] at hn hcs ⊢
  go_enter Tryz.func16, Tryz.ntmps16
  go_wp2
  go_loopw [1, 5] (fun i1 i5 wr => ∃ (k r : Nat) (cur : Array Value), i1 = .int .i64 (r : Int) ∧ i5 = .int .i64 (k : Int) ∧ k ≤ n ∧ 0 < r ∧ r ≤ s + k * 1048582 ∧ OutS (fun b => L ≤ b ∧ b < U) w wr ∧ Blk wr L 85 cur ∧ cur.size = n * 7 ∧ ShRulesC L U wr cur ms) (fun _ i5 _ => n - (intOf i5).toNat)
  case atStart => exact ⟨0, s, cu, rfl, rfl, by omega, hs0, by omega, OutS.refl _ _, HCU.out, hcs, HSC.out⟩
  case round =>
    obtain ⟨k, r, cur, rfl, rfl, hk, hr0, hr1, hB, hblk, hsz, hsc⟩ := hrel
    have HB : Hid (Blk wr L 85 cur) := hblk
    have HS : Hid (ShRulesC L U wr cur ms) := hsc
    clear hblk hsc
    by_cases hkn : k < n
    · have hkn' : (k : Int) < (n : Int) := by omega
      have hkl : k < ms.length := by omega
      have z0 : k * 7 < cur.size := by rw [hsz]; omega
      have z1 : k * 7 + 1 < cur.size := by rw [hsz]; omega
      have z2 : k * 7 + 2 < cur.size := by rw [hsz]; omega
      have z3 : k * 7 + 3 < cur.size := by rw [hsz]; omega
      have z4 : k * 7 + 4 < cur.size := by rw [hsz]; omega
      have z5 : k * 7 + 5 < cur.size := by rw [hsz]; omega
      have z6 : k * 7 + 6 < cur.size := by rw [hsz]; omega
      obtain ⟨nv, g, q1, q2, q3, q4⟩ := HS.out k hkl
      have hmk := HM.out _ (List.getElem_mem hkl)
      obtain ⟨m, hmm⟩ : ∃ m, ms[k] = m := ⟨_, rfl⟩
      rw [hmm] at q4 hmk
      have HQ4 : Hid (ShTxts wr g nv m) := q4
      obtain rfl := q4.1
      clear hmm q4
      have hglt : g < wr.heap.size := by have := hB.size; omega
      have hUr : U ≤ wr.heap.size := Nat.le_trans hUw hB.size
      have ct0 := lawText (r) (by omega) (by omega)
      rw [show ((r : Nat) : Int) = (r : Int) by omega] at ct0
      obtain ⟨M0, hM0⟩ : ∃ M, markOf (r) = M := ⟨_, rfl⟩
      rw [hM0] at ct0
      clear hM0
      have ct6 := lawText (r + 4 + m + 1) (by omega) (by omega)
      rw [show ((r + 4 + m + 1 : Nat) : Int) = (r : Int) + 4 + (m : Int) + 1 by omega] at ct6
      obtain ⟨M6, hM6⟩ : ∃ M, markOf (r + 4 + m + 1) = M := ⟨_, rfl⟩
      rw [hM6] at ct6
      clear hM6
      have cm := fun (W : World) (hW : W.heap[g]? = wr.heap[g]?) => markShTxts (r + 4) (by omega) (by omega) hmk (HQ4.out.keep hW)
      rw [show ((r + 4 : Nat) : Int) = (r : Int) + 4 by omega] at cm
      have hb_0 := HB.out
      have c0_0 := hb_0.cell (k * 7)
      rw [Array.getElem?_eq_getElem (by first | exact z0 | (simp only [Array.size_setIfInBounds]; exact z0))] at c0_0
      have f0_0 := hb_0.fro (k * 7)
      have c0_1 := hb_0.cell (k * 7 + 1)
      rw [Array.getElem?_eq_getElem (by first | exact z1 | (simp only [Array.size_setIfInBounds]; exact z1))] at c0_1
      have f0_1 := hb_0.fro (k * 7 + 1)
      have c0_2 := hb_0.cell (k * 7 + 2)
      rw [Array.getElem?_eq_getElem (by first | exact z2 | (simp only [Array.size_setIfInBounds]; exact z2))] at c0_2
      have f0_2 := hb_0.fro (k * 7 + 2)
      have c0_3 := hb_0.cell (k * 7 + 3)
      rw [Array.getElem?_eq_getElem (by first | exact z3 | (simp only [Array.size_setIfInBounds]; exact z3))] at c0_3
      have f0_3 := hb_0.fro (k * 7 + 3)
      have c0_5 := hb_0.cell (k * 7 + 5)
      rw [Array.getElem?_eq_getElem (by first | exact z5 | (simp only [Array.size_setIfInBounds]; exact z5))] at c0_5
      have f0_5 := hb_0.fro (k * 7 + 5)
      have c0_6 := hb_0.cell (k * 7 + 6)
      rw [Array.getElem?_eq_getElem (by first | exact z6 | (simp only [Array.size_setIfInBounds]; exact z6))] at c0_6
      have f0_6 := hb_0.fro (k * 7 + 6)
      have c0_4 := hb_0.cell (k * 7 + 4)
      have k0 := (show _ = some (Value.slice (some ⟨g, 0, none⟩) m m) from c0_4.trans (by first | exact q1 | (simp only [Array.getElem?_setIfInBounds]; (repeat rw [if_neg (by omega)]); exact q1)))
      go_wp2_with (first
        | (go_at_call 56; have hchk := hb_sub; (refine (ct6 _).mono ?_; rintro e w_t6 ⟨rfl, hB_t6⟩; have hb_t6 := Blk.below (Blk.set hb_sub (k * 7 + 5) (.bool (((r : Int) + 4 + (m : Int)) % 3 == 0))) hB_t6; have ho_t6 := OutS.trans (OutS.set (g := L) (i := k * 7 + 5) (OutS.refl (fun b => b = L) w_sub) rfl (.bool (((r : Int) + 4 + (m : Int)) % 3 == 0))) (OutS.of hB_t6); have ct6_6 := hb_t6.cell (k * 7 + 6); rw [Array.getElem?_eq_getElem (by first | exact z6 | (simp only [Array.size_setIfInBounds]; exact z6))] at ct6_6; have ft6_6 := hb_t6.fro (k * 7 + 6)))
        | (go_at_call 28; go_must (have o1 := (OutS.set (g := L) (i := k * 7 + 3) (OutS.set (g := L) (i := k * 7 + 2) (OutS.set (g := L) (i := k * 7 + 1) (OutS.set (g := L) (i := k * 7) ho_t0 rfl (.string M0)) rfl (.int .i64 ((r : Int) + 1))) rfl (.int .i64 ((r : Int) + 2))) rfl (.int .i64 ((r : Int) + 3))); have b1 := (Blk.set (Blk.set (Blk.set (Blk.set hb_t0 (k * 7) (.string M0)) (k * 7 + 1) (.int .i64 ((r : Int) + 1))) (k * 7 + 2) (.int .i64 ((r : Int) + 2))) (k * 7 + 3) (.int .i64 ((r : Int) + 3))); refine (cm _ (o1.block g hglt (by omega))).mono ?_; rintro e w_sub ⟨rfl, hB_sub, hcur_sub⟩; have hb_sub : Blk w_sub L 85 _ := (by unfold Blk at b1 ⊢; rw [hB_sub.block L (Array.getElem?_eq_some_iff.1 b1).1 (by omega)]; exact b1); have csub_5 := hb_sub.cell (k * 7 + 5); rw [Array.getElem?_eq_getElem (by first | exact z5 | (simp only [Array.size_setIfInBounds]; exact z5))] at csub_5; have fsub_5 := hb_sub.fro (k * 7 + 5); have csub_6 := hb_sub.cell (k * 7 + 6); rw [Array.getElem?_eq_getElem (by first | exact z6 | (simp only [Array.size_setIfInBounds]; exact z6))] at csub_6; have fsub_6 := hb_sub.fro (k * 7 + 6)))
        | (go_at_call 56; go_must (refine (ct0 _).mono ?_; rintro e w_t0 ⟨rfl, hB_t0⟩; have hb_t0 := Blk.below hb_0 hB_t0; have ho_t0 := OutS.trans (OutS.refl (fun b => b = L) wr) (OutS.of hB_t0); have ct0_0 := hb_t0.cell (k * 7); rw [Array.getElem?_eq_getElem (by first | exact z0 | (simp only [Array.size_setIfInBounds]; exact z0))] at ct0_0; have ft0_0 := hb_t0.fro (k * 7); have ct0_1 := hb_t0.cell (k * 7 + 1); rw [Array.getElem?_eq_getElem (by first | exact z1 | (simp only [Array.size_setIfInBounds]; exact z1))] at ct0_1; have ft0_1 := hb_t0.fro (k * 7 + 1); have ct0_2 := hb_t0.cell (k * 7 + 2); rw [Array.getElem?_eq_getElem (by first | exact z2 | (simp only [Array.size_setIfInBounds]; exact z2))] at ct0_2; have ft0_2 := hb_t0.fro (k * 7 + 2); have ct0_3 := hb_t0.cell (k * 7 + 3); rw [Array.getElem?_eq_getElem (by first | exact z3 | (simp only [Array.size_setIfInBounds]; exact z3))] at ct0_3; have ft0_3 := hb_t0.fro (k * 7 + 3); have ct0_5 := hb_t0.cell (k * 7 + 5); rw [Array.getElem?_eq_getElem (by first | exact z5 | (simp only [Array.size_setIfInBounds]; exact z5))] at ct0_5; have ft0_5 := hb_t0.fro (k * 7 + 5); have ct0_6 := hb_t0.cell (k * 7 + 6); rw [Array.getElem?_eq_getElem (by first | exact z6 | (simp only [Array.size_setIfInBounds]; exact z6))] at ct0_6; have ft0_6 := hb_t0.fro (k * 7 + 6); have ct0_4 := hb_t0.cell (k * 7 + 4); have kt0 := (show _ = some (Value.slice (some ⟨g, 0, none⟩) m m) from ct0_4.trans (by first | exact q1 | (simp only [Array.getElem?_setIfInBounds]; (repeat rw [if_neg (by omega)]); exact q1))))))
      have b3 := (Blk.set hb_t6 (k * 7 + 6) (.string M6))
      have o3 := (OutS.set (g := L) (i := k * 7 + 6) ho_t6 rfl (.string M6))
      have hUx := Nat.le_trans hUr o1.size
      have hUy := Nat.le_trans hUx hB_sub.size
      refine ⟨⟨k + 1, r + 4 + m + 2, _, by congr 1 <;> omega, rfl, by omega, by omega, by omega, ((hB.trans (o1.mono (fun b hb => by subst hb; exact ⟨Nat.le_refl _, hU⟩))).trans (hB_sub.mono (fun b hb => by subst hb; omega))).trans (o3.mono (fun b hb => by subst hb; exact ⟨Nat.le_refl _, hU⟩)), b3, by simp [hsz], ?_⟩, by simp [intOf]; omega⟩
      exact ShRulesC.keep (ShRulesC.mark (ShRulesC.keep (ShRulesC.set (ShRulesC.set (ShRulesC.set (ShRulesC.set (ShRulesC.set (ShRulesC.set HS.out k 0 (by omega) (by omega) _) k 1 (by omega) (by omega) _) k 2 (by omega) (by omega) _) k 3 (by omega) (by omega) _) k 5 (by omega) (by omega) _) k 6 (by omega) (by omega) _) (fun b hb1 hb2 => o1.block b (by omega) (by omega))) (HQ4.out.keep (o1.block g hglt (by omega))) hUx hB_sub hcur_sub) (fun b hb1 hb2 => o3.block b (by omega) (by omega))
    · have hkn' : ¬ ((k : Int) < (n : Int)) := by omega
      obtain rfl : k = n := by omega
      go_wp2_with fail
      go_ret
      exact ⟨⟨r, rfl, hr0, hr1⟩, hB⟩
end Go.Proofs.YtoopdcbgnccmiaaGreatDoor

namespace Go.Proofs.YtoopdcbgnccmiaaGreatDoor
open Go.ChangeShapes Go.WideShapes Go.ChangeAt Go.RowKit
set_option linter.unusedVariables false
section
variable {H : Type} {enc : TypeId × Value → H} {w : World} {base : Nat} {spare : Nat → Bool} {held : Bool}
set_option maxRecDepth 100000 in
theorem openTxts {fuel : Nat} {cs : List Value} {x : DataW H × List MemPlace} (h : DataW.trod enc Tryz.prog w base spare held fuel 43 cs = some x) :
    ∃ v l, cs = [v] ∧ TxtsAt (fun b => b < w.heap.size) w v l ∧ ∀ y ∈ l, TxtsFit y := by
  rcases Deep.open_strs Tryz.underlying43 Tryz.underlying9 (by kernel_rfl) h with ⟨rfl, rfl⟩ | ⟨a, len, cap, m, Sx, rfl, hb, hl, hm, hmm, rfl, hx⟩
  · exact ⟨_, [], rfl, ⟨by simp, none, 0, rfl, fun h0 => by simp at h0⟩, fun y hy => by cases hy⟩
  have hlm : len ≤ m := by rw [hmm]; split <;> omega
  refine ⟨_, (List.range len).map Sx, rfl, ⟨by simp; omega, some a, cap, by simp, fun h0 => ?_⟩, fun y hy => ?_⟩
  · have hlen : 0 < len := by simpa using h0
    have h00 := (hx 0 (by omega)).1
    have hsp := World.cell?_spot h00
    obtain ⟨b, off, spot⟩ := a
    have hspot : spot = none := by simpa [Addr.add] using hsp
    subst hspot
    refine ⟨b, off, rfl, ?_, fun i hi => ?_⟩
    · cases hh : w.heap[b]? with
      | none => simp [Addr.add, World.cell?, hh] at h00
      | some o => exact (Array.getElem?_eq_some_iff.1 hh).1
    · have hi' : i < len := by simpa using hi
      have := (hx i (by omega)).1
      simp only [add_plain] at this
      rw [this]; simp
  · obtain ⟨i, hi, rfl⟩ := List.mem_map.1 hy
    exact (hx i (by have := List.mem_range.1 hi; omega)).2
end
end Go.Proofs.YtoopdcbgnccmiaaGreatDoor

namespace Go.Proofs.YtoopdcbgnccmiaaGreatDoor
open Go.ChangeShapes Go.WideShapes Go.ChangeAt Go.RowKit
set_option linter.unusedVariables false
set_option linter.unusedSimpArgs false

section
variable {H : Type} {enc : TypeId × Value → H} {w : World} {base : Nat} {spare : Nat → Bool} {held : Bool}
set_option maxRecDepth 100000 in
theorem open_rows7 {t e : TypeId} {f0 f1 f2 f3 f4 f5 f6 : Field} {fuel : Nat} {cs : List Value} {x : DataW H × List MemPlace} (ht : Tryz.prog.underlying t = some (.slice e)) (he : Tryz.prog.underlying e = some (.struct #[f0, f1, f2, f3, f4, f5, f6]))
    (ce : Tryz.prog.cellsOf e = 7) (o0 : f0.offset = 0) (o1 : f1.offset = 1) (o2 : f2.offset = 2) (o3 : f3.offset = 3) (o4 : f4.offset = 4) (o5 : f5.offset = 5) (o6 : f6.offset = 6) (c0 : Tryz.prog.cellsOf f0.type = 1) (c1 : Tryz.prog.cellsOf f1.type = 1) (c2 : Tryz.prog.cellsOf f2.type = 1) (c3 : Tryz.prog.cellsOf f3.type = 1) (c4 : Tryz.prog.cellsOf f4.type = 1) (c5 : Tryz.prog.cellsOf f5.type = 1) (c6 : Tryz.prog.cellsOf f6.type = 1)
    (h : DataW.trod enc Tryz.prog w base spare held fuel t cs = some x) :
    ∃ (a : Option Addr) (len cap n : Nat), cs = [.slice a len cap] ∧ len ≤ maxLen ∧ ((a = none ∧ len = 0 ∧ cap = 0) ∨ ∃ a', a = some a') ∧
      ∀ i, i < len → ∃ b off, a = some ⟨b, off, none⟩ ∧ b < w.heap.size ∧ ∃ v0 v1 v2 v3 v4 v5 v6 y0 y1 y2 y3 y4 y5 y6, w.cell? ⟨b, off + i * 7, none⟩ = some v0 ∧ w.cell? ⟨b, off + i * 7 + 1, none⟩ = some v1 ∧ w.cell? ⟨b, off + i * 7 + 2, none⟩ = some v2 ∧ w.cell? ⟨b, off + i * 7 + 3, none⟩ = some v3 ∧ w.cell? ⟨b, off + i * 7 + 4, none⟩ = some v4 ∧ w.cell? ⟨b, off + i * 7 + 5, none⟩ = some v5 ∧ w.cell? ⟨b, off + i * 7 + 6, none⟩ = some v6 ∧ DataW.trod enc Tryz.prog w base spare held n f0.type [v0] = some y0 ∧ DataW.trod enc Tryz.prog w base spare held n f1.type [v1] = some y1 ∧ DataW.trod enc Tryz.prog w base spare held n f2.type [v2] = some y2 ∧ DataW.trod enc Tryz.prog w base spare held n f3.type [v3] = some y3 ∧ DataW.trod enc Tryz.prog w base spare held n f4.type [v4] = some y4 ∧ DataW.trod enc Tryz.prog w base spare held n f5.type [v5] = some y5 ∧ DataW.trod enc Tryz.prog w base spare held n f6.type [v6] = some y6 := by
  rcases Deep.open_slice ht h with ⟨rfl, _⟩ | ⟨a, len, cap, m, n, D, Pl, rfl, hb, hl, hm, hmm, rfl, hx⟩
  · exact ⟨none, 0, 0, 0, rfl, Nat.zero_le _, .inl ⟨rfl, rfl, rfl⟩, fun i hi => by omega⟩
  have hlm : len ≤ m := by rw [hmm]; split <;> omega
  refine ⟨some a, len, cap, n - 1, rfl, by omega, .inr ⟨a, rfl⟩, fun i hi => ?_⟩
  obtain ⟨cs', h1, h2⟩ := hx i (by omega)
  rw [ce] at h1
  obtain ⟨_, hlen, hcell⟩ := World.cells?_some h1
  obtain ⟨xs, k, hk, hxy, _, hxl, hf⟩ := DataW.trod_struct he h2
  have hk' : k = n - 1 := by omega
  subst hk'
  match xs, hxl, cs', hlen with
  | [y0, y1, y2, y3, y4, y5, y6], _, [v0, v1, v2, v3, v4, v5, v6], _ =>
    have g0 := hf 0 f0 rfl
    have g1 := hf 1 f1 rfl
    have g2 := hf 2 f2 rfl
    have g3 := hf 3 f3 rfl
    have g4 := hf 4 f4 rfl
    have g5 := hf 5 f5 rfl
    have g6 := hf 6 f6 rfl
    simp [o0, o1, o2, o3, o4, o5, o6, c0, c1, c2, c3, c4, c5, c6] at g0 g1 g2 g3 g4 g5 g6
    have e0 := hcell 0 (by omega)
    have e1 := hcell 1 (by omega)
    have e2 := hcell 2 (by omega)
    have e3 := hcell 3 (by omega)
    have e4 := hcell 4 (by omega)
    have e5 := hcell 5 (by omega)
    have e6 := hcell 6 (by omega)
    simp only [List.getElem?_cons_zero, List.getElem?_cons_succ] at e0 e1 e2 e3 e4 e5 e6
    have hsp : a.spot = none := by
      obtain ⟨cs0, h10, _⟩ := hx 0 (by omega)
      rw [ce] at h10
      obtain ⟨_, hlen0, hcell0⟩ := World.cells?_some h10
      have e00 := hcell0 0 (by omega)
      rw [List.getElem?_eq_getElem (by omega)] at e00
      have := World.cell?_spot e00
      simpa [Addr.add] using this
    obtain ⟨b, off, spot⟩ := a
    have hspot : spot = none := hsp
    subst hspot
    simp only [add_plain] at e0 e1 e2 e3 e4 e5 e6
    refine ⟨b, off, rfl, ?_, v0, v1, v2, v3, v4, v5, v6, y0, y1, y2, y3, y4, y5, y6, by simpa using e0, by simpa using e1, by simpa using e2, by simpa using e3, by simpa using e4, by simpa using e5, by simpa using e6, g0, g1, g2, g3, g4, g5, g6⟩
    cases hh : w.heap[b]? with
    | none => simp [World.cell?, hh] at e0
    | some o => exact (Array.getElem?_eq_some_iff.1 hh).1
set_option maxRecDepth 100000 in
theorem openRules {fuel : Nat} {cs : List Value} {x : DataW H × List MemPlace} (h : DataW.trod enc Tryz.prog w base spare held fuel 22 cs = some x) :
    ∃ v l, cs = [v] ∧ RulesAt (fun b => b < w.heap.size) w v l ∧ ∀ y ∈ l, RulesFit y := by
  obtain ⟨a, len, cap, n, rfl, hlm, ha, hall⟩ := open_rows7 Tryz.underlying22 Tryz.underlying75 (by kernel_rfl) rfl rfl rfl rfl rfl rfl rfl (by kernel_rfl) (by kernel_rfl) (by kernel_rfl) (by kernel_rfl) (by kernel_rfl) (by kernel_rfl) (by kernel_rfl) h
  obtain ⟨l, hl, hr⟩ := list_of len (fun i (y : Rule) => RulesFit y ∧ ∃ b off, a = some ⟨b, off, none⟩ ∧ b < w.heap.size ∧ w.cell? ⟨b, off + i * 7, none⟩ = some (.string y.path) ∧ w.cell? ⟨b, off + i * 7 + 1, none⟩ = some (.int .i64 y.kind) ∧ w.cell? ⟨b, off + i * 7 + 2, none⟩ = some (.int .i64 y.min') ∧ w.cell? ⟨b, off + i * 7 + 3, none⟩ = some (.int .i64 y.max') ∧ w.cell? ⟨b, off + i * 7 + 5, none⟩ = some (.bool y.must) ∧ w.cell? ⟨b, off + i * 7 + 6, none⟩ = some (.string y.default') ∧ ∃ nv, w.cell? ⟨b, off + i * 7 + 4, none⟩ = some nv ∧ TxtsAt (fun b => b < w.heap.size) w nv y.choices) (fun i hi => by
    obtain ⟨b, off, rfl, hb, v0, v1, v2, v3, v4, v5, v6, y0, y1, y2, y3, y4, y5, y6, c0, c1, c2, c3, c4, c5, c6, t0, t1, t2, t3, t4, t5, t6⟩ := hall i hi
    obtain ⟨s0, q0, _, fit0⟩ := DataW.trod_string Tryz.underlying9 t0
    obtain ⟨s1, q1, _, _⟩ := DataW.trod_int Tryz.underlying3 t1
    obtain ⟨s2, q2, _, _⟩ := DataW.trod_int Tryz.underlying3 t2
    obtain ⟨s3, q3, _, _⟩ := DataW.trod_int Tryz.underlying3 t3
    obtain ⟨nv, s4, q4, hn, fit4⟩ := openTxts t4
    obtain ⟨s5, q5, _⟩ := DataW.trod_bool Tryz.underlying4 t5
    obtain ⟨s6, q6, _, fit6⟩ := DataW.trod_string Tryz.underlying9 t6
    simp at q0 q1 q2 q3 q4 q5 q6
    subst q0 q1 q2 q3 q4 q5 q6
    exact ⟨⟨s0, s1, s2, s3, s4, s5, s6⟩, ⟨fit0, fit6, fit4⟩, b, off, rfl, hb, c0, c1, c2, c3, c5, c6, _, c4, hn⟩)
  refine ⟨_, l, rfl, ⟨by omega, a, cap, by rw [hl], fun h0 => ?_⟩, fun y hy => ?_⟩
  · obtain ⟨_, b, off, rfl, hb, _⟩ := hr 0 h0
    refine ⟨b, off, rfl, hb, fun i hi => ?_⟩
    obtain ⟨_, b', off', he, _, c0, c1, c2, c3, c5, c6, nv, c4, hn⟩ := hr i hi
    simp at he
    obtain ⟨rfl, rfl⟩ := he
    exact ⟨c0, c1, c2, c3, c5, c6, nv, c4, hn⟩
  · obtain ⟨i, hi, rfl⟩ := List.getElem_of_mem hy
    exact (hr i hi).1
end
end Go.Proofs.YtoopdcbgnccmiaaGreatDoor

namespace Go.Proofs.YtoopdcbgnccmiaaGreatDoor
open Go.ChangeShapes Go.WideShapes Go.ChangeAt Go.RowKit
set_option linter.unusedVariables false
set_option linter.unusedSimpArgs false

/-- A copy, in blocks between L and U. -/
def CpRules (L U : Nat) (w : World) (v : Value) (l : List Rule) : Prop := L < U ∧ RowRules L U w v l
theorem CpRules.keepU {L U : Nat} {w w' : World} {v : Value} {l : List Rule} (h : CpRules L U w v l) (hk : ∀ b, L ≤ b → b < U → w'.heap[b]? = w.heap[b]?) : CpRules L U w' v l := ⟨h.1, h.2.keep hk h.1⟩
theorem CpRules.at {L U : Nat} {w : World} {v : Value} {l : List Rule} (h : CpRules L U w v l) : RulesAt (fun b => L ≤ b ∧ b < U) w v l := h.2.at h.1
theorem cpToRules {S : Nat → Prop} {l : List Rule} {v : Value} {w : World} (hS : ∀ b, S b → b < w.heap.size) (h : RulesAt S w v l) (hl : l.length ≤ 1048576) (hok : ∀ x ∈ l, RulesOK 1048576 x) :
    Calls Tryz.prog 10 #[v] w fun e w' => (∃ v', e = .returned v' ∧ CpRules w.heap.size w'.heap.size w' v' l) ∧ Below w.heap.size w w' :=
  (toRuleS hS h hl (fun x hx => by have := (hok x hx).2.2.1; omega)).mono fun e w' ⟨⟨v', he, hr, hlt⟩, hb⟩ => ⟨⟨v', he, hlt, hr⟩, hb⟩
theorem cpMarkRules {L U : Nat} {l : List Rule} {v : Value} {w : World} (s : Nat) (hs0 : 0 < s) (hs1 : s ≤ 10000000000000) (hl : l.length ≤ 1048576) (hok : ∀ x ∈ l, RulesOK 1048576 x) (hUw : U ≤ w.heap.size) (h : CpRules L U w v l) :
    Calls Tryz.prog 16 #[v, .int .i64 s] w fun e w' => (∃ r : Nat, e = .returned (.int .i64 (r : Int)) ∧ 0 < r ∧ r ≤ s + 2300000000000) ∧ OutS (fun b => L ≤ b ∧ b < U) w w' := by
  refine (markRuleS s hs0 hs1 (by simpa using hl) (fun m hm => by
    obtain ⟨x, hx, rfl⟩ := List.mem_map.1 hm
    have := (hok x hx).2.2.1
    omega) h.1 hUw h.2.sh).mono ?_
  rintro e w' ⟨⟨r, he, h1, h2⟩, ho⟩
  simp only [List.length_map] at h2
  exact ⟨⟨r, he, h1, by omega⟩, ho⟩
theorem CpRules.below {B L U : Nat} {w w' : World} {v : Value} {l : List Rule} (h : CpRules L U w v l) (hb : Below B w w') (hU : U ≤ B) : CpRules L U w' v l := h.keepU (fun b _ hb2 => hb.block b (Nat.lt_of_lt_of_le hb2 hU))
theorem CpRules.outS {S : Nat → Prop} {L U : Nat} {w w' : World} {v : Value} {l : List Rule} (h : CpRules L U w v l) (ho : OutS S w w') (hS : ∀ b, S b → b < L ∨ U ≤ b) (hU : U ≤ w.heap.size) : CpRules L U w' v l := h.keepU (fun b h1 h2 => ho.block b (Nat.lt_of_lt_of_le h2 hU) (fun hs => by have := hS b hs; omega))
/-- What a Lookup answers, whatever it is. -/
def LookupC (f : Nat) (T : World → Prop) (C0 : (List Rule) → (List Layer) → ByteArray → ByteArray) (C1 : (List Rule) → (List Layer) → ByteArray → Int) (C2 : (List Rule) → (List Layer) → ByteArray → ByteArray) (C3 : (List Rule) → (List Layer) → ByteArray → Int) : Prop := ∀ (S : Nat → Prop) (l0 : List Rule) (l1 : List Layer) (l2 : ByteArray) (v0 : Value) (v1 : Value) (w : World), (∀ b, S b → b < w.heap.size) → RulesAt S w v0 l0 → l0.length ≤ 1048576 → (∀ x ∈ l0, RulesOK 1048576 x) → LayersAt S w v1 l1 → l1.length ≤ 1048576 → (∀ x ∈ l1, LayersOK 1048576 x) → l2.size ≤ 1048576 → (∀ W, Below w.heap.size w W → T W) →
  Calls Tryz.prog f #[v0, v1, .string l2] w fun e w' => (e = .returned (.tuple #[.string (C0 l0 l1 l2), .int .i64 (C1 l0 l1 l2), .string (C2 l0 l1 l2), .int .i64 (C3 l0 l1 l2)])) ∧ Below w.heap.size w w'

set_option maxRecDepth 100000 in
set_option maxHeartbeats 16000000 in
theorem lookupWalk {T : World → Prop} {C0 : (List Rule) → (List Layer) → ByteArray → ByteArray} {C1 : (List Rule) → (List Layer) → ByteArray → Int} {C2 : (List Rule) → (List Layer) → ByteArray → ByteArray} {C3 : (List Rule) → (List Layer) → ByteArray → Int} (hSp : LookupC 20 T C0 C1 C2 C3) (hIm : LookupC 21 T C0 C1 C2 C3)
    (w : World) (v0 : Value) (v1 : Value) (l0 : List Rule) (l1 : List Layer) (l2 : ByteArray) (h0 : RulesAt (fun b => b < w.heap.size) w v0 l0) (hf0 : ∀ y ∈ l0, RulesFit y) (h1 : LayersAt (fun b => b < w.heap.size) w v1 l1) (hf1 : ∀ y ∈ l1, LayersFit y) (hz2 : l2.size ≤ maxLen) (hT : ∀ W, Below w.heap.size w W → T W) :
    Calls Tryz.prog 4 #[v0, v1, .string l2] w fun e w' => e = .returned (.bool true) ∧ Below w.heap.size w w' := by
  have HT : Hid (∀ W, Below w.heap.size w W → T W) := hT
  have HR0 : Hid (RulesAt (fun b => b < w.heap.size) w v0 l0) := h0
  have HF0 : Hid (∀ y ∈ l0, RulesFit y) := hf0
  obtain ⟨a0, cap0, hv0⟩ := h0.shape
  subst hv0
  have HR1 : Hid (LayersAt (fun b => b < w.heap.size) w v1 l1) := h1
  have HF1 : Hid (∀ y ∈ l1, LayersFit y) := hf1
  obtain ⟨a1, cap1, hv1⟩ := h1.shape
  subst hv1
  have cs := fun S v0 v1 w => hSp S l0 l1 l2 v0 v1 w
  have ci := fun S v0 v1 w => hIm S l0 l1 l2 v0 v1 w
  obtain ⟨P0, hPe0⟩ : ∃ P, C0 l0 l1 l2 = P := ⟨_, rfl⟩
  rw [hPe0] at cs ci
  clear hPe0
  obtain ⟨P1, hPe1⟩ : ∃ P, C1 l0 l1 l2 = P := ⟨_, rfl⟩
  rw [hPe1] at cs ci
  clear hPe1
  obtain ⟨P2, hPe2⟩ : ∃ P, C2 l0 l1 l2 = P := ⟨_, rfl⟩
  rw [hPe2] at cs ci
  clear hPe2
  obtain ⟨P3, hPe3⟩ : ∃ P, C3 l0 l1 l2 = P := ⟨_, rfl⟩
  rw [hPe3] at cs ci
  clear hPe3
  clear hSp hIm hT h0 hf0 h1 hf1
  have ct0 : l0.length ≤ 1048576 → (∀ x ∈ l0, RulesOK 1048576 x) → ∀ W, Below w.heap.size w W → Calls Tryz.prog 10 #[.slice a0 l0.length cap0] W fun e w' => (∃ v', e = .returned v' ∧ CpRules W.heap.size w'.heap.size w' v' l0) ∧ Below W.heap.size W w' := fun h1 h2 W hW =>
    cpToRules (S := fun b => b < w.heap.size) (fun b hb => Nat.lt_of_lt_of_le hb hW.size) (HR0.out.keep (cells_below (fun b hb => hb) hW)) h1 h2
  have ct1 : l1.length ≤ 1048576 → (∀ x ∈ l1, LayersOK 1048576 x) → ∀ W, Below w.heap.size w W → Calls Tryz.prog 11 #[.slice a1 l1.length cap1] W fun e w' => (∃ v', e = .returned v' ∧ CpLayers W.heap.size w'.heap.size w' v' l1) ∧ Below W.heap.size W w' := fun h1 h2 W hW =>
    cpToLayers (S := fun b => b < w.heap.size) (fun b hb => Nat.lt_of_lt_of_le hb hW.size) (HR1.out.keep (cells_below (fun b hb => hb) hW)) h1 h2
  have hm2 : (l2.size : Int) ≤ 9223372036854775807 := by simp [maxLen] at hz2; omega
  by_cases hs2 : l2.size ≤ 1048576
  case neg =>
    have hs2' : (1048576 : Int) < (l2.size : Int) := by omega
    go_enter Tryz.func4, Tryz.ntmps4
    go_wp2_with fail
    go_ret
    exact ⟨rfl, Below.refl _ _⟩
  have hs2' : ¬ ((1048576 : Int) < (l2.size : Int)) := by omega
  go_enter Tryz.func4, Tryz.ntmps4
  have hbq : Below w.heap.size w w := Below.refl _ w
  have hr1 : (1048576 : Int) ≤ 1048576 := by omega
  have hr0 : (0 : Int) ≤ 1048576 := by omega
  have cz0 := szRuleS (w := w) (fun b hb => Nat.lt_of_lt_of_le hb hbq.size) (HR0.out.keep (cells_below (fun b hb => hb) hbq)) HF0.out (1048576) hr0 hr1
  go_upto_region 4 with fail
  go_cut [7] from 18 (fun s3 wx => ∃ r : Int, s3 = .int .i64 r ∧ (r = -1 ∨ (0 ≤ r ∧ r ≤ 1048576 ∧ (l0.length : Int) ≤ 1048576 ∧ ∀ x ∈ l0, RulesOK (1048576) x)) ∧ Below w.heap.size w wx)
  case first =>
    go_wp2_with (go_at_call 7; go_must (refine cz0.mono ?_; rintro e w1 ⟨⟨r, rfl, hr⟩, hb1⟩))
    go_meet
    exact ⟨r, rfl, hr, good_below hbq hb1⟩
  case rest =>
    clear cz0
    obtain ⟨r0, rfl, hr, hbq0⟩ := hcut
    rcases hr with rfl | ⟨ha0, hc0, hll0, hok0⟩
    case inl =>
      go_wp2_with fail
      go_ret
      exact ⟨rfl, hbq0⟩
    have hok0' : ∀ x ∈ l0, RulesOK 1048576 x := fun x hx => (hok0 x hx).mono (by omega)
    have HOK0 : Hid (∀ x ∈ l0, RulesOK 1048576 x) := hok0'
    have hlc0 : l0.length ≤ 1048576 := by omega
    have hrn0 : ¬ (r0 < 0) := by omega
    clear hok0 hok0' hbq hr0 hr1
    obtain ⟨wq0, hwq0⟩ : ∃ wq, wq = wc := ⟨_, rfl⟩
    subst hwq0
    have hbq := hbq0
    have hr0 := ha0
    have hr1 : r0 ≤ 1048576 := by omega
    clear hbq0
    have cz1 := szLayerS (w := wq0) (fun b hb => Nat.lt_of_lt_of_le hb hbq.size) (HR1.out.keep (cells_below (fun b hb => hb) hbq)) HF1.out (r0) hr0 hr1
    go_upto_region 7 with fail
    go_cut [7] from 18 (fun s3 wx => ∃ r : Int, s3 = .int .i64 r ∧ (r = -1 ∨ (0 ≤ r ∧ r ≤ r0 ∧ (l1.length : Int) ≤ r0 ∧ ∀ x ∈ l1, LayersOK (r0) x)) ∧ Below w.heap.size w wx)
    case first =>
      go_wp2_with (go_at_call 8; go_must (refine cz1.mono ?_; rintro e w1 ⟨⟨r, rfl, hr⟩, hb1⟩))
      go_meet
      exact ⟨r, rfl, hr, good_below hbq hb1⟩
    case rest =>
      clear cz1
      obtain ⟨r1, rfl, hr, hbq1⟩ := hcut
      rcases hr with rfl | ⟨ha1, hc1, hll1, hok1⟩
      case inl =>
        go_wp2_with fail
        go_ret
        exact ⟨rfl, hbq1⟩
      have hok1' : ∀ x ∈ l1, LayersOK 1048576 x := fun x hx => (hok1 x hx).mono (by omega)
      have HOK1 : Hid (∀ x ∈ l1, LayersOK 1048576 x) := hok1'
      have hlc1 : l1.length ≤ 1048576 := by omega
      have hrn1 : ¬ (r1 < 0) := by omega
      clear hok1 hok1' hbq hr0 hr1
      obtain ⟨wq1, hwq1⟩ : ∃ wq, wq = wc := ⟨_, rfl⟩
      subst hwq1
      have hbq := hbq1
      have hr0 := ha1
      have hr1 : r1 ≤ 1048576 := by omega
      clear hbq1
      have cs' := fun S v0 v1 W (hW : Below w.heap.size w W) hS h0 h1 => cs S v0 v1 W hS h0 hlc0 HOK0.out h1 hlc1 HOK1.out hs2 (fun W' hW' => HT.out W' (good_below hW hW'))
      have ci' := fun S v0 v1 W (hW : Below w.heap.size w W) hS h0 h1 => ci S v0 v1 W hS h0 hlc0 HOK0.out h1 hlc1 HOK1.out hs2 (fun W' hW' => HT.out W' (good_below hW hW'))
      clear cs ci
      go_upto_region 10 with fail
      go_cut [8, 9, 10, 11] from 18 (fun s8 s9 s10 s11 wx => s8 = .string P0 ∧ s9 = .int .i64 P1 ∧ s10 = .string P2 ∧ s11 = .int .i64 P3 ∧ Below w.heap.size w wx)
      case first =>
        go_wp2_with (first
                | (go_at_call 20; have hchk := bs1; refine (cs' (fun b => b < ws1.heap.size) _ _ _ Bs1 (fun b hb => hb) ((ks0_1).at.mono (S' := fun b => b < ws1.heap.size) (fun b hb => Nat.lt_of_lt_of_le hb.2 (us0_1))) ((ks1).at.mono (S' := fun b => b < ws1.heap.size) (fun b hb => Nat.lt_of_lt_of_le hb.2 (Nat.le_refl _)))).mono ?_; rintro e ws ⟨rfl, bs⟩; have Bs := good_below Bs1 bs)
                | (go_at_call 11; have hchk := bs0; refine (ct1 hlc1 HOK1.out _ Bs0).mono ?_; rintro e ws1 ⟨⟨ys1, rfl, ks1⟩, bs1⟩; have Bs1 := good_below Bs0 bs1; have ks0_1 := CpRules.below ks0 bs1 (Nat.le_refl _); have us0_1 := Nat.le_trans (Nat.le_refl _) bs1.size)
                | (go_at_call 10; refine (ct0 hlc0 HOK0.out _ hbq).mono ?_; rintro e ws0 ⟨⟨ys0, rfl, ks0⟩, bs0⟩; have Bs0 := good_below hbq bs0))
        go_meet
        exact ⟨rfl, rfl, rfl, rfl, Bs⟩
      case rest =>
        obtain ⟨rfl, rfl, rfl, rfl, hb5⟩ := hcut
        clear cs' hbq
        obtain ⟨w5, hw5⟩ : ∃ w5, w5 = wc := ⟨_, rfl⟩
        subst hw5
        have K5 : Below w5.heap.size w5 w5 := Below.refl _ _
        go_wp2_with (first
                    | (go_at_call 15; have hchk := bf1; refine (eqLayerS (fun b hb => Nat.lt_of_lt_of_le hb.2 uX1_f1) (fun b hb => hb.2) X1_f1.at kf1.at).mono ?_; rintro e wh1 ⟨rfl, bh1⟩; have Kh1 := good_below Kf1 bh1; have X0_h1 := CpRules.below X0_f1 bh1 uX0_f1; have uX0_h1 := Nat.le_trans uX0_f1 bh1.size; have X1_h1 := CpLayers.below X1_f1 bh1 uX1_f1; have uX1_h1 := Nat.le_trans uX1_f1 bh1.size)
                    | (go_at_call 11; have hchk := bh0; refine (ct1 hlc1 HOK1.out _ (good_below hb5 Kh0)).mono ?_; rintro e wf1 ⟨⟨yf1, rfl, kf1⟩, bf1⟩; have Kf1 := good_below Kh0 bf1; have X0_f1 := CpRules.below X0_h0 bf1 uX0_h0; have uX0_f1 := Nat.le_trans uX0_h0 bf1.size; have X1_f1 := CpLayers.below X1_h0 bf1 uX1_h0; have uX1_f1 := Nat.le_trans uX1_h0 bf1.size)
                    | (go_at_call 14; have hchk := bf0; refine (eqRuleS (fun b hb => Nat.lt_of_lt_of_le hb.2 uX0_f0) (fun b hb => hb.2) X0_f0.at kf0.at).mono ?_; rintro e wh0 ⟨rfl, bh0⟩; have Kh0 := good_below Kf0 bh0; have X0_h0 := CpRules.below X0_f0 bh0 uX0_f0; have uX0_h0 := Nat.le_trans uX0_f0 bh0.size; have X1_h0 := CpLayers.below X1_f0 bh0 uX1_f0; have uX1_h0 := Nat.le_trans uX1_f0 bh0.size)
                    | (go_at_call 10; have hchk := bg; refine (ct0 hlc0 HOK0.out _ (good_below hb5 Kg)).mono ?_; rintro e wf0 ⟨⟨yf0, rfl, kf0⟩, bf0⟩; have Kf0 := good_below Kg bf0; have X0_f0 := CpRules.below X0_g bf0 uX0_g; have uX0_f0 := Nat.le_trans uX0_g bf0.size; have X1_f0 := CpLayers.below X1_g bf0 uX1_g; have uX1_f0 := Nat.le_trans uX1_g bf0.size)
                    | (go_at_call 21; have hchk := bx1; refine (ci' (fun b => b < wx1.heap.size) _ _ _ (good_below hb5 Kx1) (fun b hb => hb) (X0_x1.at.mono (S' := fun b => b < wx1.heap.size) (fun b hb => Nat.lt_of_lt_of_le hb.2 uX0_x1)) (kx1.at.mono (S' := fun b => b < wx1.heap.size) (fun b hb => Nat.lt_of_lt_of_le hb.2 Ux1))).mono ?_; rintro e wg ⟨rfl, bg⟩; have Kg := good_below Kx1 bg; have X0_g := CpRules.below X0_x1 bg uX0_x1; have uX0_g := Nat.le_trans uX0_x1 bg.size; have X1_g := CpLayers.below kx1 bg Ux1; have uX1_g := Nat.le_trans Ux1 bg.size; have HWX : Hid (w5.heap.size ≤ wx1.heap.size) := Kx1.size)
                    | (go_at_call 11; have hchk := bx0; refine (ct1 hlc1 HOK1.out _ (good_below hb5 Kx0)).mono ?_; rintro e wx1 ⟨⟨yx1, rfl, kx1⟩, bx1⟩; have Kx1 := good_below Kx0 bx1; have X0_x1 := CpRules.below kx0 bx1 Ux0; have uX0_x1 := Nat.le_trans Ux0 bx1.size; have Ux1 : wx1.heap.size ≤ wx1.heap.size := Nat.le_refl _; have Lw1 : Hid (w5.heap.size ≤ wx0.heap.size) := Kx0.size)
                    | (go_at_call 10; refine (ct0 hlc0 HOK0.out _ (good_below hb5 K5)).mono ?_; rintro e wx0 ⟨⟨yx0, rfl, kx0⟩, bx0⟩; have Kx0 := good_below K5 bx0; have Ux0 : wx0.heap.size ≤ wx0.heap.size := Nat.le_refl _; have Lw0 : Hid (w5.heap.size ≤ w5.heap.size) := K5.size))
        go_ret
        exact ⟨rfl, good_below hb5 Kh1⟩
end Go.Proofs.YtoopdcbgnccmiaaGreatDoor

namespace Go.Proofs.YtoopdcbgnccmiaaGreatDoor
open Go.ChangeShapes Go.WideShapes Go.ChangeAt Go.RowKit
set_option linter.unusedVariables false
set_option linter.unusedSimpArgs false

theorem addr_at (b off j : Nat) : (⟨b, off, none⟩ : Addr).add j = ⟨b, off + j, none⟩ := by unfold Addr.add; split <;> simp_all
theorem run_append_zero {w : World} {B : Nat} {t ty e : TypeId} {i : TypeInfo} {size : Nat} (ht : Tryz.prog.underlying t = some (.slice e)) (hi : Tryz.prog.info? e = some i) (v : Value) (n : Nat) (xs : List Value) (hown : w.ownsRow B e size v n xs) (ao : Option Addr) (c : Nat) :
    (Builtin.append_ #[t, t] ty #[v, .slice ao 0 c]).run Tryz.prog w = .ok v w := by
  rcases hown.2 with ⟨rfl, rfl⟩ | ⟨g, cap, cur, rfl, _, _, hnc, _⟩
  · cases ao <;> simp [Builtin.append_, run_underlying ht, sizeOf, typeInfo, hi, Builtin.lenOf, Builtin.firstCells, loadCells, loadCellsFrom]
  · cases ao <;> simp [Builtin.append_, run_underlying ht, sizeOf, typeInfo, hi, Builtin.lenOf, Builtin.firstCells, loadCells, loadCellsFrom, hnc, storeCells]
theorem grown_refl (w : World) (row : Option Nat) : w.grownBy w row := ⟨rfl, rfl, rfl, Nat.le_refl _, fun _ _ _ => rfl⟩
theorem info_of {t : TypeId} {z : Value} {n b : Nat} (hi : (Tryz.prog.info? t).map (fun i => (i.zero, i.size, i.bytes)) = some (some z, n, b)) : ∃ i, Tryz.prog.info? t = some i ∧ i.zero = some z ∧ i.size = n ∧ i.bytes = b := by
  cases h : Tryz.prog.info? t with
  | none => rw [h] at hi; simp at hi
  | some i =>
    rw [h] at hi
    simp only [Option.map_some, Option.some.injEq, Prod.mk.injEq] at hi
    exact ⟨i, rfl, hi.1, hi.2.1, hi.2.2⟩
theorem OwnTxts.block {B : Nat} {w : World} {v : Value} {l : List ByteArray} (h : OwnTxts B w v l) : ∀ k, v.ownBlock = some k → B ≤ k := by
  intro k hk
  rcases h.2 with ⟨rfl, _⟩ | ⟨g, cap, cur, rfl, hB, _⟩
  · simp [Value.ownBlock] at hk
  · simp [Value.ownBlock] at hk; omega
theorem OwnTxts.kept {B : Nat} {w w' : World} {v : Value} {l : List ByteArray} {row : Option Nat} (h : OwnTxts B w v l) (hg : w.grownBy w' row) (hne : v.ownBlock = none ∨ v.ownBlock ≠ row) : OwnTxts B w' v l :=
  World.ownsRow.kept h hg hne
theorem OwnTxts.empty (B : Nat) (w : World) (hB : B ≤ w.heap.size) : OwnTxts B (w.alloc (.cells #[] 9)) (.slice (some ⟨w.heap.size, 0, none⟩) 0 0) [] :=
  ⟨rfl, .inr ⟨w.heap.size, 0, #[], rfl, hB, heap_alloc_last w _, Nat.le_refl _, Nat.zero_le _, rfl, rfl⟩⟩
theorem OwnTxts.nil (B : Nat) (w : World) : OwnTxts B w (.slice none 0 0) [] := ⟨rfl, .inl ⟨rfl, rfl⟩⟩
/-- A row of one that is built. -/
theorem TxtsAt.new (w : World) (x0 : ByteArray) : TxtsAt (fun b => b = w.heap.size) (w.alloc (.cells #[.string x0] 9)) (.slice (some ⟨w.heap.size, 0, none⟩) 1 1) [x0] := by
  refine ⟨by simp [maxLen], _, 1, rfl, fun _ => ⟨w.heap.size, 0, rfl, rfl, fun i hi => ?_⟩⟩
  have hi0 : i = 0 := by simpa using hi
  subst hi0
  have hb : Blk (w.alloc (.cells #[.string x0] 9)) w.heap.size 9 #[.string x0] := heap_alloc_last w _
  exact hb.cell 0
theorem TxtsAt.news {S : Nat → Prop} {w : World} {b off len cap : Nat} {ys : List ByteArray} (h : TxtsAt S w (.slice (some ⟨b, off, none⟩) len cap) ys) : ∀ j u, (TxtsRow ys)[j]? = some u → w.cell? ((⟨b, off, none⟩ : Addr).add j) = some u := by
  intro j u hj
  have hlt : j < ys.length * 1 := by
    have := (List.getElem?_eq_some_iff.1 hj).1
    rwa [TxtsRow_length] at this
  obtain ⟨_, a, c, hv, hc⟩ := h
  obtain ⟨b', off', ha, _, hcell⟩ := hc (by omega)
  simp only [Value.slice.injEq] at hv
  obtain ⟨rfl, _, _⟩ := hv
  simp only [Option.some.injEq, Addr.mk.injEq] at ha
  obtain ⟨rfl, rfl, _⟩ := ha
  have hk : j / 1 < ys.length := by omega
  have hcc := hcell (j / 1) hk
  have hrr := TxtsRow_at ys (j / 1) hk
  rw [addr_at]
  simp only [Nat.div_one] at hcc hrr
  rw [hcc, ← hrr, hj]
theorem wpList_appendTxts {ops : Array Oper} {rest : List Oper} {o : Oper} {a : Act} {w : World} {Q : Exit → Act → World → Prop} (hgd : o.guard = none) (s x : Operand)
    (ho : o.op = .call { callee := .builtin .append, args := #[s, x], argTypes := #[43, 43] })
    (B : Nat) (v : Value) (l : List ByteArray) (hs : a.eval s = v) (hown : OwnTxts B w v l) {S : Nat → Prop} (u : Value) (ys : List ByteArray) (hx : a.eval x = u) (hsrc : TxtsAt S w u ys)
    (hsz : l.length + ys.length ≤ 1000000) (hB : B ≤ w.heap.size)
    (h : ∀ v' w', OwnTxts B w' v' (l ++ ys) → Below B w w' → w.grownBy w' v.ownBlock → (v' = .slice none 0 0 → v = .slice none 0 0) → wpList Tryz.prog ops Q rest (a.put o.dst v') w') : wpList Tryz.prog ops Q (o :: rest) a w := by
  obtain ⟨i, hii, hz0, hz1, hz2⟩ := info_of (t := 9) (z := .string ⟨#[]⟩) (n := 1) (b := 16) (by kernel_rfl)
  obtain ⟨_, ao, c, hv, hc⟩ := id hsrc
  by_cases h0 : 0 < ys.length
  · obtain ⟨b, off, rfl, _, _⟩ := hc h0
    subst hv
    refine wpList_append_own w hgd s x 43 ho B 9 i (.string ⟨#[]⟩) 1 16 Tryz.underlying43 hii hz0 hz1 hz2 rfl (by decide) v l.length (TxtsRow l) hs hown ⟨b, off, none⟩ ys.length c (TxtsRow ys) hx (TxtsRow_length ys) hsrc.news (fun u hu => TxtsRow_one hu) ?_ ?_ hB ?_
    · unfold maxLen; omega
    · omega
    · intro v' w' h1 h2 h3
      have h4 : OwnTxts B w' v' (l ++ ys) := by
        unfold OwnTxts
        rw [TxtsRow_append, List.length_append]
        exact h1
      have h5 := (Below.refl _ w).grown h2 hB (OwnTxts.block hown)
      exact h v' w' h4 h5 h2 (fun e => (h3.1 e).1)
  · have hy : ys = [] := List.length_eq_zero_iff.1 (by omega)
    subst hy
    subst hv
    have hrun : (Builtin.append_ #[43, 43] o.type #[v, .slice ao 0 c]).run Tryz.prog w = .ok v w := run_append_zero Tryz.underlying43 hii v _ _ hown ao c
    refine wpList_plain hgd fun K hK => ?_
    unfold Oper.wp
    simp only [List.length_nil] at hx
    simp [execOp, ho, resolve, invoke, builtin, hs, hx, hrun, Result.andThen]
    exact hK _ _ (h v w (by simpa using hown) (Below.refl _ _) (grown_refl _ _) id)
theorem step_appendTxts {ops : Array Oper} {o : Oper} {a : Act} {w : World} {K : Act → World → Prop} {Q : Exit → Act → World → Prop} {E : Prop}
    (hg : o.guard = none) (s x : Operand) (ho : o.op = Op.call { callee := Callee.builtin Builtin.append, args := #[s, x], argTypes := #[43, 43] })
    (B : Nat) (v : Value) (l : List ByteArray) (hs : a.eval s = v) (hown : OwnTxts B w v l) {S : Nat → Prop} (u : Value) (ys : List ByteArray) (hx : a.eval x = u) (hsrc : TxtsAt S w u ys)
    (hsz : l.length + ys.length ≤ 1000000) (hB : B ≤ w.heap.size)
    (hK : ∀ va vn vc w', OwnTxts B w' (.slice va vn vc) (l ++ ys) → Below B w w' → w.grownBy w' v.ownBlock → (Value.slice va vn vc = .slice none 0 0 → v = .slice none 0 0) → K (a.put o.dst (.slice va vn vc)) w') :
    if Region.wanted o (yielded ops a.tmps) = true then Oper.wp Tryz.prog o a w K Q else E := by
  have hw : Region.wanted o (yielded ops a.tmps) = true := by simp [Region.wanted, hg]
  rw [if_pos hw]
  obtain ⟨i, hii, hz0, hz1, hz2⟩ := info_of (t := 9) (z := .string ⟨#[]⟩) (n := 1) (b := 16) (by kernel_rfl)
  obtain ⟨_, ao, c, hv, hc⟩ := id hsrc
  by_cases h0 : 0 < ys.length
  · obtain ⟨b, off, rfl, _, _⟩ := hc h0
    subst hv
    refine wp_append_own w  s x 43 ho B 9 i (.string ⟨#[]⟩) 1 16 Tryz.underlying43 hii hz0 hz1 hz2 rfl (by decide) v l.length (TxtsRow l) hs hown ⟨b, off, none⟩ ys.length c (TxtsRow ys) hx (TxtsRow_length ys) hsrc.news (fun u hu => TxtsRow_one hu) ?_ ?_ hB ?_
    · unfold maxLen; omega
    · omega
    · intro v' w' h1 h2 h3
      have h4 : OwnTxts B w' v' (l ++ ys) := by
        unfold OwnTxts
        rw [TxtsRow_append, List.length_append]
        exact h1
      have h5 := (Below.refl _ w).grown h2 hB (OwnTxts.block hown)
      rcases h4.2 with ⟨rfl, _⟩ | ⟨g, cap, cur, rfl, _⟩
      · exact hK _ _ _ w' h4 h5 h2 (fun e => (h3.1 e).1)
      · exact hK _ _ _ w' h4 h5 h2 (fun e => (h3.1 e).1)
  · have hy : ys = [] := List.length_eq_zero_iff.1 (by omega)
    subst hy
    subst hv
    have hrun : (Builtin.append_ #[43, 43] o.type #[v, .slice ao 0 c]).run Tryz.prog w = .ok v w := run_append_zero Tryz.underlying43 hii v _ _ hown ao c
    unfold Oper.wp
    simp only [List.length_nil] at hx
    simp [execOp, ho, resolve, invoke, builtin, hs, hx, hrun, Result.andThen]
    obtain ⟨va, vc, hvv, _⟩ := hown.value
    subst hvv
    exact hK _ _ _ w (by simpa using hown) (Below.refl _ _) (grown_refl _ _) id
theorem OwnSettings.block {B : Nat} {w : World} {v : Value} {l : List Setting} (h : OwnSettings B w v l) : ∀ k, v.ownBlock = some k → B ≤ k := by
  intro k hk
  rcases h.2 with ⟨rfl, _⟩ | ⟨g, cap, cur, rfl, hB, _⟩
  · simp [Value.ownBlock] at hk
  · simp [Value.ownBlock] at hk; omega
theorem OwnSettings.kept {B : Nat} {w w' : World} {v : Value} {l : List Setting} {row : Option Nat} (h : OwnSettings B w v l) (hg : w.grownBy w' row) (hne : v.ownBlock = none ∨ v.ownBlock ≠ row) : OwnSettings B w' v l :=
  World.ownsRow.kept h hg hne
theorem OwnSettings.empty (B : Nat) (w : World) (hB : B ≤ w.heap.size) : OwnSettings B (w.alloc (.cells #[] 81)) (.slice (some ⟨w.heap.size, 0, none⟩) 0 0) [] :=
  ⟨rfl, .inr ⟨w.heap.size, 0, #[], rfl, hB, heap_alloc_last w _, Nat.le_refl _, Nat.zero_le _, rfl, rfl⟩⟩
theorem OwnSettings.nil (B : Nat) (w : World) : OwnSettings B w (.slice none 0 0) [] := ⟨rfl, .inl ⟨rfl, rfl⟩⟩
/-- A row of one that is built. -/
theorem SettingsAt.new (w : World) (x0 : ByteArray) (x1 : ByteArray) (x2 : ByteArray) : SettingsAt (fun b => b = w.heap.size) (w.alloc (.cells #[.string x0, .string x1, .string x2] 81)) (.slice (some ⟨w.heap.size, 0, none⟩) 1 1) [⟨x0, x1, x2⟩] := by
  refine ⟨by simp [maxLen], _, 1, rfl, fun _ => ⟨w.heap.size, 0, rfl, rfl, fun i hi => ?_⟩⟩
  have hi0 : i = 0 := by simpa using hi
  subst hi0
  have hb : Blk (w.alloc (.cells #[.string x0, .string x1, .string x2] 81)) w.heap.size 81 #[.string x0, .string x1, .string x2] := heap_alloc_last w _
  exact ⟨hb.cell 0, hb.cell 1, hb.cell 2⟩
theorem SettingsAt.news {S : Nat → Prop} {w : World} {b off len cap : Nat} {ys : List Setting} (h : SettingsAt S w (.slice (some ⟨b, off, none⟩) len cap) ys) : ∀ j u, (SettingsRow ys)[j]? = some u → w.cell? ((⟨b, off, none⟩ : Addr).add j) = some u := by
  intro j u hj
  have hlt : j < ys.length * 3 := by
    have := (List.getElem?_eq_some_iff.1 hj).1
    rwa [SettingsRow_length] at this
  obtain ⟨_, a, c, hv, hc⟩ := h
  obtain ⟨b', off', ha, _, hcell⟩ := hc (by omega)
  simp only [Value.slice.injEq] at hv
  obtain ⟨rfl, _, _⟩ := hv
  simp only [Option.some.injEq, Addr.mk.injEq] at ha
  obtain ⟨rfl, rfl, _⟩ := ha
  have hk : j / 3 < ys.length := by omega
  have hcc := hcell (j / 3) hk
  have hrr := SettingsRow_at ys (j / 3) hk
  rw [addr_at]
  obtain ⟨c0, c1, c2⟩ := hcc
  obtain ⟨r0, r1, r2⟩ := hrr
  have h3 : j % 3 = 0 ∨ j % 3 = 1 ∨ j % 3 = 2 := by omega
  rcases h3 with h3 | h3 | h3
  · have e : j = j / 3 * 3 := by omega
    rw [e] at hj
    rw [r0] at hj
    rw [show off + j = off + j / 3 * 3 by omega, c0, ← hj]
  · have e : j = j / 3 * 3 + 1 := by omega
    rw [e] at hj
    rw [r1] at hj
    rw [show off + j = off + j / 3 * 3 + 1 by omega, c1, ← hj]
  · have e : j = j / 3 * 3 + 2 := by omega
    rw [e] at hj
    rw [r2] at hj
    rw [show off + j = off + j / 3 * 3 + 2 by omega, c2, ← hj]
theorem wpList_appendSettings {ops : Array Oper} {rest : List Oper} {o : Oper} {a : Act} {w : World} {Q : Exit → Act → World → Prop} (hgd : o.guard = none) (s x : Operand)
    (ho : o.op = .call { callee := .builtin .append, args := #[s, x], argTypes := #[78, 78] })
    (B : Nat) (v : Value) (l : List Setting) (hs : a.eval s = v) (hown : OwnSettings B w v l) {S : Nat → Prop} (u : Value) (ys : List Setting) (hx : a.eval x = u) (hsrc : SettingsAt S w u ys)
    (hsz : l.length + ys.length ≤ 1000000) (hB : B ≤ w.heap.size)
    (h : ∀ v' w', OwnSettings B w' v' (l ++ ys) → Below B w w' → w.grownBy w' v.ownBlock → (v' = .slice none 0 0 → v = .slice none 0 0) → wpList Tryz.prog ops Q rest (a.put o.dst v') w') : wpList Tryz.prog ops Q (o :: rest) a w := by
  obtain ⟨i, hii, hz0, hz1, hz2⟩ := info_of (t := 81) (z := .agg #[.string ⟨#[]⟩, .string ⟨#[]⟩, .string ⟨#[]⟩]) (n := 3) (b := 48) (by kernel_rfl)
  obtain ⟨_, ao, c, hv, hc⟩ := id hsrc
  by_cases h0 : 0 < ys.length
  · obtain ⟨b, off, rfl, _, _⟩ := hc h0
    subst hv
    refine wpList_append_own w hgd s x 78 ho B 81 i (.agg #[.string ⟨#[]⟩, .string ⟨#[]⟩, .string ⟨#[]⟩]) 3 48 Tryz.underlying78 hii hz0 hz1 hz2 rfl (by decide) v l.length (SettingsRow l) hs hown ⟨b, off, none⟩ ys.length c (SettingsRow ys) hx (SettingsRow_length ys) hsrc.news (fun u hu => SettingsRow_one hu) ?_ ?_ hB ?_
    · unfold maxLen; omega
    · omega
    · intro v' w' h1 h2 h3
      have h4 : OwnSettings B w' v' (l ++ ys) := by
        unfold OwnSettings
        rw [SettingsRow_append, List.length_append]
        exact h1
      have h5 := (Below.refl _ w).grown h2 hB (OwnSettings.block hown)
      exact h v' w' h4 h5 h2 (fun e => (h3.1 e).1)
  · have hy : ys = [] := List.length_eq_zero_iff.1 (by omega)
    subst hy
    subst hv
    have hrun : (Builtin.append_ #[78, 78] o.type #[v, .slice ao 0 c]).run Tryz.prog w = .ok v w := run_append_zero Tryz.underlying78 hii v _ _ hown ao c
    refine wpList_plain hgd fun K hK => ?_
    unfold Oper.wp
    simp only [List.length_nil] at hx
    simp [execOp, ho, resolve, invoke, builtin, hs, hx, hrun, Result.andThen]
    exact hK _ _ (h v w (by simpa using hown) (Below.refl _ _) (grown_refl _ _) id)
theorem step_appendSettings {ops : Array Oper} {o : Oper} {a : Act} {w : World} {K : Act → World → Prop} {Q : Exit → Act → World → Prop} {E : Prop}
    (hg : o.guard = none) (s x : Operand) (ho : o.op = Op.call { callee := Callee.builtin Builtin.append, args := #[s, x], argTypes := #[78, 78] })
    (B : Nat) (v : Value) (l : List Setting) (hs : a.eval s = v) (hown : OwnSettings B w v l) {S : Nat → Prop} (u : Value) (ys : List Setting) (hx : a.eval x = u) (hsrc : SettingsAt S w u ys)
    (hsz : l.length + ys.length ≤ 1000000) (hB : B ≤ w.heap.size)
    (hK : ∀ va vn vc w', OwnSettings B w' (.slice va vn vc) (l ++ ys) → Below B w w' → w.grownBy w' v.ownBlock → (Value.slice va vn vc = .slice none 0 0 → v = .slice none 0 0) → K (a.put o.dst (.slice va vn vc)) w') :
    if Region.wanted o (yielded ops a.tmps) = true then Oper.wp Tryz.prog o a w K Q else E := by
  have hw : Region.wanted o (yielded ops a.tmps) = true := by simp [Region.wanted, hg]
  rw [if_pos hw]
  obtain ⟨i, hii, hz0, hz1, hz2⟩ := info_of (t := 81) (z := .agg #[.string ⟨#[]⟩, .string ⟨#[]⟩, .string ⟨#[]⟩]) (n := 3) (b := 48) (by kernel_rfl)
  obtain ⟨_, ao, c, hv, hc⟩ := id hsrc
  by_cases h0 : 0 < ys.length
  · obtain ⟨b, off, rfl, _, _⟩ := hc h0
    subst hv
    refine wp_append_own w  s x 78 ho B 81 i (.agg #[.string ⟨#[]⟩, .string ⟨#[]⟩, .string ⟨#[]⟩]) 3 48 Tryz.underlying78 hii hz0 hz1 hz2 rfl (by decide) v l.length (SettingsRow l) hs hown ⟨b, off, none⟩ ys.length c (SettingsRow ys) hx (SettingsRow_length ys) hsrc.news (fun u hu => SettingsRow_one hu) ?_ ?_ hB ?_
    · unfold maxLen; omega
    · omega
    · intro v' w' h1 h2 h3
      have h4 : OwnSettings B w' v' (l ++ ys) := by
        unfold OwnSettings
        rw [SettingsRow_append, List.length_append]
        exact h1
      have h5 := (Below.refl _ w).grown h2 hB (OwnSettings.block hown)
      rcases h4.2 with ⟨rfl, _⟩ | ⟨g, cap, cur, rfl, _⟩
      · exact hK _ _ _ w' h4 h5 h2 (fun e => (h3.1 e).1)
      · exact hK _ _ _ w' h4 h5 h2 (fun e => (h3.1 e).1)
  · have hy : ys = [] := List.length_eq_zero_iff.1 (by omega)
    subst hy
    subst hv
    have hrun : (Builtin.append_ #[78, 78] o.type #[v, .slice ao 0 c]).run Tryz.prog w = .ok v w := run_append_zero Tryz.underlying78 hii v _ _ hown ao c
    unfold Oper.wp
    simp only [List.length_nil] at hx
    simp [execOp, ho, resolve, invoke, builtin, hs, hx, hrun, Result.andThen]
    obtain ⟨va, vc, hvv, _⟩ := hown.value
    subst hvv
    exact hK _ _ _ w (by simpa using hown) (Below.refl _ _) (grown_refl _ _) id
theorem OwnChanges.block {B : Nat} {w : World} {v : Value} {l : List Change} (h : OwnChanges B w v l) : ∀ k, v.ownBlock = some k → B ≤ k := by
  intro k hk
  rcases h.2 with ⟨rfl, _⟩ | ⟨g, cap, cur, rfl, hB, _⟩
  · simp [Value.ownBlock] at hk
  · simp [Value.ownBlock] at hk; omega
theorem OwnChanges.kept {B : Nat} {w w' : World} {v : Value} {l : List Change} {row : Option Nat} (h : OwnChanges B w v l) (hg : w.grownBy w' row) (hne : v.ownBlock = none ∨ v.ownBlock ≠ row) : OwnChanges B w' v l :=
  World.ownsRow.kept h hg hne
theorem OwnChanges.empty (B : Nat) (w : World) (hB : B ≤ w.heap.size) : OwnChanges B (w.alloc (.cells #[] 113)) (.slice (some ⟨w.heap.size, 0, none⟩) 0 0) [] :=
  ⟨rfl, .inr ⟨w.heap.size, 0, #[], rfl, hB, heap_alloc_last w _, Nat.le_refl _, Nat.zero_le _, rfl, rfl⟩⟩
theorem OwnChanges.nil (B : Nat) (w : World) : OwnChanges B w (.slice none 0 0) [] := ⟨rfl, .inl ⟨rfl, rfl⟩⟩
/-- A row of one that is built. -/
theorem ChangesAt.new (w : World) (x0 : ByteArray) (x1 : ByteArray) (x2 : ByteArray) : ChangesAt (fun b => b = w.heap.size) (w.alloc (.cells #[.string x0, .string x1, .string x2] 113)) (.slice (some ⟨w.heap.size, 0, none⟩) 1 1) [⟨x0, x1, x2⟩] := by
  refine ⟨by simp [maxLen], _, 1, rfl, fun _ => ⟨w.heap.size, 0, rfl, rfl, fun i hi => ?_⟩⟩
  have hi0 : i = 0 := by simpa using hi
  subst hi0
  have hb : Blk (w.alloc (.cells #[.string x0, .string x1, .string x2] 113)) w.heap.size 113 #[.string x0, .string x1, .string x2] := heap_alloc_last w _
  exact ⟨hb.cell 0, hb.cell 1, hb.cell 2⟩
theorem ChangesAt.news {S : Nat → Prop} {w : World} {b off len cap : Nat} {ys : List Change} (h : ChangesAt S w (.slice (some ⟨b, off, none⟩) len cap) ys) : ∀ j u, (ChangesRow ys)[j]? = some u → w.cell? ((⟨b, off, none⟩ : Addr).add j) = some u := by
  intro j u hj
  have hlt : j < ys.length * 3 := by
    have := (List.getElem?_eq_some_iff.1 hj).1
    rwa [ChangesRow_length] at this
  obtain ⟨_, a, c, hv, hc⟩ := h
  obtain ⟨b', off', ha, _, hcell⟩ := hc (by omega)
  simp only [Value.slice.injEq] at hv
  obtain ⟨rfl, _, _⟩ := hv
  simp only [Option.some.injEq, Addr.mk.injEq] at ha
  obtain ⟨rfl, rfl, _⟩ := ha
  have hk : j / 3 < ys.length := by omega
  have hcc := hcell (j / 3) hk
  have hrr := ChangesRow_at ys (j / 3) hk
  rw [addr_at]
  obtain ⟨c0, c1, c2⟩ := hcc
  obtain ⟨r0, r1, r2⟩ := hrr
  have h3 : j % 3 = 0 ∨ j % 3 = 1 ∨ j % 3 = 2 := by omega
  rcases h3 with h3 | h3 | h3
  · have e : j = j / 3 * 3 := by omega
    rw [e] at hj
    rw [r0] at hj
    rw [show off + j = off + j / 3 * 3 by omega, c0, ← hj]
  · have e : j = j / 3 * 3 + 1 := by omega
    rw [e] at hj
    rw [r1] at hj
    rw [show off + j = off + j / 3 * 3 + 1 by omega, c1, ← hj]
  · have e : j = j / 3 * 3 + 2 := by omega
    rw [e] at hj
    rw [r2] at hj
    rw [show off + j = off + j / 3 * 3 + 2 by omega, c2, ← hj]
theorem wpList_appendChanges {ops : Array Oper} {rest : List Oper} {o : Oper} {a : Act} {w : World} {Q : Exit → Act → World → Prop} (hgd : o.guard = none) (s x : Operand)
    (ho : o.op = .call { callee := .builtin .append, args := #[s, x], argTypes := #[45, 45] })
    (B : Nat) (v : Value) (l : List Change) (hs : a.eval s = v) (hown : OwnChanges B w v l) {S : Nat → Prop} (u : Value) (ys : List Change) (hx : a.eval x = u) (hsrc : ChangesAt S w u ys)
    (hsz : l.length + ys.length ≤ 1000000) (hB : B ≤ w.heap.size)
    (h : ∀ v' w', OwnChanges B w' v' (l ++ ys) → Below B w w' → w.grownBy w' v.ownBlock → (v' = .slice none 0 0 → v = .slice none 0 0) → wpList Tryz.prog ops Q rest (a.put o.dst v') w') : wpList Tryz.prog ops Q (o :: rest) a w := by
  obtain ⟨i, hii, hz0, hz1, hz2⟩ := info_of (t := 113) (z := .agg #[.string ⟨#[]⟩, .string ⟨#[]⟩, .string ⟨#[]⟩]) (n := 3) (b := 48) (by kernel_rfl)
  obtain ⟨_, ao, c, hv, hc⟩ := id hsrc
  by_cases h0 : 0 < ys.length
  · obtain ⟨b, off, rfl, _, _⟩ := hc h0
    subst hv
    refine wpList_append_own w hgd s x 45 ho B 113 i (.agg #[.string ⟨#[]⟩, .string ⟨#[]⟩, .string ⟨#[]⟩]) 3 48 Tryz.underlying45 hii hz0 hz1 hz2 rfl (by decide) v l.length (ChangesRow l) hs hown ⟨b, off, none⟩ ys.length c (ChangesRow ys) hx (ChangesRow_length ys) hsrc.news (fun u hu => ChangesRow_one hu) ?_ ?_ hB ?_
    · unfold maxLen; omega
    · omega
    · intro v' w' h1 h2 h3
      have h4 : OwnChanges B w' v' (l ++ ys) := by
        unfold OwnChanges
        rw [ChangesRow_append, List.length_append]
        exact h1
      have h5 := (Below.refl _ w).grown h2 hB (OwnChanges.block hown)
      exact h v' w' h4 h5 h2 (fun e => (h3.1 e).1)
  · have hy : ys = [] := List.length_eq_zero_iff.1 (by omega)
    subst hy
    subst hv
    have hrun : (Builtin.append_ #[45, 45] o.type #[v, .slice ao 0 c]).run Tryz.prog w = .ok v w := run_append_zero Tryz.underlying45 hii v _ _ hown ao c
    refine wpList_plain hgd fun K hK => ?_
    unfold Oper.wp
    simp only [List.length_nil] at hx
    simp [execOp, ho, resolve, invoke, builtin, hs, hx, hrun, Result.andThen]
    exact hK _ _ (h v w (by simpa using hown) (Below.refl _ _) (grown_refl _ _) id)
theorem step_appendChanges {ops : Array Oper} {o : Oper} {a : Act} {w : World} {K : Act → World → Prop} {Q : Exit → Act → World → Prop} {E : Prop}
    (hg : o.guard = none) (s x : Operand) (ho : o.op = Op.call { callee := Callee.builtin Builtin.append, args := #[s, x], argTypes := #[45, 45] })
    (B : Nat) (v : Value) (l : List Change) (hs : a.eval s = v) (hown : OwnChanges B w v l) {S : Nat → Prop} (u : Value) (ys : List Change) (hx : a.eval x = u) (hsrc : ChangesAt S w u ys)
    (hsz : l.length + ys.length ≤ 1000000) (hB : B ≤ w.heap.size)
    (hK : ∀ va vn vc w', OwnChanges B w' (.slice va vn vc) (l ++ ys) → Below B w w' → w.grownBy w' v.ownBlock → (Value.slice va vn vc = .slice none 0 0 → v = .slice none 0 0) → K (a.put o.dst (.slice va vn vc)) w') :
    if Region.wanted o (yielded ops a.tmps) = true then Oper.wp Tryz.prog o a w K Q else E := by
  have hw : Region.wanted o (yielded ops a.tmps) = true := by simp [Region.wanted, hg]
  rw [if_pos hw]
  obtain ⟨i, hii, hz0, hz1, hz2⟩ := info_of (t := 113) (z := .agg #[.string ⟨#[]⟩, .string ⟨#[]⟩, .string ⟨#[]⟩]) (n := 3) (b := 48) (by kernel_rfl)
  obtain ⟨_, ao, c, hv, hc⟩ := id hsrc
  by_cases h0 : 0 < ys.length
  · obtain ⟨b, off, rfl, _, _⟩ := hc h0
    subst hv
    refine wp_append_own w  s x 45 ho B 113 i (.agg #[.string ⟨#[]⟩, .string ⟨#[]⟩, .string ⟨#[]⟩]) 3 48 Tryz.underlying45 hii hz0 hz1 hz2 rfl (by decide) v l.length (ChangesRow l) hs hown ⟨b, off, none⟩ ys.length c (ChangesRow ys) hx (ChangesRow_length ys) hsrc.news (fun u hu => ChangesRow_one hu) ?_ ?_ hB ?_
    · unfold maxLen; omega
    · omega
    · intro v' w' h1 h2 h3
      have h4 : OwnChanges B w' v' (l ++ ys) := by
        unfold OwnChanges
        rw [ChangesRow_append, List.length_append]
        exact h1
      have h5 := (Below.refl _ w).grown h2 hB (OwnChanges.block hown)
      rcases h4.2 with ⟨rfl, _⟩ | ⟨g, cap, cur, rfl, _⟩
      · exact hK _ _ _ w' h4 h5 h2 (fun e => (h3.1 e).1)
      · exact hK _ _ _ w' h4 h5 h2 (fun e => (h3.1 e).1)
  · have hy : ys = [] := List.length_eq_zero_iff.1 (by omega)
    subst hy
    subst hv
    have hrun : (Builtin.append_ #[45, 45] o.type #[v, .slice ao 0 c]).run Tryz.prog w = .ok v w := run_append_zero Tryz.underlying45 hii v _ _ hown ao c
    unfold Oper.wp
    simp only [List.length_nil] at hx
    simp [execOp, ho, resolve, invoke, builtin, hs, hx, hrun, Result.andThen]
    obtain ⟨va, vc, hvv, _⟩ := hown.value
    subst hvv
    exact hK _ _ _ w (by simpa using hown) (Below.refl _ _) (grown_refl _ _) id
end Go.Proofs.YtoopdcbgnccmiaaGreatDoor
