/-
  What came in is copied. No statement of the seat is proved here.
-/
import Derived.Test.YtbpijollcjdkhaaDoorG0
namespace Go.Proofs.YtbpijollcjdkhaaDoor
open Go.ChangeShapes Go.WideShapes Go.ChangeAt Go.RowKit
set_option linter.unusedVariables false
set_option linter.unusedSimpArgs false

theorem last3 (w : World) (o p q : Obj) : (((w.alloc o).alloc p).alloc q).heap[w.heap.size + 1]? = some p := by
  have h1 : ((w.alloc o).alloc p).heap[w.heap.size + 1]? = some p := by
    have := heap_alloc_last (w.alloc o) p
    rwa [World.size_alloc] at this
  have h2 : w.heap.size + 1 < ((w.alloc o).alloc p).heap.size := by simp only [World.size_alloc]; omega
  have := ((Below.refl _ ((w.alloc o).alloc p)).alloc (Nat.le_refl _) q).block (w.heap.size + 1) h2
  rw [this]; exact h1
theorem last3' (w : World) (o p q : Obj) : (((w.alloc o).alloc p).alloc q).heap[w.heap.size + 1 + 1]? = some q := by
  have := heap_alloc_last ((w.alloc o).alloc p) q
  simpa only [World.size_alloc] using this
theorem bel3 (w : World) (o p q : Obj) : Below w.heap.size w (((w.alloc o).alloc p).alloc q) :=
  (((Below.refl _ w).alloc (Nat.le_refl _) _).alloc (by simp only [World.size_alloc]; omega) _).alloc (by simp only [World.size_alloc]; omega) _
theorem makeN (z : Nat) (t e : TypeId) (bytes n : Nat) (ht : Tryd.prog.underlying t = some (.slice e)) (hinfo : ((Tryd.prog.info? e).bind fun i => i.zero.map fun _ => (i.size, i.bytes)) = some (z, bytes)) (hb : bytes * n ≤ 281474976710656) (hn : n ≤ 9223372036854775807) (W : World) :
    ∃ cur : Array Value, cur.size = n * z ∧ (Instr.makeSlice t (.int .i64 (n : Int)) (.int .i64 (n : Int))).run Tryd.prog W = .ok (.slice (some ⟨W.heap.size, 0, none⟩) n n) (W.alloc (.cells cur e)) := by
  cases hi : Tryd.prog.info? e with
  | none => rw [hi] at hinfo; simp at hinfo
  | some i =>
    rw [hi] at hinfo
    simp only [Option.bind_some] at hinfo
    cases hz : i.zero with
    | none => rw [hz] at hinfo; simp at hinfo
    | some zv =>
      rw [hz] at hinfo
      simp only [Option.map_some, Option.some.injEq, Prod.mk.injEq] at hinfo
      obtain ⟨h3, hby⟩ := hinfo
      have hbn : (i.bytes : Int) * (n : Int) ≤ 281474976710656 := by
        rw [hby]
        have h : ((bytes * n : Nat) : Int) ≤ 281474976710656 := by omega
        rwa [Int.natCast_mul] at h
      have hr := run_make (P := Tryd.prog) W t e i zv ht hi hz .i64 .i64 (n : Int) (n : Int) (by omega) (by omega) hbn (by omega)
      simp only [Int.toNat_natCast] at hr
      exact ⟨_, by rw [size_madeCells, h3], hr⟩
/-- A row that is laid: the first k are. -/
def TxtsC (cur : Array Value) (l : List ByteArray) (k : Nat) : Prop := ∀ i (h : i < l.length), i < k → cur[i]? = some (.string l[i])
theorem TxtsC.step {cur : Array Value} {l : List ByteArray} {k : Nat} (h : TxtsC cur l k) (hk : k < l.length) (hc : k < cur.size) :
    TxtsC (cur.setIfInBounds (k) (.string l[k])) l (k + 1) := by
  intro i hi hik
  simp only [Array.getElem?_setIfInBounds, Array.size_setIfInBounds]
  by_cases hmk : i = k
  · subst hmk
    · rw [if_pos rfl, if_pos (by omega)]
  · have := h i hi (by omega)
    have h3 : i < k := by omega
    rw [if_neg (by omega)]
    exact this
/-- The row l, laid in the block g of its own. -/
def RowTxts (w : World) (g : Nat) (v : Value) (l : List ByteArray) : Prop := l.length ≤ maxLen ∧ v = .slice (some ⟨g, 0, none⟩) l.length l.length ∧ ∃ cur, Blk w g 9 cur ∧ cur.size = l.length * 1 ∧ TxtsC cur l l.length
theorem RowTxts.keep {w w' : World} {g : Nat} {v : Value} {l : List ByteArray} (h : RowTxts w g v l) (hk : w'.heap[g]? = w.heap[g]?) : RowTxts w' g v l := by
  obtain ⟨h1, h2, cur, h3, h4⟩ := h
  exact ⟨h1, h2, cur, by unfold Blk at *; rw [hk]; exact h3, h4⟩
theorem RowTxts.lt {w : World} {g : Nat} {v : Value} {l : List ByteArray} (h : RowTxts w g v l) : g < w.heap.size := by
  obtain ⟨h1, h2, cur, h3, h4⟩ := h
  exact h3.lt
theorem RowTxts.at {S : Nat → Prop} {w : World} {g : Nat} {v : Value} {l : List ByteArray} (h : RowTxts w g v l) (hS : S g) : TxtsAt S w v l := by
  obtain ⟨h1, h2, cur, h3, h4, h5⟩ := h
  refine ⟨h1, _, _, h2, fun _ => ⟨g, 0, rfl, hS, fun i hi => ?_⟩⟩
  simp only [Nat.zero_add]
  rw [h3.cell]
  exact h5 i hi hi
set_option maxRecDepth 100000 in
set_option maxHeartbeats 400000 in
theorem toStringS {S : Nat → Prop} {l : List ByteArray} {v : Value} {w : World} (hS : ∀ b, S b → b < w.heap.size) (h : TxtsAt S w v l) (hl : l.length ≤ 1048576) :
    Calls Tryd.prog 47 #[v] w fun e w' => (∃ v', e = .returned v' ∧ RowTxts w' w.heap.size v' l) ∧ Below w.heap.size w w' := by
  obtain ⟨hlm, a, cap, rfl, hc⟩ := h
  have HC : Hid _ := hc
  clear hc
  obtain ⟨n, hn⟩ : ∃ n, l.length = n := ⟨_, rfl⟩
  obtain ⟨cur0, hcs, hmk0⟩ := makeN 1 28 9 16 n Tryd.underlying28 (by kernel_rfl) (by omega) (by omega) w
  rw [hn] at hl hlm ⊢
  go_enter Tryd.func47, Tryd.ntmps47
  go_wp2_with fail
  go_loopw [4] (fun i4 wr => ∃ (k : Nat) (cur : Array Value), i4 = .int .i64 (k : Int) ∧ k ≤ n ∧ Blk wr w.heap.size 9 cur ∧ cur.size = n * 1 ∧ TxtsC cur l k ∧ Below w.heap.size w wr) (fun i4 _ => n - (intOf i4).toNat)
  case atStart => exact ⟨0, cur0, rfl, by omega, heap_alloc_last w _, hcs, fun i _ h => by omega, (Below.refl _ w).alloc (Nat.le_refl _) _⟩
  case round =>
    obtain ⟨k, cur, rfl, hk, hblk, hsz, hic, hb⟩ := hrel
    have HI : Hid (TxtsC cur l k) := hic
    have HB : Hid (Blk wr w.heap.size 9 cur) := hblk
    clear hic hblk
    by_cases hkn : k < n
    · have hkn' : (k : Int) < (n : Int) := by omega
      have hkl : k < l.length := by omega
      obtain ⟨b, off, rfl, hbB, hcell⟩ := HC.out (by omega)
      have c0 := hcell k hkl
      have hbw : b < w.heap.size := hS b hbB
      have d0 := (hb.cell (p := ⟨b, off + k, none⟩) hbw).trans c0
      have z0 : k < cur.size := by rw [hsz]; omega
      have hst := HI.out.step hkl z0
      obtain ⟨x, hxk⟩ : ∃ x, l[k] = x := ⟨_, rfl⟩
      rw [hxk] at d0 hst
      clear hxk c0 hcell
      have HST : Hid _ := hst
      clear hst
      have hbk := HB.out
      have e0 := hbk.cell (k)
      rw [Array.getElem?_eq_getElem z0] at e0
      have f0 := hbk.fro (k)
      go_wp2_with fail
      exact ⟨⟨k + 1, _, rfl, by omega, (hbk.set (k) _), by simp [hsz], HST.out, (hb.setCell (Nat.le_refl _) _)⟩, by simp [intOf]; omega⟩
    · have hkn' : ¬ ((k : Int) < (n : Int)) := by omega
      go_wp2_with fail
      go_ret
      exact ⟨⟨.slice (some ⟨w.heap.size, 0, none⟩) n n, rfl, by omega, by rw [hn], cur, HB.out, by rw [hsz, hn], by rw [hn]; obtain rfl : k = n := (by omega); exact HI.out⟩, hb⟩
theorem last30 (w : World) (o p q : Obj) : (((w.alloc o).alloc p).alloc q).heap[w.heap.size]? = some o := by
  have h1 := heap_alloc_last w o
  have hb : Below (w.alloc o).heap.size (w.alloc o) (((w.alloc o).alloc p).alloc q) := ((Below.refl _ _).alloc (Nat.le_refl _) _).alloc (by simp only [World.size_alloc]; omega) _
  have := hb.block w.heap.size (by simp only [World.size_alloc]; omega)
  rw [this]; exact h1
set_option maxRecDepth 100000 in
theorem toSagaStep {S : Nat → Prop} (x0 : ByteArray) (x1 : List ByteArray) (x2 : Bool) (x3 : Int) (nv : Value) (w : World) (hS : ∀ b, S b → b < w.heap.size) (h : TxtsAt S w nv x1) (hl : x1.length ≤ 1048576) :
    Calls Tryd.prog 22 #[.agg #[.string x0, nv, .bool x2, .int .i64 x3]] w fun e w' => (∃ nv', e = .returned (.agg #[.string x0, nv', .bool x2, .int .i64 x3]) ∧ ∃ g, w.heap.size ≤ g ∧ RowTxts w' g nv' x1) ∧ Below w.heap.size w w' := by
  have cs := fun o p q => toStringS (w := ((w.alloc o).alloc p).alloc q) (fun b hb => Nat.lt_of_lt_of_le (hS b hb) (bel3 w o p q).size) (h.keep (cells_below hS (bel3 w o p q))) hl
  clear h
  go_enter Tryd.func22, Tryd.ntmps22
  go_wp2_with (go_at_call 47; go_must (refine (cs _ _ _).mono ?_; rintro e w1 ⟨⟨nv', rfl, hn⟩, hb1⟩; simp only [World.size_alloc] at hn; have HN : Hid (RowTxts w1 (w.heap.size + 1 + 1 + 1) nv' x1) := hn; obtain rfl := hn.2.1; clear hn; have hk1 : Blk w1 (w.heap.size + 1) 56 #[.string ⟨#[]⟩, .slice none 0 0, .bool false, .int .i64 0] := Blk.below (last3 w _ _ _) hb1; have hk2 : Blk w1 (w.heap.size + 1 + 1) 56 #[.string x0, .slice none 0 0, .bool false, .int .i64 0] := Blk.below (last3' w _ _ _) hb1; have e10 := hk1.cell 0; have e11 := hk1.cell 1; have e12 := hk1.cell 2; have e13 := hk1.cell 3; have e20 := hk2.cell 0; have e21 := hk2.cell 1; have e22 := hk2.cell 2; have e23 := hk2.cell 3; simp at e10 e11 e12 e13 e20 e21 e22 e23; have f10 := hk1.fro 0; have f11 := hk1.fro 1; have f12 := hk1.fro 2; have f13 := hk1.fro 3; have f20 := hk2.fro 0; have f21 := hk2.fro 1; have f22 := hk2.fro 2; have f23 := hk2.fro 3; have hk0 : Blk w1 w.heap.size 45 #[.string x0, nv, .bool x2, .int .i64 x3] := Blk.below (last30 w _ _ _) hb1; have e02 := hk0.cell 2; simp at e02; have e03 := hk0.cell 3; simp at e03))
  have hb2 : Below w.heap.size w w1 := (bel3 w _ _ _).trans (hb1.mono (bel3 w _ _ _).size)
  have hle1 : w.heap.size ≤ w.heap.size + 1 := by omega
  have hle2 : w.heap.size ≤ w.heap.size + 1 + 1 := by omega
  refine bodyPost_ret (v := .agg #[.string x0, .slice (some ⟨w.heap.size + 1 + 1 + 1, 0, none⟩) x1.length x1.length, .bool x2, .int .i64 x3]) (results_cell_row rfl _ _ (w.heap.size + 1) 56 #[.string x0, .slice (some ⟨w.heap.size + 1 + 1 + 1, 0, none⟩) x1.length x1.length, .bool x2, .int .i64 x3] (0, 0) _ rfl (((((((hk1.other (show w.heap.size + 1 ≠ w.heap.size + 1 + 1 by omega) 1 _).other (show w.heap.size + 1 ≠ w.heap.size + 1 + 1 by omega) 2 _).other (show w.heap.size + 1 ≠ w.heap.size + 1 + 1 by omega) 3 _).set 0 _).set 1 _).set 2 _).set 3 _) Tryd.underlying56 rfl (by kernel_rfl)) rfl ?_
  refine ⟨⟨_, rfl, ?_⟩, (((((((hb2.setCell hle2 _).setCell hle2 _).setCell hle2 _).setCell hle1 _).setCell hle1 _).setCell hle1 _).setCell hle1 _)⟩
  refine ⟨_, by omega, HN.out.keep ?_⟩
  rw [Below.heap_setCell _ _ _ _ (by show w.heap.size + 1 + 1 + 1 ≠ w.heap.size + 1; omega), Below.heap_setCell _ _ _ _ (by show w.heap.size + 1 + 1 + 1 ≠ w.heap.size + 1; omega), Below.heap_setCell _ _ _ _ (by show w.heap.size + 1 + 1 + 1 ≠ w.heap.size + 1; omega), Below.heap_setCell _ _ _ _ (by show w.heap.size + 1 + 1 + 1 ≠ w.heap.size + 1; omega), Below.heap_setCell _ _ _ _ (by show w.heap.size + 1 + 1 + 1 ≠ w.heap.size + 1 + 1; omega), Below.heap_setCell _ _ _ _ (by show w.heap.size + 1 + 1 + 1 ≠ w.heap.size + 1 + 1; omega), Below.heap_setCell _ _ _ _ (by show w.heap.size + 1 + 1 + 1 ≠ w.heap.size + 1 + 1; omega)]
/-- A row that is laid: the first k are; what they hold lies each in a block between L and U. -/
def StepsC (L U : Nat) (w : World) (cur : Array Value) (l : List Step) (k : Nat) : Prop := ∀ i (h : i < l.length), i < k → cur[i * 4]? = some (.string l[i].name) ∧ cur[i * 4 + 2]? = some (.bool l[i].undo) ∧ cur[i * 4 + 3]? = some (.int .i64 l[i].tries) ∧ ∃ nv g, cur[i * 4 + 1]? = some nv ∧ L < g ∧ g < U ∧ RowTxts w g nv l[i].needs
theorem StepsC.keep {L U U' : Nat} {w w' : World} {cur : Array Value} {l : List Step} {k : Nat} (h : StepsC L U w cur l k) (hU : U ≤ U') (hk : ∀ b, L < b → b < U → w'.heap[b]? = w.heap[b]?) : StepsC L U' w' cur l k := by
  intro i hi hik
  obtain ⟨c0, c2, c3, nv, g, q3, q4, q5, q6⟩ := h i hi hik
  exact ⟨c0, c2, c3, nv, g, q3, q4, by omega, q6.keep (hk g q4 q5)⟩
theorem StepsC.step {L U U' : Nat} {w w' : World} {cur : Array Value} {l : List Step} {k : Nat} (h : StepsC L U w cur l k) (hk : k < l.length) (hc : k * 4 + 3 < cur.size) (nv : Value) (hU : U ≤ U')
    (hkeep : ∀ b, L < b → b < U → w'.heap[b]? = w.heap[b]?) (g : Nat) (hg : L < g) (hgU : g < U') (hn : RowTxts w' g nv l[k].needs) :
    StepsC L U' w' ((((cur.setIfInBounds (k * 4) (.string l[k].name)).setIfInBounds (k * 4 + 1) (nv)).setIfInBounds (k * 4 + 2) (.bool l[k].undo)).setIfInBounds (k * 4 + 3) (.int .i64 l[k].tries)) l (k + 1) := by
  intro i hi hik
  simp only [Array.getElem?_setIfInBounds, Array.size_setIfInBounds]
  by_cases hmk : i = k
  · subst hmk
    refine ⟨?_, ?_, ?_, nv, g, ?_, hg, hgU, hn⟩
    · rw [if_neg (by omega), if_neg (by omega), if_neg (by omega), if_pos rfl, if_pos (by omega)]
    · rw [if_neg (by omega), if_pos rfl, if_pos (by omega)]
    · rw [if_pos rfl, if_pos (by omega)]
    · rw [if_neg (by omega), if_neg (by omega), if_pos rfl, if_pos (by omega)]
  · obtain ⟨c0, c2, c3, nv', g', q3, q4, q5, q6⟩ := h i hi (by omega)
    have h3 : i * 4 + 3 < k * 4 := by omega
    rw [if_neg (by omega), if_neg (by omega), if_neg (by omega), if_neg (by omega), if_neg (by omega), if_neg (by omega), if_neg (by omega), if_neg (by omega), if_neg (by omega), if_neg (by omega), if_neg (by omega), if_neg (by omega), if_neg (by omega), if_neg (by omega), if_neg (by omega), if_neg (by omega)]
    exact ⟨c0, c2, c3, nv', g', q3, q4, by omega, q6.keep (hkeep g' q4 q5)⟩
/-- The row l, laid in the block L of its own, what it holds between L and U. -/
def RowSteps (L U : Nat) (w : World) (v : Value) (l : List Step) : Prop := l.length ≤ maxLen ∧ v = .slice (some ⟨L, 0, none⟩) l.length l.length ∧ ∃ cur, Blk w L 56 cur ∧ cur.size = l.length * 4 ∧ StepsC L U w cur l l.length
theorem RowSteps.keep {L U : Nat} {w w' : World} {v : Value} {l : List Step} (h : RowSteps L U w v l) (hk : ∀ b, L ≤ b → b < U → w'.heap[b]? = w.heap[b]?) (hU : L < U) : RowSteps L U w' v l := by
  obtain ⟨h1, h2, cur, h3, h4, h5⟩ := h
  exact ⟨h1, h2, cur, by unfold Blk at *; rw [hk L (Nat.le_refl _) hU]; exact h3, h4, h5.keep (Nat.le_refl _) (fun b hb hb' => hk b (by omega) hb')⟩
theorem RowSteps.at {L U : Nat} {w : World} {v : Value} {l : List Step} (h : RowSteps L U w v l) (hU : L < U) : StepsAt (fun b => L ≤ b ∧ b < U) w v l := by
  obtain ⟨h1, h2, cur, h3, h4, h5⟩ := h
  refine ⟨h1, _, _, h2, fun _ => ⟨L, 0, rfl, ⟨Nat.le_refl _, hU⟩, fun i hi => ?_⟩⟩
  obtain ⟨c0, c2, c3, nv, g, q3, q4, q5, q6⟩ := h5 i hi hi
  simp only [Nat.zero_add]
  rw [h3.cell, h3.cell, h3.cell, h3.cell]
  exact ⟨c0, c2, c3, nv, q3, q6.at ⟨by omega, q5⟩⟩
set_option maxRecDepth 100000 in
set_option maxHeartbeats 400000 in
theorem toSagaStepS {S : Nat → Prop} {l : List Step} {v : Value} {w : World} (hS : ∀ b, S b → b < w.heap.size) (h : StepsAt S w v l) (hl : l.length ≤ 1048576) (hns : ∀ x ∈ l, x.needs.length ≤ 1048576) :
    Calls Tryd.prog 7 #[v] w fun e w' => (∃ v', e = .returned v' ∧ RowSteps w.heap.size w'.heap.size w' v' l ∧ w.heap.size < w'.heap.size) ∧ Below w.heap.size w w' := by
  obtain ⟨hlm, a, cap, rfl, hc⟩ := h
  have HC : Hid _ := hc
  have HNS : Hid (∀ x ∈ l, x.needs.length ≤ 1048576) := hns
  clear hc hns
  obtain ⟨n, hn⟩ : ∃ n, l.length = n := ⟨_, rfl⟩
  obtain ⟨cur0, hcs, hmk0⟩ := makeN 4 32 56 56 n Tryd.underlying32 (by kernel_rfl) (by omega) (by omega) w
  rw [hn] at hl hlm ⊢
  go_enter Tryd.func7, Tryd.ntmps7
  go_wp2_with fail
  go_loopw [4] (fun i4 wr => ∃ (k : Nat) (cur : Array Value), i4 = .int .i64 (k : Int) ∧ k ≤ n ∧ Blk wr w.heap.size 56 cur ∧ cur.size = n * 4 ∧ StepsC w.heap.size wr.heap.size wr cur l k ∧ Below w.heap.size w wr) (fun i4 _ => n - (intOf i4).toNat)
  case atStart => exact ⟨0, cur0, rfl, by omega, heap_alloc_last w _, hcs, fun i _ h => by omega, (Below.refl _ w).alloc (Nat.le_refl _) _⟩
  case round =>
    obtain ⟨k, cur, rfl, hk, hblk, hsz, hic, hb⟩ := hrel
    have HI : Hid (StepsC w.heap.size wr.heap.size wr cur l k) := hic
    have HB : Hid (Blk wr w.heap.size 56 cur) := hblk
    clear hic hblk
    by_cases hkn : k < n
    · have hkn' : (k : Int) < (n : Int) := by omega
      have hkl : k < l.length := by omega
      obtain ⟨b, off, rfl, hbB, hcell⟩ := HC.out (by omega)
      obtain ⟨c0, c2, c3, nv, t1, t2⟩ := hcell k hkl
      have hbw : b < w.heap.size := hS b hbB
      have d0 := (hb.cell (p := ⟨b, off + k * 4, none⟩) hbw).trans c0
      have d2 := (hb.cell (p := ⟨b, off + k * 4 + 2, none⟩) hbw).trans c2
      have d3 := (hb.cell (p := ⟨b, off + k * 4 + 3, none⟩) hbw).trans c3
      have d1 := (hb.cell (p := ⟨b, off + k * 4 + 1, none⟩) hbw).trans t1
      have z0 : k * 4 < cur.size := by rw [hsz]; omega
      have z1 : k * 4 + 1 < cur.size := by rw [hsz]; omega
      have z2 : k * 4 + 2 < cur.size := by rw [hsz]; omega
      have z3 : k * 4 + 3 < cur.size := by rw [hsz]; omega
      have hst := fun U' w' nv => HI.out.step (U' := U') (w' := w') hkl z3 nv
      have cr := toSagaStep l[k].name l[k].needs l[k].undo l[k].tries nv wr (fun b hbb => Nat.lt_of_lt_of_le (hS b hbb) hb.size) (t2.keep (cells_below hS hb)) (HNS.out _ (List.getElem_mem hkl))
      obtain ⟨x, hxk⟩ : ∃ x, l[k] = x := ⟨_, rfl⟩
      rw [hxk] at d0 d2 d3 hst cr
      clear hxk c0 c2 c3 t1 t2 hcell
      obtain ⟨x0, x1, x2, x3⟩ := x
      dsimp only at d0 d2 d3 d1 hst cr
      have HST : Hid _ := hst
      clear hst
      go_wp2_with (go_at_call 22; go_must (refine cr.mono ?_; rintro e w1 ⟨⟨nv', rfl, g', hg', hn'⟩, hb1⟩; have HN : Hid (RowTxts w1 g' nv' x1) := hn'; obtain rfl := hn'.2.1; clear hn'; have hbk := HB.out.below hb1; have e0 := hbk.cell (k * 4); have e1 := hbk.cell (k * 4 + 1); have e2 := hbk.cell (k * 4 + 2); have e3 := hbk.cell (k * 4 + 3); rw [Array.getElem?_eq_getElem z0] at e0; rw [Array.getElem?_eq_getElem z1] at e1; rw [Array.getElem?_eq_getElem z2] at e2; rw [Array.getElem?_eq_getElem z3] at e3; have f0 := hbk.fro (k * 4); have f1 := hbk.fro (k * 4 + 1); have f2 := hbk.fro (k * 4 + 2); have f3 := hbk.fro (k * 4 + 3)))
      have hglt := HB.out.lt
      have hkp : ∀ b, b ≠ w.heap.size → ∀ v0 v1 v2 v3 : Value, ((((w1.setCell ⟨w.heap.size, k * 4, none⟩ v0).setCell ⟨w.heap.size, k * 4 + 1, none⟩ v1).setCell ⟨w.heap.size, k * 4 + 2, none⟩ v2).setCell ⟨w.heap.size, k * 4 + 3, none⟩ v3).heap[b]? = w1.heap[b]? := fun b hb v0 v1 v2 v3 => by
        rw [Below.heap_setCell _ _ _ _ hb, Below.heap_setCell _ _ _ _ hb, Below.heap_setCell _ _ _ _ hb, Below.heap_setCell _ _ _ _ hb]
      have hgl := HN.out.lt
      refine ⟨⟨k + 1, _, rfl, by omega, ((((hbk.set (k * 4) _).set (k * 4 + 1) _).set (k * 4 + 2) _).set (k * 4 + 3) _), by simp [hsz], ?_, (((((good_below hb hb1).setCell (Nat.le_refl _) _).setCell (Nat.le_refl _) _).setCell (Nat.le_refl _) _).setCell (Nat.le_refl _) _)⟩, by simp [intOf]; omega⟩
      exact HST.out _ _ _ (by simp only [World.size_setCell]; exact hb1.size) (fun b hb3 hb4 => (hkp b (by omega) _ _ _ _).trans (hb1.block b hb4)) g' (by omega) (by simp only [World.size_setCell]; exact hgl) (HN.out.keep (hkp g' (by omega) _ _ _ _))
    · have hkn' : ¬ ((k : Int) < (n : Int)) := by omega
      go_wp2_with fail
      go_ret
      exact ⟨⟨.slice (some ⟨w.heap.size, 0, none⟩) n n, rfl, ⟨by omega, by rw [hn], cur, HB.out, by rw [hsz, hn], by rw [hn]; obtain rfl : k = n := (by omega); exact HI.out⟩, HB.out.lt⟩, hb⟩
/-- A row that is laid: the first k are. -/
def MsgsC (cur : Array Value) (l : List Msg) (k : Nat) : Prop := ∀ i (h : i < l.length), i < k → cur[i * 2]? = some (.string l[i].step) ∧ cur[i * 2 + 1]? = some (.int .i64 l[i].kind)
theorem MsgsC.step {cur : Array Value} {l : List Msg} {k : Nat} (h : MsgsC cur l k) (hk : k < l.length) (hc : k * 2 + 1 < cur.size) :
    MsgsC ((cur.setIfInBounds (k * 2) (.string l[k].step)).setIfInBounds (k * 2 + 1) (.int .i64 l[k].kind)) l (k + 1) := by
  intro i hi hik
  simp only [Array.getElem?_setIfInBounds, Array.size_setIfInBounds]
  by_cases hmk : i = k
  · subst hmk
    refine ⟨?_, ?_⟩
    · rw [if_neg (by omega), if_pos rfl, if_pos (by omega)]
    · rw [if_pos rfl, if_pos (by omega)]
  · have := h i hi (by omega)
    have h3 : i * 2 + 1 < k * 2 := by omega
    rw [if_neg (by omega), if_neg (by omega), if_neg (by omega), if_neg (by omega)]
    exact this
/-- The row l, laid in the block g of its own. -/
def RowMsgs (w : World) (g : Nat) (v : Value) (l : List Msg) : Prop := l.length ≤ maxLen ∧ v = .slice (some ⟨g, 0, none⟩) l.length l.length ∧ ∃ cur, Blk w g 53 cur ∧ cur.size = l.length * 2 ∧ MsgsC cur l l.length
theorem RowMsgs.keep {w w' : World} {g : Nat} {v : Value} {l : List Msg} (h : RowMsgs w g v l) (hk : w'.heap[g]? = w.heap[g]?) : RowMsgs w' g v l := by
  obtain ⟨h1, h2, cur, h3, h4⟩ := h
  exact ⟨h1, h2, cur, by unfold Blk at *; rw [hk]; exact h3, h4⟩
theorem RowMsgs.lt {w : World} {g : Nat} {v : Value} {l : List Msg} (h : RowMsgs w g v l) : g < w.heap.size := by
  obtain ⟨h1, h2, cur, h3, h4⟩ := h
  exact h3.lt
theorem RowMsgs.at {S : Nat → Prop} {w : World} {g : Nat} {v : Value} {l : List Msg} (h : RowMsgs w g v l) (hS : S g) : MsgsAt S w v l := by
  obtain ⟨h1, h2, cur, h3, h4, h5⟩ := h
  refine ⟨h1, _, _, h2, fun _ => ⟨g, 0, rfl, hS, fun i hi => ?_⟩⟩
  simp only [Nat.zero_add]
  rw [h3.cell, h3.cell]
  exact h5 i hi hi
set_option maxRecDepth 100000 in
theorem toSagaMsg (x0 : ByteArray) (x1 : Int) (w : World) :
    Calls Tryd.prog 23 #[.agg #[.string x0, .int .i64 x1]] w fun e w' => e = .returned (.agg #[.string x0, .int .i64 x1]) ∧ Below w.heap.size w w' := by
  go_enter Tryd.func23, Tryd.ntmps23
  go_wp2_with fail
  refine bodyPost_ret (v := .agg #[.string x0, .int .i64 x1]) (results_cell_row rfl _ _ (w.heap.size + 1) 53 #[.string x0, .int .i64 x1] (0, 0) _ rfl (last3 w _ _ _) Tryd.underlying53 rfl (by kernel_rfl)) rfl ?_
  exact ⟨rfl, bel3 w _ _ _⟩
set_option maxRecDepth 100000 in
set_option maxHeartbeats 400000 in
theorem toSagaMsgS {S : Nat → Prop} {l : List Msg} {v : Value} {w : World} (hS : ∀ b, S b → b < w.heap.size) (h : MsgsAt S w v l) (hl : l.length ≤ 1048576) :
    Calls Tryd.prog 8 #[v] w fun e w' => (∃ v', e = .returned v' ∧ RowMsgs w' w.heap.size v' l) ∧ Below w.heap.size w w' := by
  obtain ⟨hlm, a, cap, rfl, hc⟩ := h
  have HC : Hid _ := hc
  clear hc
  obtain ⟨n, hn⟩ : ∃ n, l.length = n := ⟨_, rfl⟩
  obtain ⟨cur0, hcs, hmk0⟩ := makeN 2 34 53 24 n Tryd.underlying34 (by kernel_rfl) (by omega) (by omega) w
  rw [hn] at hl hlm ⊢
  go_enter Tryd.func8, Tryd.ntmps8
  go_wp2_with fail
  go_loopw [4] (fun i4 wr => ∃ (k : Nat) (cur : Array Value), i4 = .int .i64 (k : Int) ∧ k ≤ n ∧ Blk wr w.heap.size 53 cur ∧ cur.size = n * 2 ∧ MsgsC cur l k ∧ Below w.heap.size w wr) (fun i4 _ => n - (intOf i4).toNat)
  case atStart => exact ⟨0, cur0, rfl, by omega, heap_alloc_last w _, hcs, fun i _ h => by omega, (Below.refl _ w).alloc (Nat.le_refl _) _⟩
  case round =>
    obtain ⟨k, cur, rfl, hk, hblk, hsz, hic, hb⟩ := hrel
    have HI : Hid (MsgsC cur l k) := hic
    have HB : Hid (Blk wr w.heap.size 53 cur) := hblk
    clear hic hblk
    by_cases hkn : k < n
    · have hkn' : (k : Int) < (n : Int) := by omega
      have hkl : k < l.length := by omega
      obtain ⟨b, off, rfl, hbB, hcell⟩ := HC.out (by omega)
      obtain ⟨c0, c1⟩ := hcell k hkl
      have hbw : b < w.heap.size := hS b hbB
      have d0 := (hb.cell (p := ⟨b, off + k * 2, none⟩) hbw).trans c0
      have d1 := (hb.cell (p := ⟨b, off + k * 2 + 1, none⟩) hbw).trans c1
      have z0 : k * 2 < cur.size := by rw [hsz]; omega
      have z1 : k * 2 + 1 < cur.size := by rw [hsz]; omega
      have hst := HI.out.step hkl z1
      obtain ⟨x, hxk⟩ : ∃ x, l[k] = x := ⟨_, rfl⟩
      rw [hxk] at d0 d1 hst
      clear hxk c0 c1 hcell
      obtain ⟨x0, x1⟩ := x
      dsimp only at d0 d1 hst
      have HST : Hid _ := hst
      clear hst
      go_wp2_with (go_at_call 23; go_must (refine (toSagaMsg x0 x1 _).mono ?_; rintro e w1 ⟨rfl, hb1⟩; have hbk := HB.out.below hb1; have e0 := hbk.cell (k * 2); have e1 := hbk.cell (k * 2 + 1); rw [Array.getElem?_eq_getElem z0] at e0; rw [Array.getElem?_eq_getElem z1] at e1; have f0 := hbk.fro (k * 2); have f1 := hbk.fro (k * 2 + 1)))
      exact ⟨⟨k + 1, _, rfl, by omega, ((hbk.set (k * 2) _).set (k * 2 + 1) _), by simp [hsz], HST.out, (((good_below hb hb1).setCell (Nat.le_refl _) _).setCell (Nat.le_refl _) _)⟩, by simp [intOf]; omega⟩
    · have hkn' : ¬ ((k : Int) < (n : Int)) := by omega
      go_wp2_with fail
      go_ret
      exact ⟨⟨.slice (some ⟨w.heap.size, 0, none⟩) n n, rfl, by omega, by rw [hn], cur, HB.out, by rw [hsz, hn], by rw [hn]; obtain rfl : k = n := (by omega); exact HI.out⟩, hb⟩
end Go.Proofs.YtbpijollcjdkhaaDoor
