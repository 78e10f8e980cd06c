/-
  Offers and asks are copied. No statement of the seat is proved here.
-/
import Derived.Test.YtkghlnhmmfjclaaGreatDoorG0
namespace Go.Proofs.YtkghlnhmmfjclaaGreatDoor
open Go.ChangeShapes Go.WideShapes Go.ChangeAt Go.RowKit
set_option linter.unusedVariables false
set_option linter.unusedSimpArgs false

theorem last3 (w : World) (o p q : Obj) : (((w.alloc o).alloc p).alloc q).heap[w.heap.size + 1]? = some p := by
  have h1 : ((w.alloc o).alloc p).heap[w.heap.size + 1]? = some p := by
    have := heap_alloc_last (w.alloc o) p
    rwa [World.size_alloc] at this
  have h2 : w.heap.size + 1 < ((w.alloc o).alloc p).heap.size := by simp only [World.size_alloc]; omega
  have := ((Below.refl _ ((w.alloc o).alloc p)).alloc (Nat.le_refl _) q).block (w.heap.size + 1) h2
  rw [this]; exact h1
theorem last3' (w : World) (o p q : Obj) : (((w.alloc o).alloc p).alloc q).heap[w.heap.size + 1 + 1]? = some q := by
  have := heap_alloc_last ((w.alloc o).alloc p) q
  simpa only [World.size_alloc] using this
theorem bel3 (w : World) (o p q : Obj) : Below w.heap.size w (((w.alloc o).alloc p).alloc q) :=
  (((Below.refl _ w).alloc (Nat.le_refl _) _).alloc (by simp only [World.size_alloc]; omega) _).alloc (by simp only [World.size_alloc]; omega) _
theorem makeN (z : Nat) (t e : TypeId) (bytes n : Nat) (ht : Tryz.prog.underlying t = some (.slice e)) (hinfo : ((Tryz.prog.info? e).bind fun i => i.zero.map fun _ => (i.size, i.bytes)) = some (z, bytes)) (hb : bytes * n ≤ 281474976710656) (hn : n ≤ 9223372036854775807) (W : World) :
    ∃ cur : Array Value, cur.size = n * z ∧ (Instr.makeSlice t (.int .i64 (n : Int)) (.int .i64 (n : Int))).run Tryz.prog W = .ok (.slice (some ⟨W.heap.size, 0, none⟩) n n) (W.alloc (.cells cur e)) := by
  cases hi : Tryz.prog.info? e with
  | none => rw [hi] at hinfo; simp at hinfo
  | some i =>
    rw [hi] at hinfo
    simp only [Option.bind_some] at hinfo
    cases hz : i.zero with
    | none => rw [hz] at hinfo; simp at hinfo
    | some zv =>
      rw [hz] at hinfo
      simp only [Option.map_some, Option.some.injEq, Prod.mk.injEq] at hinfo
      obtain ⟨h3, hby⟩ := hinfo
      have hbn : (i.bytes : Int) * (n : Int) ≤ 281474976710656 := by
        rw [hby]
        have h : ((bytes * n : Nat) : Int) ≤ 281474976710656 := by omega
        rwa [Int.natCast_mul] at h
      have hr := run_make (P := Tryz.prog) W t e i zv ht hi hz .i64 .i64 (n : Int) (n : Int) (by omega) (by omega) hbn (by omega)
      simp only [Int.toNat_natCast] at hr
      exact ⟨_, by rw [size_madeCells, h3], hr⟩
/-- A row that is laid: the first k are. -/
def OffsC (cur : Array Value) (l : List Off) (k : Nat) : Prop := ∀ i (h : i < l.length), i < k → cur[i * 3]? = some (.string l[i].right) ∧ cur[i * 3 + 1]? = some (.int .i64 l[i].ver) ∧ cur[i * 3 + 2]? = some (.int .i64 l[i].lim)
theorem OffsC.step {cur : Array Value} {l : List Off} {k : Nat} (h : OffsC cur l k) (hk : k < l.length) (hc : k * 3 + 2 < cur.size) :
    OffsC (((cur.setIfInBounds (k * 3) (.string l[k].right)).setIfInBounds (k * 3 + 1) (.int .i64 l[k].ver)).setIfInBounds (k * 3 + 2) (.int .i64 l[k].lim)) l (k + 1) := by
  intro i hi hik
  simp only [Array.getElem?_setIfInBounds, Array.size_setIfInBounds]
  by_cases hmk : i = k
  · subst hmk
    refine ⟨?_, ?_, ?_⟩
    · rw [if_neg (by omega), if_neg (by omega), if_pos rfl, if_pos (by omega)]
    · rw [if_neg (by omega), if_pos rfl, if_pos (by omega)]
    · rw [if_pos rfl, if_pos (by omega)]
  · have := h i hi (by omega)
    have h3 : i * 3 + 2 < k * 3 := by omega
    rw [if_neg (by omega), if_neg (by omega), if_neg (by omega), if_neg (by omega), if_neg (by omega), if_neg (by omega), if_neg (by omega), if_neg (by omega), if_neg (by omega)]
    exact this
/-- The row l, laid in the block g of its own. -/
def RowOffs (w : World) (g : Nat) (v : Value) (l : List Off) : Prop := l.length ≤ maxLen ∧ v = .slice (some ⟨g, 0, none⟩) l.length l.length ∧ ∃ cur, Blk w g 54 cur ∧ cur.size = l.length * 3 ∧ OffsC cur l l.length
theorem RowOffs.keep {w w' : World} {g : Nat} {v : Value} {l : List Off} (h : RowOffs w g v l) (hk : w'.heap[g]? = w.heap[g]?) : RowOffs w' g v l := by
  obtain ⟨h1, h2, cur, h3, h4⟩ := h
  exact ⟨h1, h2, cur, by unfold Blk at *; rw [hk]; exact h3, h4⟩
theorem RowOffs.lt {w : World} {g : Nat} {v : Value} {l : List Off} (h : RowOffs w g v l) : g < w.heap.size := by
  obtain ⟨h1, h2, cur, h3, h4⟩ := h
  exact h3.lt
theorem RowOffs.at {S : Nat → Prop} {w : World} {g : Nat} {v : Value} {l : List Off} (h : RowOffs w g v l) (hS : S g) : OffsAt S w v l := by
  obtain ⟨h1, h2, cur, h3, h4, h5⟩ := h
  refine ⟨h1, _, _, h2, fun _ => ⟨g, 0, rfl, hS, fun i hi => ?_⟩⟩
  simp only [Nat.zero_add]
  rw [h3.cell, h3.cell, h3.cell]
  exact h5 i hi hi
set_option maxRecDepth 100000 in
theorem toOffer (x0 : ByteArray) (x1 : Int) (x2 : Int) (w : World) :
    Calls Tryz.prog 26 #[.agg #[.string x0, .int .i64 x1, .int .i64 x2]] w fun e w' => e = .returned (.agg #[.string x0, .int .i64 x1, .int .i64 x2]) ∧ Below w.heap.size w w' := by
  go_enter Tryz.func26, Tryz.ntmps26
  go_wp2_with fail
  refine bodyPost_ret (v := .agg #[.string x0, .int .i64 x1, .int .i64 x2]) (results_cell_row rfl _ _ (w.heap.size + 1) 54 #[.string x0, .int .i64 x1, .int .i64 x2] (0, 0) _ rfl (last3 w _ _ _) Tryz.underlying54 rfl (by kernel_rfl)) rfl ?_
  exact ⟨rfl, bel3 w _ _ _⟩
set_option maxRecDepth 100000 in
set_option maxHeartbeats 400000 in
theorem toOfferS {S : Nat → Prop} {l : List Off} {v : Value} {w : World} (hS : ∀ b, S b → b < w.heap.size) (h : OffsAt S w v l) (hl : l.length ≤ 1048576) :
    Calls Tryz.prog 7 #[v] w fun e w' => (∃ v', e = .returned v' ∧ RowOffs w' w.heap.size v' l) ∧ Below w.heap.size w w' := by
  obtain ⟨hlm, a, cap, rfl, hc⟩ := h
  have HC : Hid _ := hc
  clear hc
  obtain ⟨n, hn⟩ : ∃ n, l.length = n := ⟨_, rfl⟩
  obtain ⟨cur0, hcs, hmk0⟩ := makeN 3 30 54 32 n Tryz.underlying30 (by kernel_rfl) (by omega) (by omega) w
  rw [hn] at hl hlm ⊢
  go_enter Tryz.func7, Tryz.ntmps7
  go_wp2_with fail
  go_loopw [4] (fun i4 wr => ∃ (k : Nat) (cur : Array Value), i4 = .int .i64 (k : Int) ∧ k ≤ n ∧ Blk wr w.heap.size 54 cur ∧ cur.size = n * 3 ∧ OffsC cur l k ∧ Below w.heap.size w wr) (fun i4 _ => n - (intOf i4).toNat)
  case atStart => exact ⟨0, cur0, rfl, by omega, heap_alloc_last w _, hcs, fun i _ h => by omega, (Below.refl _ w).alloc (Nat.le_refl _) _⟩
  case round =>
    obtain ⟨k, cur, rfl, hk, hblk, hsz, hic, hb⟩ := hrel
    have HI : Hid (OffsC cur l k) := hic
    have HB : Hid (Blk wr w.heap.size 54 cur) := hblk
    clear hic hblk
    by_cases hkn : k < n
    · have hkn' : (k : Int) < (n : Int) := by omega
      have hkl : k < l.length := by omega
      obtain ⟨b, off, rfl, hbB, hcell⟩ := HC.out (by omega)
      obtain ⟨c0, c1, c2⟩ := hcell k hkl
      have hbw : b < w.heap.size := hS b hbB
      have d0 := (hb.cell (p := ⟨b, off + k * 3, none⟩) hbw).trans c0
      have d1 := (hb.cell (p := ⟨b, off + k * 3 + 1, none⟩) hbw).trans c1
      have d2 := (hb.cell (p := ⟨b, off + k * 3 + 2, none⟩) hbw).trans c2
      have z0 : k * 3 < cur.size := by rw [hsz]; omega
      have z1 : k * 3 + 1 < cur.size := by rw [hsz]; omega
      have z2 : k * 3 + 2 < cur.size := by rw [hsz]; omega
      have hst := HI.out.step hkl z2
      obtain ⟨x, hxk⟩ : ∃ x, l[k] = x := ⟨_, rfl⟩
      rw [hxk] at d0 d1 d2 hst
      clear hxk c0 c1 c2 hcell
      obtain ⟨x0, x1, x2⟩ := x
      dsimp only at d0 d1 d2 hst
      have HST : Hid _ := hst
      clear hst
      go_wp2_with (go_at_call 26; go_must (refine (toOffer x0 x1 x2 _).mono ?_; rintro e w1 ⟨rfl, hb1⟩; have hbk := HB.out.below hb1; have e0 := hbk.cell (k * 3); have e1 := hbk.cell (k * 3 + 1); have e2 := hbk.cell (k * 3 + 2); rw [Array.getElem?_eq_getElem z0] at e0; rw [Array.getElem?_eq_getElem z1] at e1; rw [Array.getElem?_eq_getElem z2] at e2; have f0 := hbk.fro (k * 3); have f1 := hbk.fro (k * 3 + 1); have f2 := hbk.fro (k * 3 + 2)))
      exact ⟨⟨k + 1, _, rfl, by omega, (((hbk.set (k * 3) _).set (k * 3 + 1) _).set (k * 3 + 2) _), by simp [hsz], HST.out, ((((good_below hb hb1).setCell (Nat.le_refl _) _).setCell (Nat.le_refl _) _).setCell (Nat.le_refl _) _)⟩, by simp [intOf]; omega⟩
    · have hkn' : ¬ ((k : Int) < (n : Int)) := by omega
      go_wp2_with fail
      go_ret
      exact ⟨⟨.slice (some ⟨w.heap.size, 0, none⟩) n n, rfl, by omega, by rw [hn], cur, HB.out, by rw [hsz, hn], by rw [hn]; obtain rfl : k = n := (by omega); exact HI.out⟩, hb⟩
/-- A row that is laid: the first k are. -/
def ImpsC (cur : Array Value) (l : List Imp) (k : Nat) : Prop := ∀ i (h : i < l.length), i < k → cur[i * 3]? = some (.string l[i].name) ∧ cur[i * 3 + 1]? = some (.int .i64 l[i].mn) ∧ cur[i * 3 + 2]? = some (.int .i64 l[i].mx)
theorem ImpsC.step {cur : Array Value} {l : List Imp} {k : Nat} (h : ImpsC cur l k) (hk : k < l.length) (hc : k * 3 + 2 < cur.size) :
    ImpsC (((cur.setIfInBounds (k * 3) (.string l[k].name)).setIfInBounds (k * 3 + 1) (.int .i64 l[k].mn)).setIfInBounds (k * 3 + 2) (.int .i64 l[k].mx)) l (k + 1) := by
  intro i hi hik
  simp only [Array.getElem?_setIfInBounds, Array.size_setIfInBounds]
  by_cases hmk : i = k
  · subst hmk
    refine ⟨?_, ?_, ?_⟩
    · rw [if_neg (by omega), if_neg (by omega), if_pos rfl, if_pos (by omega)]
    · rw [if_neg (by omega), if_pos rfl, if_pos (by omega)]
    · rw [if_pos rfl, if_pos (by omega)]
  · have := h i hi (by omega)
    have h3 : i * 3 + 2 < k * 3 := by omega
    rw [if_neg (by omega), if_neg (by omega), if_neg (by omega), if_neg (by omega), if_neg (by omega), if_neg (by omega), if_neg (by omega), if_neg (by omega), if_neg (by omega)]
    exact this
/-- The row l, laid in the block g of its own. -/
def RowImps (w : World) (g : Nat) (v : Value) (l : List Imp) : Prop := l.length ≤ maxLen ∧ v = .slice (some ⟨g, 0, none⟩) l.length l.length ∧ ∃ cur, Blk w g 51 cur ∧ cur.size = l.length * 3 ∧ ImpsC cur l l.length
theorem RowImps.keep {w w' : World} {g : Nat} {v : Value} {l : List Imp} (h : RowImps w g v l) (hk : w'.heap[g]? = w.heap[g]?) : RowImps w' g v l := by
  obtain ⟨h1, h2, cur, h3, h4⟩ := h
  exact ⟨h1, h2, cur, by unfold Blk at *; rw [hk]; exact h3, h4⟩
theorem RowImps.lt {w : World} {g : Nat} {v : Value} {l : List Imp} (h : RowImps w g v l) : g < w.heap.size := by
  obtain ⟨h1, h2, cur, h3, h4⟩ := h
  exact h3.lt
theorem RowImps.at {S : Nat → Prop} {w : World} {g : Nat} {v : Value} {l : List Imp} (h : RowImps w g v l) (hS : S g) : ImpsAt S w v l := by
  obtain ⟨h1, h2, cur, h3, h4, h5⟩ := h
  refine ⟨h1, _, _, h2, fun _ => ⟨g, 0, rfl, hS, fun i hi => ?_⟩⟩
  simp only [Nat.zero_add]
  rw [h3.cell, h3.cell, h3.cell]
  exact h5 i hi hi
set_option maxRecDepth 100000 in
theorem toImport (x0 : ByteArray) (x1 : Int) (x2 : Int) (w : World) :
    Calls Tryz.prog 27 #[.agg #[.string x0, .int .i64 x1, .int .i64 x2]] w fun e w' => e = .returned (.agg #[.string x0, .int .i64 x1, .int .i64 x2]) ∧ Below w.heap.size w w' := by
  go_enter Tryz.func27, Tryz.ntmps27
  go_wp2_with fail
  refine bodyPost_ret (v := .agg #[.string x0, .int .i64 x1, .int .i64 x2]) (results_cell_row rfl _ _ (w.heap.size + 1) 51 #[.string x0, .int .i64 x1, .int .i64 x2] (0, 0) _ rfl (last3 w _ _ _) Tryz.underlying51 rfl (by kernel_rfl)) rfl ?_
  exact ⟨rfl, bel3 w _ _ _⟩
set_option maxRecDepth 100000 in
set_option maxHeartbeats 400000 in
theorem toImportS {S : Nat → Prop} {l : List Imp} {v : Value} {w : World} (hS : ∀ b, S b → b < w.heap.size) (h : ImpsAt S w v l) (hl : l.length ≤ 1048576) :
    Calls Tryz.prog 8 #[v] w fun e w' => (∃ v', e = .returned v' ∧ RowImps w' w.heap.size v' l) ∧ Below w.heap.size w w' := by
  obtain ⟨hlm, a, cap, rfl, hc⟩ := h
  have HC : Hid _ := hc
  clear hc
  obtain ⟨n, hn⟩ : ∃ n, l.length = n := ⟨_, rfl⟩
  obtain ⟨cur0, hcs, hmk0⟩ := makeN 3 32 51 32 n Tryz.underlying32 (by kernel_rfl) (by omega) (by omega) w
  rw [hn] at hl hlm ⊢
  go_enter Tryz.func8, Tryz.ntmps8
  go_wp2_with fail
  go_loopw [4] (fun i4 wr => ∃ (k : Nat) (cur : Array Value), i4 = .int .i64 (k : Int) ∧ k ≤ n ∧ Blk wr w.heap.size 51 cur ∧ cur.size = n * 3 ∧ ImpsC cur l k ∧ Below w.heap.size w wr) (fun i4 _ => n - (intOf i4).toNat)
  case atStart => exact ⟨0, cur0, rfl, by omega, heap_alloc_last w _, hcs, fun i _ h => by omega, (Below.refl _ w).alloc (Nat.le_refl _) _⟩
  case round =>
    obtain ⟨k, cur, rfl, hk, hblk, hsz, hic, hb⟩ := hrel
    have HI : Hid (ImpsC cur l k) := hic
    have HB : Hid (Blk wr w.heap.size 51 cur) := hblk
    clear hic hblk
    by_cases hkn : k < n
    · have hkn' : (k : Int) < (n : Int) := by omega
      have hkl : k < l.length := by omega
      obtain ⟨b, off, rfl, hbB, hcell⟩ := HC.out (by omega)
      obtain ⟨c0, c1, c2⟩ := hcell k hkl
      have hbw : b < w.heap.size := hS b hbB
      have d0 := (hb.cell (p := ⟨b, off + k * 3, none⟩) hbw).trans c0
      have d1 := (hb.cell (p := ⟨b, off + k * 3 + 1, none⟩) hbw).trans c1
      have d2 := (hb.cell (p := ⟨b, off + k * 3 + 2, none⟩) hbw).trans c2
      have z0 : k * 3 < cur.size := by rw [hsz]; omega
      have z1 : k * 3 + 1 < cur.size := by rw [hsz]; omega
      have z2 : k * 3 + 2 < cur.size := by rw [hsz]; omega
      have hst := HI.out.step hkl z2
      obtain ⟨x, hxk⟩ : ∃ x, l[k] = x := ⟨_, rfl⟩
      rw [hxk] at d0 d1 d2 hst
      clear hxk c0 c1 c2 hcell
      obtain ⟨x0, x1, x2⟩ := x
      dsimp only at d0 d1 d2 hst
      have HST : Hid _ := hst
      clear hst
      go_wp2_with (go_at_call 27; go_must (refine (toImport x0 x1 x2 _).mono ?_; rintro e w1 ⟨rfl, hb1⟩; have hbk := HB.out.below hb1; have e0 := hbk.cell (k * 3); have e1 := hbk.cell (k * 3 + 1); have e2 := hbk.cell (k * 3 + 2); rw [Array.getElem?_eq_getElem z0] at e0; rw [Array.getElem?_eq_getElem z1] at e1; rw [Array.getElem?_eq_getElem z2] at e2; have f0 := hbk.fro (k * 3); have f1 := hbk.fro (k * 3 + 1); have f2 := hbk.fro (k * 3 + 2)))
      exact ⟨⟨k + 1, _, rfl, by omega, (((hbk.set (k * 3) _).set (k * 3 + 1) _).set (k * 3 + 2) _), by simp [hsz], HST.out, ((((good_below hb hb1).setCell (Nat.le_refl _) _).setCell (Nat.le_refl _) _).setCell (Nat.le_refl _) _)⟩, by simp [intOf]; omega⟩
    · have hkn' : ¬ ((k : Int) < (n : Int)) := by omega
      go_wp2_with fail
      go_ret
      exact ⟨⟨.slice (some ⟨w.heap.size, 0, none⟩) n n, rfl, by omega, by rw [hn], cur, HB.out, by rw [hsz, hn], by rw [hn]; obtain rfl : k = n := (by omega); exact HI.out⟩, hb⟩
end Go.Proofs.YtkghlnhmmfjclaaGreatDoor
