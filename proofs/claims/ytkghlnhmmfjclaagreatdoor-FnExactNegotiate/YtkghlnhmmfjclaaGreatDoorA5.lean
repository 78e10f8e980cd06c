/-
  Picks and texts sorted; copies of one's own. No statement of the seat is proved here.
-/
import Derived.Test.YtkghlnhmmfjclaaGreatDoorA4
import Derived.Test.YtkghlnhmmfjclaaGreatDoorK0
import Derived.Sort.OwnSorted
import Derived.Lib.RowBridge
import Derived.Laws.AppendOwnNone
import Derived.Deep.RegionHeld3
namespace Go.Proofs.YtkghlnhmmfjclaaGreatDoor
open Go.ChangeShapes Go.WideShapes Go.ChangeAt Go.RowKit
open Go.Sort (grow putRow putCells mapBlock onCells heap_grow_old ahead HoldsK flatK get_flatK size_flatK putRowK PermIn SortedIn SWO)
set_option linter.unusedVariables false

/-- How two texts stand: -1, 0 or 1. -/
def cmpT (x y : ByteArray) : Int := if lessB x y then -1 else if x = y then 0 else 1
set_option maxRecDepth 100000 in
theorem implNaN (x : ByteArray) (w : World) : Calls Tryz.prog 98 #[.string x] w fun e w' => e = .returned (.bool false) ∧ w' = w := by
  go_enter Tryz.func98, Tryz.ntmps98
  go_wp2
  go_ret
  exact ⟨by simp, rfl⟩
set_option maxRecDepth 100000 in
theorem implCmpS (x y : ByteArray) (w : World) : Calls Tryz.prog 75 #[.string x, .string y] w fun e w' => e = .returned (.int .i64 (cmpT x y)) ∧ w' = w := by
  have c1 := fun w => implNaN x w
  have c2 := fun w => implNaN y w
  unfold cmpT lessB
  have hxy : (x = y) = ((x.toList == y.toList) = true) := by rw [beq_bytes]; simp
  obtain ⟨L, hL⟩ : ∃ L, Go.Op.bytesLess x.toList y.toList = L := ⟨_, rfl⟩
  obtain ⟨E, hE⟩ : ∃ E, (x.toList == y.toList) = E := ⟨_, rfl⟩
  simp only [hxy]
  rw [hL, hE]
  cases L <;> cases E <;>
  · go_enter Tryz.func75, Tryz.ntmps75
    go_wp2_with (first
      | (go_at_call 98; go_must (first | (refine (c1 _).mono ?_; rintro e w1 ⟨rfl, rfl⟩) | (refine (c2 _).mono ?_; rintro e w1 ⟨rfl, rfl⟩))))
    go_ret
    exact ⟨rfl, rfl⟩
set_option maxRecDepth 100000 in
set_option maxHeartbeats 1000000 in
theorem implOr (a b : Int) (g : Nat) (w : World) (h0 : w.cell? ⟨g, 0, none⟩ = some (.int .i64 a)) (h1 : w.cell? ⟨g, 1, none⟩ = some (.int .i64 b)) :
    Calls Tryz.prog 74 #[.slice (some ⟨g, 0, none⟩) 2 2] w fun e w' => e = .returned (.int .i64 (if a = 0 then b else a)) ∧ w' = w := by
  by_cases ha : a = 0
  · rw [if_pos ha]
    subst ha
    by_cases hb : b = 0
    · subst hb
      go_enter Tryz.func74, Tryz.ntmps74
      go_wp2
      refine wp_loop_rounds 3 ?_
      rw [rounds_succ]
      go_wp2
      rw [rounds_succ]
      go_wp2
      rw [rounds_succ]
      go_wp2
      go_ret
      exact ⟨rfl, rfl⟩
    · have hb' : (b == 0) = false := by simp [hb]
      go_enter Tryz.func74, Tryz.ntmps74
      go_wp2
      refine wp_loop_rounds 2 ?_
      rw [rounds_succ]
      go_wp2
      rw [rounds_succ]
      go_wp2
      go_ret
      exact ⟨rfl, rfl⟩
  · rw [if_neg ha]
    have ha' : (a == 0) = false := by simp [ha]
    go_enter Tryz.func74, Tryz.ntmps74
    go_wp2
    refine wp_loop_rounds 1 ?_
    rw [rounds_succ]
    go_wp2
    go_ret
    exact ⟨rfl, rfl⟩
set_option maxRecDepth 100000 in
theorem implPkName (nm : ByteArray) (ve : Int) (w : World) : Calls Tryz.prog 49 #[.agg #[.string nm, .int .i64 ve]] w fun e w' => e = .returned (.string nm) ∧ w' = w.alloc (.cells #[.string nm, .int .i64 ve] 56) := by
  go_enter Tryz.func49, Tryz.ntmps49
  go_wp2_with fail
  go_ret
  exact ⟨rfl, rfl⟩
set_option maxRecDepth 100000 in
theorem implPkVer (nm : ByteArray) (ve : Int) (w : World) : Calls Tryz.prog 50 #[.agg #[.string nm, .int .i64 ve]] w fun e w' => e = .returned (.int .i64 ve) ∧ w' = w.alloc (.cells #[.string nm, .int .i64 ve] 56) := by
  go_enter Tryz.func50, Tryz.ntmps50
  go_wp2_with fail
  go_ret
  exact ⟨rfl, rfl⟩
theorem two_new (w : World) (a b : Int) (g : Nat) (hg : g = w.heap.size) : (w.alloc (.cells #[.int .i64 a, .int .i64 b] 3)).drew.cell? ⟨g, 0, none⟩ = some (.int .i64 a) ∧ (w.alloc (.cells #[.int .i64 a, .int .i64 b] 3)).drew.cell? ⟨g, 1, none⟩ = some (.int .i64 b) := by
  subst hg
  have h : Blk (w.alloc (.cells #[.int .i64 a, .int .i64 b] 3)) w.heap.size 3 #[.int .i64 a, .int .i64 b] := heap_alloc_last w _
  exact ⟨h.cell 0, h.cell 1⟩
/-- By name, then by version. -/
def cmpP (x y : Pk) : Int := if cmpT x.name y.name = 0 then Lib.compareInt x.ver y.ver else cmpT x.name y.name

set_option maxRecDepth 100000 in
set_option maxHeartbeats 4000000 in
theorem implCmpP (x y : Pk) (g1 g2 : Nat) (W : World) (h1 : W.cell? ⟨g1, 0, none⟩ = some (.func (.func 49) #[] #[])) (h2 : W.cell? ⟨g2, 0, none⟩ = some (.func (.func 50) #[] #[])) :
    Calls Tryz.prog 73 #[.agg #[.string x.name, .int .i64 x.ver], .agg #[.string y.name, .int .i64 y.ver], .pointer (some ⟨g1, 0, none⟩), .pointer (some ⟨g2, 0, none⟩)] W fun e w' => e = .returned (.int .i64 (cmpP x y)) ∧ Grew W w' := by
  obtain ⟨xn, xv⟩ := x
  obtain ⟨yn, yv⟩ := y
  dsimp only
  unfold cmpP
  dsimp only
  obtain ⟨A, hA⟩ : ∃ A, cmpT xn yn = A := ⟨_, rfl⟩
  obtain ⟨Bv, hB⟩ : ∃ B, Lib.compareInt xv yv = B := ⟨_, rfl⟩
  have c77 := fun w => implCmpS xn yn w
  have c78 := fun w => Tryz.cmp_Compare_int xv yv w
  rw [hA] at c77 ⊢
  rw [hB] at c78 ⊢
  clear hA hB
  have c76 := fun g w h0 h1 => implOr A Bv g w h0 h1
  obtain ⟨R, hR⟩ : ∃ R, (if A = 0 then Bv else A) = R := ⟨_, rfl⟩
  rw [hR] at c76 ⊢
  clear hR
  have l1 : g1 < W.heap.size := cell_lt' h1
  have l2 : g2 < W.heap.size := cell_lt' h2
  have hbA : Below W.heap.size W ((W.alloc (.cells #[.string xn, .int .i64 xv] 56)).alloc (.cells #[.string yn, .int .i64 yv] 56)) := ((Below.refl _ W).alloc (Nat.le_refl _) _).alloc (by simp) _
  have b1 : Blk ((W.alloc (.cells #[.string xn, .int .i64 xv] 56)).alloc (.cells #[.string yn, .int .i64 yv] 56)) W.heap.size 56 #[.string xn, .int .i64 xv] := Blk.below (show Blk (W.alloc (.cells #[.string xn, .int .i64 xv] 56)) W.heap.size 56 #[.string xn, .int .i64 xv] from heap_alloc_last W _) ((Below.refl _ _).alloc (Nat.le_refl _) _)
  have b2 : Blk ((W.alloc (.cells #[.string xn, .int .i64 xv] 56)).alloc (.cells #[.string yn, .int .i64 yv] 56)) (W.heap.size + 1) 56 #[.string yn, .int .i64 yv] := by
    have := heap_alloc_last (W.alloc (.cells #[.string xn, .int .i64 xv] 56)) (.cells #[.string yn, .int .i64 yv] 56)
    rwa [World.size_alloc] at this
  have kp : ∀ w', Grew ((W.alloc (.cells #[.string xn, .int .i64 xv] 56)).alloc (.cells #[.string yn, .int .i64 yv] 56)) w' → w'.cell? ⟨g1, 0, none⟩ = some (.func (.func 49) #[] #[]) ∧ w'.cell? ⟨g2, 0, none⟩ = some (.func (.func 50) #[] #[]) ∧ w'.cell? ⟨W.heap.size, 0, none⟩ = some (.string xn) ∧ w'.cell? ⟨W.heap.size, 1, none⟩ = some (.int .i64 xv) ∧ w'.cell? ⟨W.heap.size + 1, 0, none⟩ = some (.string yn) ∧ w'.cell? ⟨W.heap.size + 1, 1, none⟩ = some (.int .i64 yv) := fun w' hg => by
    have hB := hg.below
    have hC := good_below hbA hB
    have d1 := b1.below hB
    have d2 := b2.below hB
    have e0 := d1.cell 0
    have e1 := d1.cell 1
    have f0 := d2.cell 0
    have f1 := d2.cell 1
    simp at e0 e1 f0 f1
    exact ⟨(hC.cell (p := ⟨g1, 0, none⟩) l1).trans h1, (hC.cell (p := ⟨g2, 0, none⟩) l2).trans h2, e0, e1, f0, f1⟩
  have KP : Hid _ := kp
  have HG0 : Grew W ((W.alloc (.cells #[.string xn, .int .i64 xv] 56)).alloc (.cells #[.string yn, .int .i64 yv] 56)) := ((Grew.refl W).alloc _).alloc _
  clear kp b1 b2 hbA
  go_enter Tryz.func73, Tryz.ntmps73
  go_wp2_with fail
  go_region_held3 (fun w' => w'.cell? ⟨g1, 0, none⟩ = some (.func (.func 49) #[] #[]) ∧ w'.cell? ⟨g2, 0, none⟩ = some (.func (.func 50) #[] #[]) ∧ w'.cell? ⟨W.heap.size, 0, none⟩ = some (.string xn) ∧ w'.cell? ⟨W.heap.size, 1, none⟩ = some (.int .i64 xv) ∧ w'.cell? ⟨W.heap.size + 1, 0, none⟩ = some (.string yn) ∧ w'.cell? ⟨W.heap.size + 1, 1, none⟩ = some (.int .i64 yv)) (first | (refine KP.out _ ?_; repeat (first | exact Grew.refl _ | apply Grew.alloc | apply Grew.drew))) (first
    | (go_at_call 49; refine (implPkName _ _ _).mono ?_; rintro e w' ⟨rfl, rfl⟩)
    | (go_at_call 50; refine (implPkVer _ _ _).mono ?_; rintro e w' ⟨rfl, rfl⟩)
    | (go_at_call 75; refine (c77 _).mono ?_; rintro e w' ⟨rfl, rfl⟩)
    | (go_at_call 76; refine (c78 _).mono ?_; rintro e w' ⟨rfl, rfl⟩)
    | (go_at_call 74; refine (c76 _ _ (two_new _ A Bv _ (by simp)).1 (two_new _ A Bv _ (by simp)).2).mono ?_; rintro e w' ⟨rfl, rfl⟩))
  all_goals go_wp2_with fail
  all_goals go_ret
  all_goals refine ⟨rfl, HG0.trans ?_⟩
  all_goals repeat (first | exact Grew.refl _ | apply Grew.alloc | apply Grew.drew)
theorem ltP (x y : Pk) : ltOf cmpP x y = pkLess x y := by
  unfold ltOf cmpP pkLess cmpT Lib.compareInt
  by_cases hn : x.name = y.name
  · rw [hn, lessB_irrefl]
    simp only [Bool.false_eq_true, if_false, if_true, decide_true, Bool.true_and, Bool.false_or]
    by_cases h1 : x.ver < y.ver
    · simp [h1]
    · by_cases h2 : y.ver < x.ver <;> simp [h1, h2]
  · cases hl : lessB x.name y.name <;> simp [hn]
theorem swoP : SWO (ltOf cmpP) where
  irrefl x := by rw [ltP]; exact pkLess_irrefl x
  trans x y z h1 h2 := by rw [ltP] at *; exact pkLess_trans h1 h2
  ntrans x y z h1 h2 := by
    rw [ltP] at *
    cases h : pkLess x z
    · rfl
    · by_cases e : x = y
      · subst e; rw [h] at h2; cases h2
      · rcases pkLess_total e with q | q
        · rw [q] at h1; cases h1
        · rw [pkLess_trans q h] at h2; cases h2
instance : Inhabited Pk := ⟨⟨⟨#[]⟩, 0⟩⟩
/-- What a sort leaves: the same picks, in their order. -/
structure Sorted (l l' : List Pk) : Prop where
  perm : l'.Perm l
  rises : l'.Pairwise fun x y => pkLess y x = false
def cmpFn (g1 g2 : Nat) : Value := .func (.func 73) #[] #[.pointer (some ⟨g1, 0, none⟩), .pointer (some ⟨g2, 0, none⟩)]
/-- The two questions lie in blocks of their own. -/
def Asks (w : World) (g1 g2 : Nat) : Prop := w.cell? ⟨g1, 0, none⟩ = some (.func (.func 49) #[] #[]) ∧ w.cell? ⟨g2, 0, none⟩ = some (.func (.func 50) #[] #[])
theorem Asks.below {w w' : World} {g1 g2 : Nat} (h : Asks w g1 g2) (hb : Below w.heap.size w w') : Asks w' g1 g2 :=
  ⟨(hb.cell (p := ⟨g1, 0, none⟩) (cell_lt' h.1)).trans h.1, (hb.cell (p := ⟨g2, 0, none⟩) (cell_lt' h.2)).trans h.2⟩

theorem implSortP {B : Nat} {w : World} {v : Value} {l : List Pk} (h : OwnPks B w v l) (hl : l.length ≤ 1000000) {g1 g2 : Nat} (ha : Asks w g1 g2) :
    Calls Tryz.prog 62 #[v, cmpFn g1 g2] w fun e w' => e = .returned (.tuple #[]) ∧ ∃ l', Sorted l l' ∧ OwnPks B w' v l' ∧ w.grownBy w' v.ownBlock := by
  by_cases h0 : l = []
  · subst h0
    obtain ⟨a, cap, rfl, _⟩ := h.value
    refine (AnyF.slices_SortFunc_none { Tryz.sortPk with } a cap (cmpFn g1 g2) w).mono ?_
    rintro e w' ⟨rfl, rfl⟩
    exact ⟨rfl, [], ⟨List.Perm.refl _, List.Pairwise.nil⟩, h, grown_refl _ _⟩
  · have hpos : 0 < l.length := by
      cases l with
      | nil => exact absurd rfl h0
      | cons a r => simp
    obtain ⟨av, cv, hvv, _, hcv⟩ := h.value
    rcases h.2 with ⟨_, hz⟩ | ⟨g, cap, cur, rfl, hB, hg, hn1, hn2, hn3, hn4⟩
    · omega
    obtain ⟨g', hg', _, _, hcell⟩ := hcv hpos
    simp only [Value.slice.injEq] at hvv
    obtain ⟨rfl, _, _⟩ := hvv
    simp only [Option.some.injEq, Addr.mk.injEq, and_true] at hg'
    subst hg'
    have c0 := (hcell 0 hpos).1
    have n1 : g1 ≠ g := fun e => by
      subst e
      have := ha.1
      simp only [Nat.zero_mul] at c0
      rw [c0] at this
      cases this
    have n2 : g2 ≠ g := fun e => by
      subst e
      have := ha.2
      simp only [Nat.zero_mul] at c0
      rw [c0] at this
      cases this
    have hk : ∀ x : Pk, (PksCells x).length = 2 := fun _ => rfl
    have hH : HoldsK PksCells 2 w g 0 l.toArray := holdsK_of_block hk (by omega) hg hn4
    have eg : ∀ args w, (callFunc 73 args).run Tryz.prog w = .ok (.enter 73 args) w := enters_of Tryz.func73 (by kernel_rfl) rfl
    have hcmp : CmpLays Tryz.prog 73 #[.pointer (some ⟨g1, 0, none⟩), .pointer (some ⟨g2, 0, none⟩)] PksCells 2 cmpP g 0 l.toArray.size w := by
      intro m os dk _ x y
      have hgr : w.grownBy (sortWorldK PksCells 2 w g 0 m dk os) (some g) := grownBy_sortedK dk
      exact implCmpP x y g1 g2 _ (hgr.cell ha.1 (by simp [n1])) (hgr.cell ha.2 (by simp [n2]))
    have hcon := AnyQ.slices_SortFunc Tryz.sortPk 2 Tryz.isAgg56 Tryz.sizeOf56 PksCells hk (fun x v hv => by simp [PksCells] at hv; rcases hv with rfl | rfl <;> rfl) cmpP swoP 73 #[.pointer (some ⟨g1, 0, none⟩), .pointer (some ⟨g2, 0, none⟩)] g 0 cap l.toArray w eg hcmp hH (Array.getElem?_eq_some_iff.1 hg).1 (by simp; omega)
    refine Calls.mono hcon ?_
    rintro e w' ⟨rfl, d', n, os, hp, hs, rfl⟩
    have hsize : d'.toList.length = l.length := by rw [Array.length_toList, hp.1]; simp
    refine ⟨rfl, d'.toList, ⟨perm_of hp, (sorted_of hp hs).imp (fun {a b} hab => by rw [ltP] at hab; exact hab)⟩, ?_, grownBy_sortedK d'⟩
    have := ownsRow_sortedK (n := n) (os := os) hk (by omega) hsize hB hg hn1 hn2 hn3
    unfold OwnPks
    rw [hsize]
    exact this
set_option maxRecDepth 100000 in
theorem implByTwoP (w : World) : Calls Tryz.prog 63 #[.func (.func 49) #[] #[], .func (.func 50) #[] #[]] w fun e w' => (∃ g1 g2, e = .returned (cmpFn g1 g2) ∧ Asks w' g1 g2 ∧ w.heap.size ≤ g1 ∧ w.heap.size ≤ g2) ∧ Below w.heap.size w w' := by
  have hmf : ∀ (fn : Fn) (first cap : Array Value) (w : World), (Instr.makeFunc fn first cap).run Tryz.prog w = .ok (.func fn first cap) w := fun _ _ _ _ => rfl
  go_enter Tryz.func63, Tryz.ntmps63
  go_wp2_with fail
  go_ret
  have b1 : Blk ((w.alloc (.cells #[.func (.func 49) #[] #[]] 76)).alloc (.cells #[.func (.func 50) #[] #[]] 78)) w.heap.size 76 #[.func (.func 49) #[] #[]] := Blk.below (show Blk (w.alloc (.cells #[.func (.func 49) #[] #[]] 76)) w.heap.size 76 #[.func (.func 49) #[] #[]] from heap_alloc_last w _) ((Below.refl _ _).alloc (Nat.le_refl _) _)
  have b2 : Blk ((w.alloc (.cells #[.func (.func 49) #[] #[]] 76)).alloc (.cells #[.func (.func 50) #[] #[]] 78)) (w.heap.size + 1) 78 #[.func (.func 50) #[] #[]] := by
    have := heap_alloc_last (w.alloc (.cells #[.func (.func 49) #[] #[]] 76)) (.cells #[.func (.func 50) #[] #[]] 78)
    rwa [World.size_alloc] at this
  refine ⟨⟨w.heap.size, w.heap.size + 1, rfl, ⟨b1.cell 0, b2.cell 0⟩, by omega, by omega⟩, ((Below.refl _ w).alloc (Nat.le_refl _) _).alloc (by simp) _⟩
set_option maxRecDepth 100000 in
set_option maxHeartbeats 1000000 in
theorem implSortTwoP {B : Nat} {w : World} {v : Value} {l : List Pk} (h : OwnPks B w v l) (hBw : B ≤ w.heap.size) (hl : l.length ≤ 1000000) :
    Calls Tryz.prog 48 #[v, .func (.func 49) #[] #[], .func (.func 50) #[] #[]] w fun e w' => e = .returned (.tuple #[]) ∧ (∃ l', Sorted l l' ∧ OwnPks B w' v l') ∧ (∃ w1, Below w.heap.size w w1 ∧ w1.grownBy w' v.ownBlock) ∧ Below B w w' := by
  obtain ⟨a, cap, hv, _⟩ := h.value
  have HO : Hid (OwnPks B w v l) := h
  subst hv
  clear h
  go_enter Tryz.func48, Tryz.ntmps48
  go_wp2_with (first
    | (go_at_call 63; go_must (refine (implByTwoP _).mono ?_; rintro e w1 ⟨⟨g1, g2, rfl, has, hg1, hg2⟩, hb1⟩; have cs := implSortP (OwnPks.below HO.out hb1) hl has; unfold cmpFn at *))
    | (go_at_call 62; go_must (refine cs.mono ?_; rintro e w2 ⟨rfl, l2, hso, hop, hgr⟩)))
  go_end0
  exact ⟨rfl, ⟨l2, hso, hop⟩, ⟨w1, hb1, hgr⟩, (hb1.mono hBw).grown hgr (Nat.le_trans hBw hb1.size) (OwnPks.block HO.out)⟩
theorem enc_data (s : ByteArray) : encStr s.data.toList = .string s := by cases s; simp [encStr]
theorem map_enc (l : List ByteArray) : (l.map (fun s => s.data.toList)).map encStr = l.map Value.string := by
  rw [List.map_map]
  exact List.map_congr_left (fun s _ => enc_data s)
def unEnc (z : List UInt8) : ByteArray := ⟨z.toArray⟩
theorem enc_un (z : List UInt8) : encStr z = .string (unEnc z) := rfl
theorem un_map (l : List ByteArray) : (l.map (fun s => s.data.toList)).map unEnc = l := by
  rw [List.map_map]
  refine (List.map_congr_left (fun s _ => ?_)).trans (List.map_id l)
  cases s; simp [unEnc]
theorem enc_map (ts : List (List UInt8)) : (ts.map unEnc).map Value.string = ts.map encStr := by
  rw [List.map_map]; rfl
theorem less_un (x y : List UInt8) : lessB (unEnc x) (unEnc y) = decide (x < y) := by
  rw [lessB_eq]; exact decide_eq_decide.2 (by simp [unEnc])
/-- What slices.Sort leaves of texts: the same texts, in their order. -/
structure SortedS (l l' : List ByteArray) : Prop where
  perm : l'.Perm l
  rises : l'.Pairwise fun x y => lessB y x = false
theorem implSortS {B : Nat} {w : World} {v : Value} {l : List ByteArray} (h : OwnS B w v l) (hl : l.length ≤ 1000000) :
    Calls Tryz.prog 51 #[v] w fun e w' => e = .returned (.tuple #[]) ∧ ∃ l', SortedS l l' ∧ OwnS B w' v l' ∧ w.grownBy w' v.ownBlock := by
  by_cases h0 : l = []
  · subst h0
    obtain ⟨a, cap, rfl, _⟩ := h.value
    refine (Tryz.slices_Sort_string_none a cap w).mono ?_
    rintro e w' ⟨rfl, rfl⟩
    exact ⟨rfl, [], ⟨List.Perm.refl _, List.Pairwise.nil⟩, h, grown_refl _ _⟩
  · rcases h.2 with ⟨_, hz⟩ | ⟨g, cap, cur, rfl, hB, hg, hn1, hn2, hn3, hn4⟩
    · exact absurd (List.length_eq_zero_iff.1 hz) h0
    have hgw := (Array.getElem?_eq_some_iff.1 hg).1
    have ht : cur.toList.take (l.map (fun s => s.data.toList)).length = (l.map (fun s => s.data.toList)).map encStr := by
      rw [map_enc, List.length_map]; simpa using hn4
    have c := Tryz.slices_Sort_string g 0 cap (l.map (fun s => s.data.toList)) w (holds_of_block hg ht) hgw (by simp; omega)
    rw [List.length_map] at c
    refine c.mono ?_
    rintro e w' ⟨rfl, n, os, rfl⟩
    obtain ⟨ts, hts⟩ : ∃ ts, ((l.map (fun s => s.data.toList)).mergeSort fun x y => decide (x ≤ y)) = ts := ⟨_, rfl⟩
    have hp : ts.Perm (l.map (fun s => s.data.toList)) := hts ▸ List.mergeSort_perm _ _
    have hr : ts.Pairwise (fun x y => decide (x ≤ y) = true) := by
      rw [← hts]
      refine List.pairwise_mergeSort (fun a b c h1 h2 => ?_) (fun a b => ?_) _
      · rw [decide_eq_true_eq] at *; exact List.le_trans h1 h2
      · simp only [Bool.or_eq_true, decide_eq_true_eq]; exact List.le_total a b
    rw [hts]
    have hlen : (ts.map unEnc).length = l.length := by rw [List.length_map, hp.length_eq, List.length_map]
    refine ⟨rfl, ts.map unEnc, ⟨?_, ?_⟩, ?_, grownBy_sorted _⟩
    · have := hp.map unEnc
      rwa [un_map] at this
    · rw [List.pairwise_map]
      refine hr.imp (fun {a b} hab => ?_)
      rw [decide_eq_true_eq] at hab
      rw [less_un, decide_eq_false_iff_not]
      exact List.not_lt.2 hab
    · unfold OwnS
      rw [hlen, enc_map]
      have := ownsRow_sorted (n := n) (os := os) (ss := l.map (fun s => s.data.toList)) (ts := ts) hp.length_eq hB hg (by simpa using hn1) hn2 hn3
      rwa [List.length_map] at this

set_option maxRecDepth 100000 in
theorem implCloneT (s : ByteArray) (hz : s.size ≤ 1048576) (w : World) : Calls Tryz.prog 52 #[.string s] w fun e w' => e = .returned (.string s) ∧ Below w.heap.size w w' := by
  have c := Tryz.stringslite_Clone s w (by omega)
  go_enter Tryz.func52, Tryz.ntmps52
  go_wp2_with (go_at_call 66; go_must (refine c.mono ?_; rintro e w1 ⟨rfl, hb1⟩))
  go_ret
  exact ⟨rfl, hb1⟩
set_option maxRecDepth 100000 in
set_option maxHeartbeats 1000000 in
theorem implOwnTexts {B : Nat} {w : World} {v : Value} {ss : List ByteArray} (h : OwnS B w v ss) (hl : ss.length ≤ 100000) (hsz : ∀ s ∈ ss, s.size ≤ 1048576) :
    Calls Tryz.prog 33 #[v] w fun e w' => (∃ p, e = .returned p ∧ OwnS w.heap.size w' p ss) ∧ Below w.heap.size w w' := by
  obtain ⟨a, cap, rfl, hc⟩ := h.value
  have HC : Hid _ := hc
  have HZ : Hid _ := hsz
  clear h hc hsz
  have hl' : (ss.length : Int) ≤ 100000 := by omega
  go_enter Tryz.func33, Tryz.ntmps33
  go_wp2_with fail
  go_loopw [3, 8] (fun i3 i8 wr => ∃ (k : Nat), i8 = .int .i64 (k : Int) ∧ k ≤ ss.length ∧ OwnS w.heap.size wr i3 (ss.take k) ∧ Below w.heap.size w wr) (fun _ i8 _ => ss.length - (intOf i8).toNat)
  case atStart => exact ⟨0, rfl, by omega, ⟨rfl, .inl ⟨rfl, rfl⟩⟩, Below.refl _ _⟩
  case round =>
    obtain ⟨k, rfl, hk, hown, hb⟩ := hrel
    have HOW : Hid (OwnS w.heap.size wr u3 (ss.take k)) := hown
    clear hown
    by_cases hkn : k < ss.length
    · have hkn' : (k : Int) < (ss.length : Int) := by omega
      obtain ⟨g, rfl, hcell⟩ := HC.out (by omega)
      have x1 := hcell k hkn
      have d1 := (hb.cell (p := ⟨g, k, none⟩) (cell_lt' x1)).trans x1
      have hz := HZ.out ss[k] (List.getElem_mem hkn)
      have htk : ss.take (k + 1) = ss.take k ++ [ss[k]] := List.take_succ_eq_append_getElem hkn
      obtain ⟨s, hs⟩ : ∃ s, ss[k] = s := ⟨_, rfl⟩
      rw [hs] at d1 hz htk
      have HTK : Hid _ := htk
      clear hs htk hcell x1
      have cc := implCloneT s hz wr
      obtain ⟨ti, hti, ht0, ht1, ht2⟩ := info9
      go_wp2_with (first
        | (go_at_call 52; go_must (refine cc.mono ?_; rintro e w1 ⟨rfl, hb1⟩))
        | (at_builtin; go_must (refine wpList_appendS rfl (.tmp 12) (.tmp 15) 27 rfl Tryz.underlying27 ti hti ht0 ht1 ht2 w.heap.size u3 (ss.take k) rfl ((OwnS.below HOW.out hb1).below ((Below.refl _ w1).alloc (Nat.le_refl _) _)) ⟨w1.heap.size, 0, none⟩ 1 s rfl (new_cell w1 s) (by simp; omega) (by have := hb.size; have := hb1.size; simp only [World.size_alloc]; omega) ?_; intro v4 w4 hown4 hB4 hgr4)))
      have hb2 := good_below hb hb1
      refine ⟨⟨k + 1, rfl, by omega, ?_, (hb2.alloc hb2.size _).trans hB4⟩, by simp [intOf]; omega⟩
      rw [HTK.out]; exact hown4
    · obtain rfl : k = ss.length := by omega
      have hkn' : ¬ ((ss.length : Int) < (ss.length : Int)) := by omega
      have ho := HOW.out
      rw [List.take_length] at ho
      have HO2 : Hid (OwnS w.heap.size wr u3 ss) := ho
      clear ho
      go_wp2_with fail
      go_ret
      exact ⟨⟨_, rfl, HO2.out⟩, hb⟩
set_option maxRecDepth 100000 in
set_option maxHeartbeats 4000000 in
theorem implOwnPicks {B : Nat} {w : World} {v : Value} {l : List Pk} (h : OwnPks B w v l) (hl : l.length ≤ 100000) (hsz : ∀ p ∈ l, p.name.size ≤ 1048576) :
    Calls Tryz.prog 32 #[v] w fun e w' => (∃ p, e = .returned p ∧ OwnPks w.heap.size w' p l) ∧ Below w.heap.size w w' := by
  obtain ⟨a, cap, rfl, _, hc⟩ := h.value
  have HC : Hid _ := hc
  have HZ : Hid _ := hsz
  clear h hc hsz
  have hl' : (l.length : Int) ≤ 100000 := by omega
  go_enter Tryz.func32, Tryz.ntmps32
  go_wp2_with fail
  go_loopw [3, 8] (fun i3 i8 wr => ∃ (k : Nat), i8 = .int .i64 (k : Int) ∧ k ≤ l.length ∧ OwnPks w.heap.size wr i3 (l.take k) ∧ Below w.heap.size w wr) (fun _ i8 _ => l.length - (intOf i8).toNat)
  case atStart => exact ⟨0, rfl, by omega, OwnPks.nil _ _, Below.refl _ _⟩
  case round =>
    obtain ⟨k, rfl, hk, hown, hb⟩ := hrel
    have HOW : Hid (OwnPks w.heap.size wr u3 (l.take k)) := hown
    clear hown
    by_cases hkn : k < l.length
    · have hkn' : (k : Int) < (l.length : Int) := by omega
      obtain ⟨g, rfl, _, _, hcell⟩ := HC.out (by omega)
      obtain ⟨x1, x2⟩ := hcell k hkn
      have d1 := (hb.cell (p := ⟨g, k * 2, none⟩) (cell_lt' x1)).trans x1
      have d2 := (hb.cell (p := ⟨g, k * 2 + 1, none⟩) (cell_lt' x1)).trans x2
      have hz := HZ.out l[k] (List.getElem_mem hkn)
      have htk : l.take (k + 1) = l.take k ++ [l[k]] := List.take_succ_eq_append_getElem hkn
      obtain ⟨x, hx⟩ : ∃ x, l[k] = x := ⟨_, rfl⟩
      rw [hx] at d1 d2 hz htk
      have HTK : Hid _ := htk
      clear hx htk hcell x1 x2
      obtain ⟨xn, xv⟩ := x
      dsimp only at d1 d2 hz
      have bA : Below wr.heap.size wr (wr.alloc (.cells #[.string xn, .int .i64 xv] 56)) := (Below.refl _ wr).alloc (Nat.le_refl _) _
      have cc := implCloneT xn hz (wr.alloc (.cells #[.string xn, .int .i64 xv] 56)).drew
      have kp : ∀ w', Below (wr.alloc (.cells #[.string xn, .int .i64 xv] 56)).heap.size (wr.alloc (.cells #[.string xn, .int .i64 xv] 56)).drew w' → w'.cell? ⟨wr.heap.size, 0, none⟩ = some (.string xn) ∧ w'.cell? ⟨wr.heap.size, 1, none⟩ = some (.int .i64 xv) := fun w' hB => by
        have b1 : Blk (wr.alloc (.cells #[.string xn, .int .i64 xv] 56)).drew wr.heap.size 56 #[.string xn, .int .i64 xv] := heap_alloc_last wr _
        exact ⟨(b1.below hB).cell 0, (b1.below hB).cell 1⟩
      have KP : Hid _ := kp
      clear kp
      have hne : some wr.heap.size ≠ u3.ownBlock := fun e => Nat.lt_irrefl _ ((World.ownsRow.lt HOW.out _ e.symm).2)
      go_upto_region 5 with fail
      go_region_held3 (fun w' => w'.cell? ⟨wr.heap.size, 0, none⟩ = some (.string xn) ∧ w'.cell? ⟨wr.heap.size, 1, none⟩ = some (.int .i64 xv)) (first | go_keep | exact KP.out _ hb1 | exact KP.out _ (hb1.alloc hb1.size _) | exact ⟨hgr4.cell kq.1 hne, hgr4.cell kq.2 hne⟩) (first
        | (go_at_call 52; refine cc.mono ?_; rintro e w1 ⟨rfl, hb1⟩; have hs1 : wr.heap.size + 1 ≤ w1.heap.size := (World.size_alloc wr (.cells #[.string xn, .int .i64 xv] 56)) ▸ hb1.size; have kq := KP.out _ (hb1.alloc hb1.size (.cells #[.string xn, .int .i64 xv] 56)))
        | (refine step_appendPks rfl (.tmp 12) (.tmp 19) rfl w.heap.size u3 (l.take k) (by simp [Act.eval]) ((OwnPks.below HOW.out (bA.trans ((Below.refl _ _).drew.trans (hb1.mono bA.size)))).below ((Below.refl _ w1).alloc (Nat.le_refl _) _)) (.slice (some ⟨w1.heap.size, 0, none⟩) 1 1) [⟨xn, xv⟩] (by simp [Act.eval]) (PksAt.new w1 xn xv) (by simp; omega) (by have := hb.size; simp only [World.size_alloc]; omega) ?_; intro va vn vc w4 hown4 hB4 hgr4 hnil4))
      all_goals go_wp2_with fail
      all_goals
        have hb2 := good_below hb (bA.trans ((Below.refl _ _).drew.trans (hb1.mono bA.size)))
        refine ⟨⟨k + 1, rfl, by omega, ?_, (hb2.alloc hb2.size _).trans hB4⟩, by simp [intOf]; omega⟩
        rw [HTK.out]
        exact hown4
    · obtain rfl : k = l.length := by omega
      have hkn' : ¬ ((l.length : Int) < (l.length : Int)) := by omega
      have ho := HOW.out
      rw [List.take_length] at ho
      have HO2 : Hid (OwnPks w.heap.size wr u3 l) := ho
      clear ho
      go_wp2_with fail
      go_ret
      exact ⟨⟨_, rfl, HO2.out⟩, hb⟩
end Go.Proofs.YtkghlnhmmfjclaaGreatDoor
