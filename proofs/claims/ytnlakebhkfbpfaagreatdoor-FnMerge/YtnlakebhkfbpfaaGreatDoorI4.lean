/-
  Layers sorted by rank and name: impl.sortByTwo over them; slices.Clone. No statement of the seat is proved here.
-/
import Derived.Test.YtnlakebhkfbpfaaGreatDoorK0
import Derived.Test.YtnlakebhkfbpfaaGreatDoorQ0
import Derived.Test.YtnlakebhkfbpfaaGreatDoorH3
import Derived.Test.YtnlakebhkfbpfaaGreatDoorShelf
namespace Go.Proofs.YtnlakebhkfbpfaaGreatDoor
open Go.ChangeShapes Go.WideShapes Go.ChangeAt Go.RowKit Go.Sort
set_option linter.unusedVariables false

/-- How two texts stand: -1, 0 or 1. -/
def cmpT (x y : ByteArray) : Int := if lessB x y then -1 else if x = y then 0 else 1
set_option maxRecDepth 100000 in
theorem implNaN (x : ByteArray) (w : World) : Calls Tryz.prog 107 #[.string x] w fun e w' => e = .returned (.bool false) ∧ w' = w := by
  go_enter Tryz.func107, Tryz.ntmps107
  go_wp2
  go_ret
  exact ⟨by simp, rfl⟩
set_option maxRecDepth 100000 in
theorem implCmpS (x y : ByteArray) (w : World) : Calls Tryz.prog 86 #[.string x, .string y] w fun e w' => e = .returned (.int .i64 (cmpT x y)) ∧ w' = w := by
  have c1 := fun w => implNaN x w
  have c2 := fun w => implNaN y w
  unfold cmpT lessB
  have hxy : (x = y) = ((x.toList == y.toList) = true) := by rw [beq_bytes]; simp
  obtain ⟨L, hL⟩ : ∃ L, Go.Op.bytesLess x.toList y.toList = L := ⟨_, rfl⟩
  obtain ⟨E, hE⟩ : ∃ E, (x.toList == y.toList) = E := ⟨_, rfl⟩
  simp only [hxy]
  rw [hL, hE]
  cases L <;> cases E <;>
  · go_enter Tryz.func86, Tryz.ntmps86
    go_wp2_with (first
      | (go_at_call 107; go_must (first | (refine (c1 _).mono ?_; rintro e w1 ⟨rfl, rfl⟩) | (refine (c2 _).mono ?_; rintro e w1 ⟨rfl, rfl⟩))))
    go_ret
    exact ⟨rfl, rfl⟩
set_option maxRecDepth 100000 in
set_option maxHeartbeats 1000000 in
theorem implOr (a b : Int) (g : Nat) (w : World) (h0 : w.cell? ⟨g, 0, none⟩ = some (.int .i64 a)) (h1 : w.cell? ⟨g, 1, none⟩ = some (.int .i64 b)) :
    Calls Tryz.prog 84 #[.slice (some ⟨g, 0, none⟩) 2 2] w fun e w' => e = .returned (.int .i64 (if a = 0 then b else a)) ∧ w' = w := by
  by_cases ha : a = 0
  · rw [if_pos ha]
    subst ha
    by_cases hb : b = 0
    · subst hb
      go_enter Tryz.func84, Tryz.ntmps84
      go_wp2
      refine wp_loop_rounds 3 ?_
      rw [rounds_succ]
      go_wp2
      rw [rounds_succ]
      go_wp2
      rw [rounds_succ]
      go_wp2
      go_ret
      exact ⟨rfl, rfl⟩
    · have hb' : (b == 0) = false := by simp [hb]
      go_enter Tryz.func84, Tryz.ntmps84
      go_wp2
      refine wp_loop_rounds 2 ?_
      rw [rounds_succ]
      go_wp2
      rw [rounds_succ]
      go_wp2
      go_ret
      exact ⟨rfl, rfl⟩
  · rw [if_neg ha]
    have ha' : (a == 0) = false := by simp [ha]
    go_enter Tryz.func84, Tryz.ntmps84
    go_wp2
    refine wp_loop_rounds 1 ?_
    rw [rounds_succ]
    go_wp2
    go_ret
    exact ⟨rfl, rfl⟩
set_option maxRecDepth 100000 in
theorem implRankOf (nm : ByteArray) (r : Int) (a : Option Addr) (n c : Nat) (w : World) : Calls Tryz.prog 36 #[.agg #[.string nm, .int .i64 r, .slice a n c]] w fun e w' => e = .returned (.int .i64 r) ∧ w' = w.alloc (.cells #[.string nm, .int .i64 r, .slice a n c] 30) := by
  go_enter Tryz.func36, Tryz.ntmps36
  go_wp2_with fail
  go_ret
  exact ⟨rfl, rfl⟩
set_option maxRecDepth 100000 in
theorem implNameOf (nm : ByteArray) (r : Int) (a : Option Addr) (n c : Nat) (w : World) : Calls Tryz.prog 37 #[.agg #[.string nm, .int .i64 r, .slice a n c]] w fun e w' => e = .returned (.string nm) ∧ w' = w.alloc (.cells #[.string nm, .int .i64 r, .slice a n c] 30) := by
  go_enter Tryz.func37, Tryz.ntmps37
  go_wp2_with fail
  go_ret
  exact ⟨rfl, rfl⟩
/-- A layer whose entries are a slice. -/
structure LayS where
  v : LayV
  sl : ∃ a n c, v.nv = .slice a n c
def LayS.cells (x : LayS) : List Value := LayVsCells x.1
instance : Inhabited LayS := ⟨⟨⟨⟨⟨#[]⟩, 0, []⟩, .slice none 0 0⟩, none, 0, 0, rfl⟩⟩
/-- By rank, then by name. -/
def cmpL (x y : LayS) : Int := if Lib.compareInt x.1.x.rank y.1.x.rank = 0 then cmpT x.1.x.name y.1.x.name else Lib.compareInt x.1.x.rank y.1.x.rank
theorem ltL (x y : LayS) : ltOf cmpL x y = lessL x.1 y.1 := by
  unfold ltOf cmpL lessL cmpT Lib.compareInt lessB
  by_cases h1 : x.1.x.rank < y.1.x.rank
  · simp [h1]
  · by_cases h2 : y.1.x.rank < x.1.x.rank
    · have h3 : ¬ x.1.x.rank = y.1.x.rank := by omega
      simp [h1, h2, h3]
    · have h3 : x.1.x.rank = y.1.x.rank := by omega
      rw [h3]
      simp only [Int.lt_irrefl, if_false, if_true, decide_false, Bool.false_or, beq_self_eq_true, Bool.true_and]
      cases Go.Op.bytesLess x.1.x.name.toList y.1.x.name.toList
      · by_cases h4 : x.1.x.name = y.1.x.name <;> simp [h4]
      · simp
theorem lessL_neg {x y z : LayV} (h1 : lessL x y = false) (h2 : lessL y z = false) : lessL x z = false := by
  cases h : lessL x z
  · rfl
  · rw [Bool.eq_false_iff, Ne, lessL_iff] at h1 h2
    rw [lessL_iff] at h
    exfalso
    rcases h with h | ⟨ha, hb⟩
    · have a1 : ¬ x.x.rank < y.x.rank := fun q => h1 (.inl q)
      have a2 : ¬ y.x.rank < z.x.rank := fun q => h2 (.inl q)
      omega
    · have a1 : ¬ x.x.rank < y.x.rank := fun q => h1 (.inl q)
      have a2 : ¬ y.x.rank < z.x.rank := fun q => h2 (.inl q)
      have e1 : x.x.rank = y.x.rank := by omega
      have e2 : y.x.rank = z.x.rank := by omega
      by_cases en : x.x.name = y.x.name
      · exact h2 (.inr ⟨e2, en ▸ hb⟩)
      · rcases lessB_total en with q | q
        · exact h1 (.inr ⟨e1, q⟩)
        · exact h2 (.inr ⟨e2, lessB_trans q hb⟩)
theorem swoL : SWO (ltOf cmpL) where
  irrefl x := by rw [ltL]; exact Bool.eq_false_iff.2 (lessL_irrefl x.1)
  trans x y z h1 h2 := by rw [ltL] at *; exact lessL_trans h1 h2
  ntrans x y z h1 h2 := by rw [ltL] at *; exact lessL_neg h1 h2
theorem two_new (w : World) (a b : Int) (g : Nat) (hg : g = w.heap.size) : (w.alloc (.cells #[.int .i64 a, .int .i64 b] 3)).drew.cell? ⟨g, 0, none⟩ = some (.int .i64 a) ∧ (w.alloc (.cells #[.int .i64 a, .int .i64 b] 3)).drew.cell? ⟨g, 1, none⟩ = some (.int .i64 b) := by
  subst hg
  have h : Blk (w.alloc (.cells #[.int .i64 a, .int .i64 b] 3)) w.heap.size 3 #[.int .i64 a, .int .i64 b] := heap_alloc_last w _
  exact ⟨h.cell 0, h.cell 1⟩
set_option maxRecDepth 100000 in
set_option maxHeartbeats 4000000 in
theorem implCmpL (xn yn : ByteArray) (xr yr : Int) (xa ya : Option Addr) (xl xc yl yc : Nat) (g1 g2 : Nat) (W : World) (h1 : W.cell? ⟨g1, 0, none⟩ = some (.func (.func 36) #[] #[])) (h2 : W.cell? ⟨g2, 0, none⟩ = some (.func (.func 37) #[] #[])) :
    Calls Tryz.prog 83 #[.agg #[.string xn, .int .i64 xr, .slice xa xl xc], .agg #[.string yn, .int .i64 yr, .slice ya yl yc], .pointer (some ⟨g1, 0, none⟩), .pointer (some ⟨g2, 0, none⟩)] W fun e w' => e = .returned (.int .i64 (if Lib.compareInt xr yr = 0 then cmpT xn yn else Lib.compareInt xr yr)) ∧ Grew W w' := by
  obtain ⟨A, hA⟩ : ∃ A, Lib.compareInt xr yr = A := ⟨_, rfl⟩
  obtain ⟨Bv, hB⟩ : ∃ B, cmpT xn yn = B := ⟨_, rfl⟩
  have c77 := fun w => Tryz.cmp_Compare_int xr yr w
  have c78 := fun w => implCmpS xn yn w
  rw [hA] at c77 ⊢
  rw [hB] at c78 ⊢
  clear hA hB
  have c76 := fun g w h0 h1 => implOr A Bv g w h0 h1
  obtain ⟨R, hR⟩ : ∃ R, (if A = 0 then Bv else A) = R := ⟨_, rfl⟩
  rw [hR] at c76 ⊢
  clear hR
  have l1 : g1 < W.heap.size := cell_lt' h1
  have l2 : g2 < W.heap.size := cell_lt' h2
  have hbA : Below W.heap.size W ((W.alloc (.cells #[.string xn, .int .i64 xr, .slice xa xl xc] 30)).alloc (.cells #[.string yn, .int .i64 yr, .slice ya yl yc] 30)) := ((Below.refl _ W).alloc (Nat.le_refl _) _).alloc (by simp) _
  have b1 : Blk ((W.alloc (.cells #[.string xn, .int .i64 xr, .slice xa xl xc] 30)).alloc (.cells #[.string yn, .int .i64 yr, .slice ya yl yc] 30)) W.heap.size 30 #[.string xn, .int .i64 xr, .slice xa xl xc] := Blk.below (show Blk (W.alloc (.cells #[.string xn, .int .i64 xr, .slice xa xl xc] 30)) W.heap.size 30 #[.string xn, .int .i64 xr, .slice xa xl xc] from heap_alloc_last W _) ((Below.refl _ _).alloc (Nat.le_refl _) _)
  have b2 : Blk ((W.alloc (.cells #[.string xn, .int .i64 xr, .slice xa xl xc] 30)).alloc (.cells #[.string yn, .int .i64 yr, .slice ya yl yc] 30)) (W.heap.size + 1) 30 #[.string yn, .int .i64 yr, .slice ya yl yc] := by
    have := heap_alloc_last (W.alloc (.cells #[.string xn, .int .i64 xr, .slice xa xl xc] 30)) (.cells #[.string yn, .int .i64 yr, .slice ya yl yc] 30)
    rwa [World.size_alloc] at this
  have kp : ∀ w', Grew ((W.alloc (.cells #[.string xn, .int .i64 xr, .slice xa xl xc] 30)).alloc (.cells #[.string yn, .int .i64 yr, .slice ya yl yc] 30)) w' → w'.cell? ⟨g1, 0, none⟩ = some (.func (.func 36) #[] #[]) ∧ w'.cell? ⟨g2, 0, none⟩ = some (.func (.func 37) #[] #[]) ∧ w'.cell? ⟨W.heap.size, 0, none⟩ = some (.string xn) ∧ w'.cell? ⟨W.heap.size, 1, none⟩ = some (.int .i64 xr) ∧ w'.cell? ⟨W.heap.size, 2, none⟩ = some (.slice xa xl xc) ∧ w'.cell? ⟨W.heap.size + 1, 0, none⟩ = some (.string yn) ∧ w'.cell? ⟨W.heap.size + 1, 1, none⟩ = some (.int .i64 yr) ∧ w'.cell? ⟨W.heap.size + 1, 2, none⟩ = some (.slice ya yl yc) := fun w' hg => by
    have hB := hg.below
    have hC := good_below hbA hB
    have d1 := b1.below hB
    have d2 := b2.below hB
    exact ⟨(hC.cell (p := ⟨g1, 0, none⟩) l1).trans h1, (hC.cell (p := ⟨g2, 0, none⟩) l2).trans h2, d1.cell 0, d1.cell 1, d1.cell 2, d2.cell 0, d2.cell 1, d2.cell 2⟩
  have KP : Hid _ := kp
  have HG0 : Grew W ((W.alloc (.cells #[.string xn, .int .i64 xr, .slice xa xl xc] 30)).alloc (.cells #[.string yn, .int .i64 yr, .slice ya yl yc] 30)) := ((Grew.refl W).alloc _).alloc _
  clear kp b1 b2 hbA
  go_enter Tryz.func83, Tryz.ntmps83
  go_wp2_with fail
  go_region_held3 (fun w' => w'.cell? ⟨g1, 0, none⟩ = some (.func (.func 36) #[] #[]) ∧ w'.cell? ⟨g2, 0, none⟩ = some (.func (.func 37) #[] #[]) ∧ w'.cell? ⟨W.heap.size, 0, none⟩ = some (.string xn) ∧ w'.cell? ⟨W.heap.size, 1, none⟩ = some (.int .i64 xr) ∧ w'.cell? ⟨W.heap.size, 2, none⟩ = some (.slice xa xl xc) ∧ w'.cell? ⟨W.heap.size + 1, 0, none⟩ = some (.string yn) ∧ w'.cell? ⟨W.heap.size + 1, 1, none⟩ = some (.int .i64 yr) ∧ w'.cell? ⟨W.heap.size + 1, 2, none⟩ = some (.slice ya yl yc)) (first | (refine KP.out _ ?_; repeat (first | exact Grew.refl _ | apply Grew.alloc | apply Grew.drew))) (first
    | (go_at_call 36; refine (implRankOf _ _ _ _ _ _).mono ?_; rintro e w' ⟨rfl, rfl⟩)
    | (go_at_call 37; refine (implNameOf _ _ _ _ _ _).mono ?_; rintro e w' ⟨rfl, rfl⟩)
    | (go_at_call 85; refine (c77 _).mono ?_; rintro e w' ⟨rfl, rfl⟩)
    | (go_at_call 86; refine (c78 _).mono ?_; rintro e w' ⟨rfl, rfl⟩)
    | (go_at_call 84; refine (c76 _ _ (two_new _ A Bv _ (by simp)).1 (two_new _ A Bv _ (by simp)).2).mono ?_; rintro e w' ⟨rfl, rfl⟩))
  all_goals go_wp2_with fail
  all_goals go_ret
  all_goals refine ⟨rfl, HG0.trans ?_⟩
  all_goals repeat (first | exact Grew.refl _ | apply Grew.alloc | apply Grew.drew)
end Go.Proofs.YtnlakebhkfbpfaaGreatDoor
