/-
  Layers copied and sorted: slices.SortFunc, impl.byTwo, impl.sortByTwo, slices.Clone over them. No statement of the seat is proved here.
-/
import Derived.Test.YtnlakebhkfbpfaaGreatDoorI4
import Derived.Lib.SliceRun
namespace Go.Proofs.YtnlakebhkfbpfaaGreatDoor
open Go.ChangeShapes Go.WideShapes Go.ChangeAt Go.RowKit
open Go.Sort (grow putRow putCells mapBlock onCells heap_grow_old ahead HoldsK flatK get_flatK size_flatK putRowK PermIn SortedIn SWO)
set_option linter.unusedVariables false

/-- What a sort leaves. -/
structure SortedL (l l' : List LayV) : Prop where
  perm : l'.Perm l
  rises : l'.Pairwise fun x y => lessL y x = false
def Slices (l : List LayV) : Prop := ∀ x ∈ l, ∃ a n c, x.nv = .slice a n c
def cmpFnL (g1 g2 : Nat) : Value := .func (.func 83) #[] #[.pointer (some ⟨g1, 0, none⟩), .pointer (some ⟨g2, 0, none⟩)]
/-- The two questions lie in blocks of their own. -/
def AsksL (w : World) (g1 g2 : Nat) : Prop := w.cell? ⟨g1, 0, none⟩ = some (.func (.func 36) #[] #[]) ∧ w.cell? ⟨g2, 0, none⟩ = some (.func (.func 37) #[] #[])
theorem lift_slices : ∀ l : List LayV, Slices l → ∃ L : List LayS, L.map (·.1) = l
  | [], _ => ⟨[], rfl⟩
  | x :: l, h => by
    obtain ⟨L, hL⟩ := lift_slices l (fun y hy => h y (List.mem_cons_of_mem _ hy))
    exact ⟨⟨x, h x (List.mem_cons_self ..)⟩ :: L, by rw [List.map_cons, hL]⟩
theorem rowS (l : List LayS) : l.flatMap LayS.cells = LayVsRow (l.map (·.1)) := by
  unfold LayVsRow LayS.cells
  rw [List.flatMap_map]
theorem implSortL {B : Nat} {w : World} {v : Value} {l : List LayV} (h : OwnLayVs B w v l) (hs : Slices l) (hl : l.length ≤ 1000000) {g1 g2 : Nat} (ha : AsksL w g1 g2) :
    Calls Tryz.prog 56 #[v, cmpFnL g1 g2] w fun e w' => e = .returned (.tuple #[]) ∧ ∃ l', SortedL l l' ∧ OwnLayVs B w' v l' ∧ w.grownBy w' v.ownBlock := by
  by_cases h0 : l = []
  · subst h0
    obtain ⟨a, cap, rfl, _⟩ := h.value
    refine (AnyF.slices_SortFunc_none { Tryz.sortLay with } a cap (cmpFnL g1 g2) w).mono ?_
    rintro e w' ⟨rfl, rfl⟩
    exact ⟨rfl, [], ⟨List.Perm.refl _, List.Pairwise.nil⟩, h, grown_refl _ _⟩
  · have hpos : 0 < l.length := by
      cases l with
      | nil => exact absurd rfl h0
      | cons a r => simp
    obtain ⟨av, cv, hvv, _, hcv⟩ := h.value
    rcases h.2 with ⟨_, hz⟩ | ⟨g, cap, cur, rfl, hB, hg, hn1, hn2, hn3, hn4⟩
    · omega
    obtain ⟨g', hg', _, _, hcell⟩ := hcv hpos
    simp only [Value.slice.injEq] at hvv
    obtain ⟨rfl, _, _⟩ := hvv
    simp only [Option.some.injEq, Addr.mk.injEq, and_true] at hg'
    subst hg'
    have c0 := (hcell 0 hpos).1
    have n1 : g1 ≠ g := fun e => by
      subst e
      have := ha.1
      simp only [Nat.zero_mul] at c0
      rw [c0] at this
      cases this
    have n2 : g2 ≠ g := fun e => by
      subst e
      have := ha.2
      simp only [Nat.zero_mul] at c0
      rw [c0] at this
      cases this
    obtain ⟨L, hL⟩ := lift_slices l hs
    subst hL
    rw [List.length_map] at hl hn1 hn4 hpos
    have hk : ∀ x : LayS, x.cells.length = 3 := fun _ => rfl
    have hH : HoldsK LayS.cells 3 w g 0 L.toArray := holdsK_of_block hk (by omega) hg (by rw [rowS]; exact hn4)
    have eg : ∀ args w, (callFunc 83 args).run Tryz.prog w = .ok (.enter 83 args) w := enters_of Tryz.func83 (by kernel_rfl) rfl
    have hcmp : CmpLays Tryz.prog 83 #[.pointer (some ⟨g1, 0, none⟩), .pointer (some ⟨g2, 0, none⟩)] LayS.cells 3 cmpL g 0 L.toArray.size w := by
      intro m os dk _ x y
      have hgr : w.grownBy (sortWorldK LayS.cells 3 w g 0 m dk os) (some g) := grownBy_sortedK dk
      obtain ⟨⟨⟨xn, xr, xe⟩, xv⟩, xa, xl, xc, hx⟩ := x
      obtain ⟨⟨⟨yn, yr, ye⟩, yv⟩, ya, yl, yc, hy⟩ := y
      dsimp only at hx hy
      subst hx hy
      exact implCmpL xn yn xr yr xa ya xl xc yl yc g1 g2 _ (hgr.cell ha.1 (by simp [n1])) (hgr.cell ha.2 (by simp [n2]))
    have hcon := AnyQ.slices_SortFunc Tryz.sortLay 3 Tryz.isAgg30 Tryz.sizeOf30 LayS.cells hk (fun x v hv => by
      obtain ⟨⟨⟨xn, xr, xe⟩, xv⟩, xa, xl, xc, hx⟩ := x
      dsimp only at hx
      subst hx
      simp [LayS.cells, LayVsCells] at hv
      rcases hv with rfl | rfl | rfl <;> rfl) cmpL swoL 83 #[.pointer (some ⟨g1, 0, none⟩), .pointer (some ⟨g2, 0, none⟩)] g 0 cap L.toArray w eg hcmp hH (Array.getElem?_eq_some_iff.1 hg).1 (by simp; omega)
    have e1 : (L.map (·.1)).length = L.toArray.size := by simp
    rw [e1]
    refine Calls.mono hcon ?_
    rintro e w' ⟨rfl, d', n, os, hp, hso, rfl⟩
    have hsize : d'.toList.length = L.length := by rw [Array.length_toList, hp.1]; simp
    refine ⟨rfl, d'.toList.map (·.1), ⟨(perm_of hp).map _, ?_⟩, ?_, grownBy_sortedK d'⟩
    · rw [List.pairwise_map]
      refine (sorted_of hp hso).imp ?_
      intro a b hab
      rw [ltL] at hab
      exact hab
    · have := ownsRow_sortedK (n := n) (os := os) hk (by omega) hsize hB hg hn1 hn2 hn3
      unfold OwnLayVs
      rw [List.length_map, hsize, ← rowS]
      simpa using this
set_option maxRecDepth 100000 in
theorem implByTwoL (w : World) : Calls Tryz.prog 57 #[.func (.func 36) #[] #[], .func (.func 37) #[] #[]] w fun e w' => (∃ g1 g2, e = .returned (cmpFnL g1 g2) ∧ AsksL w' g1 g2 ∧ w.heap.size ≤ g1 ∧ w.heap.size ≤ g2) ∧ Below w.heap.size w w' := by
  have hmf : ∀ (fn : Fn) (first cap : Array Value) (w : World), (Instr.makeFunc fn first cap).run Tryz.prog w = .ok (.func fn first cap) w := fun _ _ _ _ => rfl
  go_enter Tryz.func57, Tryz.ntmps57
  go_wp2_with fail
  go_ret
  have b1 : Blk ((w.alloc (.cells #[.func (.func 36) #[] #[]] 73)).alloc (.cells #[.func (.func 37) #[] #[]] 74)) w.heap.size 73 #[.func (.func 36) #[] #[]] := Blk.below (show Blk (w.alloc (.cells #[.func (.func 36) #[] #[]] 73)) w.heap.size 73 #[.func (.func 36) #[] #[]] from heap_alloc_last w _) ((Below.refl _ _).alloc (Nat.le_refl _) _)
  have b2 : Blk ((w.alloc (.cells #[.func (.func 36) #[] #[]] 73)).alloc (.cells #[.func (.func 37) #[] #[]] 74)) (w.heap.size + 1) 74 #[.func (.func 37) #[] #[]] := by
    have := heap_alloc_last (w.alloc (.cells #[.func (.func 36) #[] #[]] 73)) (.cells #[.func (.func 37) #[] #[]] 74)
    rwa [World.size_alloc] at this
  refine ⟨⟨w.heap.size, w.heap.size + 1, rfl, ⟨b1.cell 0, b2.cell 0⟩, by omega, by omega⟩, ((Below.refl _ w).alloc (Nat.le_refl _) _).alloc (by simp) _⟩
set_option maxRecDepth 100000 in
set_option maxHeartbeats 1000000 in
theorem implSortTwoL {B : Nat} {w : World} {v : Value} {l : List LayV} (h : OwnLayVs B w v l) (hs : Slices l) (hBw : B ≤ w.heap.size) (hl : l.length ≤ 1000000) :
    Calls Tryz.prog 35 #[v, .func (.func 36) #[] #[], .func (.func 37) #[] #[]] w fun e w' => e = .returned (.tuple #[]) ∧ (∃ l', SortedL l l' ∧ OwnLayVs B w' v l') ∧ Below B w w' := by
  obtain ⟨a, cap, hv, _⟩ := h.value
  have HO : Hid (OwnLayVs B w v l) := h
  have HS : Hid (Slices l) := hs
  subst hv
  clear h hs
  go_enter Tryz.func35, Tryz.ntmps35
  go_wp2_with (first
    | (go_at_call 57; go_must (refine (implByTwoL _).mono ?_; rintro e w1 ⟨⟨g1, g2, rfl, has, hg1, hg2⟩, hb1⟩; have cs := implSortL (OwnLayVs.below HO.out hb1) HS.out hl has; unfold cmpFnL at *))
    | (go_at_call 56; go_must (refine cs.mono ?_; rintro e w2 ⟨rfl, l2, hso, hop, hgr⟩)))
  go_end0
  exact ⟨rfl, ⟨l2, hso, hop⟩, (hb1.mono hBw).grown hgr (Nat.le_trans hBw hb1.size) (OwnLayVs.block HO.out)⟩
set_option maxRecDepth 100000 in
set_option maxHeartbeats 1000000 in
theorem implCloneL {S : Nat → Prop} {w : World} {v : Value} {l : List LayV} (h : LayVsAt S w v l) (hS : ∀ b, S b → b < w.heap.size) (hone : LayVsOne l) (hl : l.length ≤ 1000000) :
    Calls Tryz.prog 34 #[v] w fun e w' => (∃ p, e = .returned p ∧ OwnLayVs w.heap.size w' p l) ∧ Below w.heap.size w w' := by
  obtain ⟨_, a, cap, hv, hc⟩ := id h
  subst hv
  have HH : Hid (LayVsAt S w (.slice a l.length cap) l) := h
  have HO : Hid (LayVsOne l) := hone
  have HE : Hid (OwnLayVs w.heap.size (w.alloc (.cells #[] 30)) (.slice (some ⟨w.heap.size, 0, none⟩) 0 0) []) := OwnLayVs.empty w.heap.size w (Nat.le_refl _)
  have hnil := fun (w : World) (a : Option Addr) (n c : Nat) => Lib.run_eql_slice_nil (P := Tryz.prog) w 23 30 a n c 0 0 Tryz.underlying23
  cases a with
  | none =>
    have h0 : l = [] := by
      cases l with
      | nil => rfl
      | cons x t =>
        obtain ⟨b, off, hb, _⟩ := hc (by simp)
        cases hb
    subst h0
    clear hc h hone
    go_enter Tryz.func34, Tryz.ntmps34
    go_wp2_with fail
    go_ret
    exact ⟨⟨_, rfl, OwnLayVs.nil _ _⟩, Below.refl _ _⟩
  | some ad =>
    have HK : Hid (LayVsAt S (w.alloc (.cells #[] 30)) (.slice (some ad) l.length cap) l) := h.keep (cells_below hS ((Below.refl _ w).alloc (Nat.le_refl _) _))
    clear hc h hone
    go_enter Tryz.func34, Tryz.ntmps34
    go_wp2_with (at_builtin; go_must (refine wpList_appendLayVs rfl (.tmp 5) (.tmp 6) rfl w.heap.size (.slice (some ⟨w.heap.size, 0, none⟩) 0 0) [] rfl HE.out (.slice (some ad) l.length cap) l rfl HK.out (by simp <;> omega) (by simp) HO.out ?_; intro v4 w4 hown4 hB4 hgr4 hnil4))
    go_ret
    exact ⟨⟨_, rfl, by simpa using hown4⟩, ((Below.refl _ w).alloc (Nat.le_refl _) _).trans hB4⟩
end Go.Proofs.YtnlakebhkfbpfaaGreatDoor
