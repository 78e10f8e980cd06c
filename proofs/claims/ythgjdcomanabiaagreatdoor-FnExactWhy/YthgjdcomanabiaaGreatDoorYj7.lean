/-
  impl.byTwo and impl.sortByTwo over claims. impl.claims: its closure, its sort, its walk. impl.claims: its walk. impl.broken: its walk. What impl.choose answers, as a function of the store and the wishes: the plain side. impl.choose: its walk. What impl.firstTwice, areNeeds and isRelease answer. What impl.StoreOK answers. What a store that is right says of itself; the needs of a release by its name and version. spec.Newest: its walk. No statement of the seat is proved here.
-/
import Derived.Test.YthgjdcomanabiaaGreatDoorYj6
namespace Go.Proofs.YthgjdcomanabiaaGreatDoor
open Go.ChangeShapes Go.WideShapes Go.ChangeAt Go.RowKit
open Go.Sort (grow putRow putCells mapBlock onCells heap_grow_old ahead HoldsK flatK get_flatK size_flatK putRowK PermIn SortedIn SWO)
set_option linter.unusedVariables false

set_option maxRecDepth 100000 in
set_option maxHeartbeats 4000000 in
theorem implCmpC (x y : Cl) (g1 g2 : Nat) (W : World) (h1 : W.cell? ⟨g1, 0, none⟩ = some (.func (.func 73) #[] #[])) (h2 : W.cell? ⟨g2, 0, none⟩ = some (.func (.func 74) #[] #[])) :
    Calls Tryz.prog 106 #[.agg #[.string x.owner, .string x.need.name, .int .i64 x.need.mn, .int .i64 x.need.mx], .agg #[.string y.owner, .string y.need.name, .int .i64 y.need.mn, .int .i64 y.need.mx], .pointer (some ⟨g1, 0, none⟩), .pointer (some ⟨g2, 0, none⟩)] W fun e w' => e = .returned (.int .i64 (cmpC x y)) ∧ Grew W w' := by
  obtain ⟨xo, xn, xa, xb⟩ := x
  obtain ⟨yo, yn, ya, yb⟩ := y
  dsimp only
  unfold cmpC
  dsimp only
  obtain ⟨A, hA⟩ : ∃ A, cmpT xo yo = A := ⟨_, rfl⟩
  obtain ⟨Bv, hB⟩ : ∃ B, cmpT xn yn = B := ⟨_, rfl⟩
  rw [hA, hB]
  have c76 := fun g w h0 h1 => implOr A Bv g w h0 h1
  obtain ⟨R, hR⟩ : ∃ R, (if A = 0 then Bv else A) = R := ⟨_, rfl⟩
  rw [hR] at c76 ⊢
  clear hR
  have l1 : g1 < W.heap.size := cell_lt' h1
  have l2 : g2 < W.heap.size := cell_lt' h2
  have hbA : Below W.heap.size W ((W.alloc (.cells #[.string xo, .string xn, .int .i64 xa, .int .i64 xb] 94)).alloc (.cells #[.string yo, .string yn, .int .i64 ya, .int .i64 yb] 94)) := ((Below.refl _ W).alloc (Nat.le_refl _) _).alloc (by simp) _
  have b1 : Blk ((W.alloc (.cells #[.string xo, .string xn, .int .i64 xa, .int .i64 xb] 94)).alloc (.cells #[.string yo, .string yn, .int .i64 ya, .int .i64 yb] 94)) W.heap.size 94 #[.string xo, .string xn, .int .i64 xa, .int .i64 xb] := Blk.below (show Blk (W.alloc (.cells #[.string xo, .string xn, .int .i64 xa, .int .i64 xb] 94)) W.heap.size 94 #[.string xo, .string xn, .int .i64 xa, .int .i64 xb] from heap_alloc_last W _) ((Below.refl _ _).alloc (Nat.le_refl _) _)
  have b2 : Blk ((W.alloc (.cells #[.string xo, .string xn, .int .i64 xa, .int .i64 xb] 94)).alloc (.cells #[.string yo, .string yn, .int .i64 ya, .int .i64 yb] 94)) (W.heap.size + 1) 94 #[.string yo, .string yn, .int .i64 ya, .int .i64 yb] := by
    have := heap_alloc_last (W.alloc (.cells #[.string xo, .string xn, .int .i64 xa, .int .i64 xb] 94)) (.cells #[.string yo, .string yn, .int .i64 ya, .int .i64 yb] 94)
    rwa [World.size_alloc] at this
  have kp : ∀ w', Grew ((W.alloc (.cells #[.string xo, .string xn, .int .i64 xa, .int .i64 xb] 94)).alloc (.cells #[.string yo, .string yn, .int .i64 ya, .int .i64 yb] 94)) w' → w'.cell? ⟨g1, 0, none⟩ = some (.func (.func 73) #[] #[]) ∧ w'.cell? ⟨g2, 0, none⟩ = some (.func (.func 74) #[] #[]) ∧ w'.cell? ⟨W.heap.size, 0, none⟩ = some (.string xo) ∧ w'.cell? ⟨W.heap.size, 1, none⟩ = some (.string xn) ∧ w'.cell? ⟨W.heap.size, 2, none⟩ = some (.int .i64 xa) ∧ w'.cell? ⟨W.heap.size, 3, none⟩ = some (.int .i64 xb) ∧ w'.cell? ⟨W.heap.size + 1, 0, none⟩ = some (.string yo) ∧ w'.cell? ⟨W.heap.size + 1, 1, none⟩ = some (.string yn) ∧ w'.cell? ⟨W.heap.size + 1, 2, none⟩ = some (.int .i64 ya) ∧ w'.cell? ⟨W.heap.size + 1, 3, none⟩ = some (.int .i64 yb) := fun w' hg => by
    have hB := hg.below
    have hC := good_below hbA hB
    have d1 := b1.below hB
    have d2 := b2.below hB
    exact ⟨(hC.cell (p := ⟨g1, 0, none⟩) l1).trans h1, (hC.cell (p := ⟨g2, 0, none⟩) l2).trans h2, d1.cell 0, d1.cell 1, d1.cell 2, d1.cell 3, d2.cell 0, d2.cell 1, d2.cell 2, d2.cell 3⟩
  have KP : Hid _ := kp
  have HG0 : Grew W ((W.alloc (.cells #[.string xo, .string xn, .int .i64 xa, .int .i64 xb] 94)).alloc (.cells #[.string yo, .string yn, .int .i64 ya, .int .i64 yb] 94)) := ((Grew.refl W).alloc _).alloc _
  clear kp b1 b2 hbA
  go_enter Tryz.func106, Tryz.ntmps106
  go_wp2_with fail
  go_region_held3 (fun w' => w'.cell? ⟨g1, 0, none⟩ = some (.func (.func 73) #[] #[]) ∧ w'.cell? ⟨g2, 0, none⟩ = some (.func (.func 74) #[] #[]) ∧ w'.cell? ⟨W.heap.size, 0, none⟩ = some (.string xo) ∧ w'.cell? ⟨W.heap.size, 1, none⟩ = some (.string xn) ∧ w'.cell? ⟨W.heap.size, 2, none⟩ = some (.int .i64 xa) ∧ w'.cell? ⟨W.heap.size, 3, none⟩ = some (.int .i64 xb) ∧ w'.cell? ⟨W.heap.size + 1, 0, none⟩ = some (.string yo) ∧ w'.cell? ⟨W.heap.size + 1, 1, none⟩ = some (.string yn) ∧ w'.cell? ⟨W.heap.size + 1, 2, none⟩ = some (.int .i64 ya) ∧ w'.cell? ⟨W.heap.size + 1, 3, none⟩ = some (.int .i64 yb)) (first | (refine KP.out _ ?_; repeat (first | exact Grew.refl _ | apply Grew.alloc | apply Grew.drew))) (first
    | (go_at_call 73; refine (implBy _ _ _ _ _).mono ?_; rintro e w' ⟨rfl, rfl⟩)
    | (go_at_call 74; refine (implAbout _ _ _ _ _).mono ?_; rintro e w' ⟨rfl, rfl⟩)
    | (go_at_call 102; refine (implCmpS _ _ _).mono ?_; rintro e w' ⟨rfl, rfl⟩)
    | (go_at_call 101; refine (c76 _ _ (two_new _ A Bv _ (by simp)).1 (two_new _ A Bv _ (by simp)).2).mono ?_; rintro e w' ⟨rfl, rfl⟩))
  all_goals go_wp2_with fail
  all_goals go_ret
  all_goals refine ⟨rfl, HG0.trans ?_⟩
  all_goals repeat (first | exact Grew.refl _ | apply Grew.alloc | apply Grew.drew)
end Go.Proofs.YthgjdcomanabiaaGreatDoor

namespace Go.Proofs.YthgjdcomanabiaaGreatDoor
open Go.ChangeShapes Go.WideShapes Go.ChangeAt Go.RowKit
open Go.Sort (grow putRow putCells mapBlock onCells heap_grow_old ahead HoldsK flatK get_flatK size_flatK putRowK PermIn SortedIn SWO)
set_option linter.unusedVariables false

def cmpFnC (g1 g2 : Nat) : Value := .func (.func 106) #[] #[.pointer (some ⟨g1, 0, none⟩), .pointer (some ⟨g2, 0, none⟩)]
def AsksC (w : World) (g1 g2 : Nat) : Prop := w.cell? ⟨g1, 0, none⟩ = some (.func (.func 73) #[] #[]) ∧ w.cell? ⟨g2, 0, none⟩ = some (.func (.func 74) #[] #[])
set_option maxRecDepth 100000 in
theorem implByTwoC (w : World) : Calls Tryz.prog 91 #[.func (.func 73) #[] #[], .func (.func 74) #[] #[]] w fun e w' => (∃ g1 g2, e = .returned (cmpFnC g1 g2) ∧ AsksC w' g1 g2 ∧ w.heap.size ≤ g1 ∧ w.heap.size ≤ g2) ∧ Below w.heap.size w w' := by
  have hmf : ∀ (fn : Fn) (first cap : Array Value) (w : World), (Instr.makeFunc fn first cap).run Tryz.prog w = .ok (.func fn first cap) w := fun _ _ _ _ => rfl
  go_enter Tryz.func91, Tryz.ntmps91
  go_wp2_with fail
  go_ret
  have b1 : Blk ((w.alloc (.cells #[.func (.func 73) #[] #[]] 123)).alloc (.cells #[.func (.func 74) #[] #[]] 123)) w.heap.size 123 #[.func (.func 73) #[] #[]] := Blk.below (show Blk (w.alloc (.cells #[.func (.func 73) #[] #[]] 123)) w.heap.size 123 #[.func (.func 73) #[] #[]] from heap_alloc_last w _) ((Below.refl _ _).alloc (Nat.le_refl _) _)
  have b2 : Blk ((w.alloc (.cells #[.func (.func 73) #[] #[]] 123)).alloc (.cells #[.func (.func 74) #[] #[]] 123)) (w.heap.size + 1) 123 #[.func (.func 74) #[] #[]] := by
    have := heap_alloc_last (w.alloc (.cells #[.func (.func 73) #[] #[]] 123)) (.cells #[.func (.func 74) #[] #[]] 123)
    rwa [World.size_alloc] at this
  refine ⟨⟨w.heap.size, w.heap.size + 1, rfl, ⟨b1.cell 0, b2.cell 0⟩, by omega, by omega⟩, ((Below.refl _ w).alloc (Nat.le_refl _) _).alloc (by simp) _⟩

theorem implSortC {B : Nat} {w : World} {v : Value} {l : List Cl} (h : OwnC B w v l) (hl : l.length ≤ 1000000) {g1 g2 : Nat} (ha : AsksC w g1 g2) :
    Calls Tryz.prog 90 #[v, cmpFnC g1 g2] w fun e w' => e = .returned (.tuple #[]) ∧ ∃ l', SortedC l l' ∧ OwnC B w' v l' ∧ w.grownBy w' v.ownBlock := by
  by_cases h0 : l = []
  · subst h0
    obtain ⟨a, cap, rfl, _⟩ := h.value
    refine (AnyF.slices_SortFunc_none { Tryz.sortClaim with } a cap (cmpFnC g1 g2) w).mono ?_
    rintro e w' ⟨rfl, rfl⟩
    exact ⟨rfl, [], ⟨List.Perm.refl _, List.Pairwise.nil⟩, h, grown_refl _ _⟩
  · have hpos : 0 < l.length := by
      cases l with
      | nil => exact absurd rfl h0
      | cons a r => simp
    obtain ⟨av, cv, hvv, hcv⟩ := h.value
    rcases h.2 with ⟨_, hz⟩ | ⟨g, cap, cur, rfl, hB, hg, hn1, hn2, hn3, hn4⟩
    · omega
    obtain ⟨g', hg', _, _, hcell⟩ := hcv hpos
    simp only [Value.slice.injEq] at hvv
    obtain ⟨rfl, _, _⟩ := hvv
    simp only [Option.some.injEq, Addr.mk.injEq, and_true] at hg'
    subst hg'
    have c0 := (hcell 0 hpos).1
    have n1 : g1 ≠ g := fun e => by
      subst e
      have := ha.1
      simp only [Nat.zero_mul] at c0
      rw [c0] at this
      cases this
    have n2 : g2 ≠ g := fun e => by
      subst e
      have := ha.2
      simp only [Nat.zero_mul] at c0
      rw [c0] at this
      cases this
    have hk : ∀ x : Cl, x.cells.length = 4 := fun _ => rfl
    have hH : HoldsK Cl.cells 4 w g 0 l.toArray := holdsK_of_block hk (by omega) hg hn4
    have eg : ∀ args w, (callFunc 106 args).run Tryz.prog w = .ok (.enter 106 args) w := enters_of Tryz.func106 (by kernel_rfl) rfl
    have hcmp : CmpLays Tryz.prog 106 #[.pointer (some ⟨g1, 0, none⟩), .pointer (some ⟨g2, 0, none⟩)] Cl.cells 4 cmpC g 0 l.toArray.size w := by
      intro m os dk _ x y
      have hgr : w.grownBy (sortWorldK Cl.cells 4 w g 0 m dk os) (some g) := grownBy_sortedK dk
      exact implCmpC x y g1 g2 _ (hgr.cell ha.1 (by simp [n1])) (hgr.cell ha.2 (by simp [n2]))
    have hcon := AnyQ.slices_SortFunc Tryz.sortClaim 4 Tryz.isAgg94 Tryz.sizeOf94 Cl.cells hk (fun x v hv => by simp [Cl.cells] at hv; rcases hv with rfl | rfl | rfl | rfl <;> rfl) cmpC swoC 106 #[.pointer (some ⟨g1, 0, none⟩), .pointer (some ⟨g2, 0, none⟩)] g 0 cap l.toArray w eg hcmp hH (Array.getElem?_eq_some_iff.1 hg).1 (by simp; omega)
    refine Calls.mono hcon ?_
    rintro e w' ⟨rfl, d', n, os, hp, hs, rfl⟩
    have hsize : d'.toList.length = l.length := by rw [Array.length_toList, hp.1]; simp
    refine ⟨rfl, d'.toList, sortedC_of hp hs, ?_, grownBy_sortedK d'⟩
    have := ownsRow_sortedK (n := n) (os := os) hk (by omega) hsize hB hg hn1 hn2 hn3
    unfold OwnC
    rw [hsize]
    exact this
set_option maxRecDepth 100000 in
set_option maxHeartbeats 1000000 in
theorem implSortTwoC {B : Nat} {w : World} {v : Value} {l : List Cl} (h : OwnC B w v l) (hBw : B ≤ w.heap.size) (hl : l.length ≤ 1000000) :
    Calls Tryz.prog 72 #[v, .func (.func 73) #[] #[], .func (.func 74) #[] #[]] w fun e w' => e = .returned (.tuple #[]) ∧ (∃ l', SortedC l l' ∧ OwnC B w' v l') ∧ (∃ w1, Below w.heap.size w w1 ∧ w1.grownBy w' v.ownBlock) ∧ Below B w w' := by
  obtain ⟨a, cap, hv, _⟩ := h.value
  have HO : Hid (OwnC B w v l) := h
  subst hv
  clear h
  go_enter Tryz.func72, Tryz.ntmps72
  go_wp2_with (first
    | (go_at_call 91; go_must (refine (implByTwoC _).mono ?_; rintro e w1 ⟨⟨g1, g2, rfl, has, hg1, hg2⟩, hb1⟩; have cs := implSortC (OwnC.below HO.out hb1) hl has; unfold cmpFnC at *))
    | (go_at_call 90; go_must (refine cs.mono ?_; rintro e w2 ⟨rfl, l2, hso, hop, hgr⟩)))
  go_end0
  exact ⟨rfl, ⟨l2, hso, hop⟩, ⟨w1, hb1, hgr⟩, (hb1.mono hBw).grown hgr (Nat.le_trans hBw hb1.size) (OwnC.block HO.out)⟩

/-- Blocks of other types are as they were. -/
def KeepsX (w w' : World) : Prop := ∀ g ty cs, ty ≠ 91 → ty ≠ 94 → Blk w g ty cs → Blk w' g ty cs
set_option maxRecDepth 100000 in
set_option maxHeartbeats 4000000 in
/-- What the closure adds to the row in its box. -/
theorem implAdd {S : Nat → Prop} {B : Nat} {w : World} {lb : Nat} {cv nv : Value} {L : List Cl} {ns : List Imp} (ow : ByteArray) (hS : ∀ b, S b → b < B) (hbk : Blk w lb 91 #[cv]) (hown : OwnC B w cv L) (hBw : B ≤ w.heap.size) (hlB : B ≤ lb) (hI : ImpsAt S w nv ns) (hn : ns.length ≤ 1000) (hL : L.length ≤ 100000) :
    Calls Tryz.prog 71 #[.string ow, nv, .pointer (some ⟨lb, 0, none⟩)] w fun e w' => e = .returned (.tuple #[]) ∧ (∃ cv', Blk w' lb 91 #[cv'] ∧ OwnC B w' cv' (L ++ ns.map fun m => ⟨ow, m⟩)) ∧ Below B w w' ∧ KeepsX w w' := by
  obtain ⟨na, nc, hnv⟩ := hI.shape
  subst hnv
  have HI : Hid (ImpsAt S w (.slice na ns.length nc) ns) := hI
  have HS : Hid _ := hS
  have HB0 : Hid _ := hbk
  have HO0 : Hid (OwnC B w cv L) := hown
  clear hI hS hbk hown
  have hn' : (ns.length : Int) ≤ 1000 := by omega
  go_enter Tryz.func71, Tryz.ntmps71
  go_wp2_with fail
  go_loopw [9] (fun i9 wr => ∃ (k : Nat) (cv' : Value), i9 = .int .i64 (k : Int) ∧ k ≤ ns.length ∧ Blk wr lb 91 #[cv'] ∧ OwnC B wr cv' (L ++ (ns.take k).map fun m => ⟨ow, m⟩) ∧ Below B w wr ∧ KeepsX w wr) (fun i9 _ => ns.length - (intOf i9).toNat)
  case atStart => exact ⟨0, cv, rfl, by omega, HB0.out, by simpa using HO0.out, Below.refl _ _, fun _ _ _ _ _ h => h⟩
  case round =>
    obtain ⟨k, cv', rfl, hk, hbk, hown, hb, hkx⟩ := hrel
    have HKX : Hid _ := hkx
    clear hkx
    have hBr : B ≤ wr.heap.size := Nat.le_trans hBw hb.size
    by_cases hkn : k < ns.length
    · have hkn' : (k : Int) < (ns.length : Int) := by omega
      obtain ⟨_, na', nc', hnv, hnc⟩ := (show ImpsAt S w (.slice na ns.length nc) ns from HI.out)
      simp only [Value.slice.injEq] at hnv
      obtain ⟨rfl, -, rfl⟩ := hnv
      obtain ⟨b, off, rfl, hbS, hcell⟩ := hnc (by omega)
      obtain ⟨x1, x2, x3⟩ := hcell k hkn
      have hbB := HS.out b hbS
      have d1 := (hb.cell (p := ⟨b, off + k * 3, none⟩) hbB).trans x1
      have d2 := (hb.cell (p := ⟨b, off + k * 3 + 1, none⟩) hbB).trans x2
      have d3 := (hb.cell (p := ⟨b, off + k * 3 + 2, none⟩) hbB).trans x3
      have htk : (L ++ (ns.take (k + 1)).map fun m => (⟨ow, m⟩ : Cl)) = (L ++ (ns.take k).map fun m => (⟨ow, m⟩ : Cl)) ++ [⟨ow, ns[k]⟩] := by rw [List.take_succ_eq_append_getElem hkn, List.map_append, List.append_assoc]; rfl
      have hll : (L ++ (ns.take k).map fun m => (⟨ow, m⟩ : Cl)).length ≤ 101000 := by simp; omega
      obtain ⟨x, hx⟩ : ∃ x, ns[k] = x := ⟨_, rfl⟩
      rw [hx] at d1 d2 d3 htk
      have HTK : Hid _ := htk
      clear hx hcell x1 x2 x3 hnc htk
      obtain ⟨nm, mn, mx⟩ := x
      dsimp only at d1 d2 d3
      obtain ⟨M, hM⟩ : ∃ M, (L ++ (ns.take k).map fun m => (⟨ow, m⟩ : Cl)) = M := ⟨_, rfl⟩
      rw [hM] at hown hll
      have HM : Hid _ := hM
      clear hM
      have bA : Below wr.heap.size wr (wr.alloc (.cells #[.string nm, .int .i64 mn, .int .i64 mx] 61)) := (Below.refl _ wr).alloc (Nat.le_refl _) _
      have hbA := hbk.below bA
      have e0 := hbA.cell 0
      simp at e0
      obtain ⟨ca, cc, hcv, _⟩ := hown.value
      subst hcv
      have HBA : Hid _ := hbA
      have HOW : Hid (OwnC B (wr.alloc (.cells #[.string nm, .int .i64 mn, .int .i64 mx] 61)) (.slice ca M.length cc) M) := OwnC.below hown bA
      clear hbk hown hbA
      go_wp2_with (at_builtin; go_must (refine wpList_appendC rfl (.tmp 13) (.tmp 17) rfl B (.slice ca M.length cc) M rfl (OwnC.below HOW.out ((Below.refl _ _).alloc (Nat.le_refl _) _)) ⟨wr.heap.size + 1, 0, none⟩ ⟨ow, ⟨nm, mn, mx⟩⟩ rfl (by have := cl_new (wr.alloc (.cells #[.string nm, .int .i64 mn, .int .i64 mx] 61)) ow nm mn mx; rwa [World.size_alloc] at this) (by omega) (by simp only [World.size_alloc]; omega) ?_; intro va vn vc w8 hown8 hB8 hgr8; have r8 := (Blk.below HBA.out ((Below.refl _ _).alloc (Nat.le_refl _) (.cells #[.string ow, .string nm, .int .i64 mn, .int .i64 mx] 94))).kept hgr8 (row_blk (by decide) (OwnC.below HOW.out ((Below.refl _ _).alloc (Nat.le_refl _) (.cells #[.string ow, .string nm, .int .i64 mn, .int .i64 mx] 94))) (Blk.below HBA.out ((Below.refl _ _).alloc (Nat.le_refl _) (.cells #[.string ow, .string nm, .int .i64 mn, .int .i64 mx] 94)))); have l8 := r8.cell 0; have f8 := r8.fro 0; simp at l8; have R8 : Hid _ := r8; have O8 : Hid (OwnC B w8 (.slice va vn vc) (M ++ [⟨ow, ⟨nm, mn, mx⟩⟩])) := hown8; clear r8 hown8))
      have g8 := set_grown w8 lb 0 (.slice va vn vc)
      have b2 := hb.trans (bA.mono hBr)
      have b8 : Below B w w8 := (b2.alloc (Nat.le_trans hBw b2.size) _).trans hB8
      refine ⟨⟨k + 1, _, rfl, by omega, Blk.set R8.out 0 _, ?_, b8.setCell hlB _, fun g ty cs h1 h2 hg => ?_⟩, by simp [intOf]; omega⟩
      · rw [HTK.out, HM.out]
        exact OwnC.kept O8.out g8 (.inr (fun e => row_blk (by decide) O8.out R8.out e.symm))
      · have k1 := ((HKX.out g ty cs h1 h2 hg).below bA).below ((Below.refl _ _).alloc (Nat.le_refl _) (.cells #[.string ow, .string nm, .int .i64 mn, .int .i64 mx] 94))
        have k2 := k1.kept hgr8 (row_blk (fun e => h2 e.symm) (OwnC.below HOW.out ((Below.refl _ _).alloc (Nat.le_refl _) (.cells #[.string ow, .string nm, .int .i64 mn, .int .i64 mx] 94))) k1)
        refine k2.kept g8 (fun e => ?_)
        have e1 : g = lb := Option.some.inj e
        subst e1
        have h3 : Blk w8 g 91 _ := R8.out
        unfold Blk at h3 k2
        rw [k2] at h3
        simp only [Option.some.injEq, Obj.cells.injEq] at h3
        exact h1 h3.2.1
    · obtain rfl : k = ns.length := by omega
      have hkn' : ¬ ((ns.length : Int) < (ns.length : Int)) := by omega
      rw [List.take_length] at hown
      go_wp2_with fail
      go_end0
      exact ⟨rfl, ⟨cv', hbk, hown⟩, hb, HKX.out⟩
end Go.Proofs.YthgjdcomanabiaaGreatDoor

namespace Go.Proofs.YthgjdcomanabiaaGreatDoor
open Go.ChangeShapes Go.WideShapes Go.ChangeAt Go.RowKit
set_option linter.unusedVariables false

theorem claims_succ {nf : Pk → List Imp} {ws : List Imp} {P : List Pk} {k : Nat} (hk : k < P.length) : claimsOf nf ws (P.take (k + 1)) = claimsOf nf ws (P.take k) ++ (nf P[k]).map fun m => ⟨P[k].name, m⟩ := by
  unfold claimsOf
  rw [List.take_succ_eq_append_getElem hk, List.flatMap_append, List.append_assoc]
  simp
theorem claims_len {R : List Pk} {nf : Pk → List Imp} {ws : List Imp} (hw : ws.length ≤ 21) (hn : ∀ p ∈ R, (nf p).length ≤ 20) {P : List Pk} (hP : ∀ p ∈ P, p ∈ R) : ∀ k, k ≤ P.length → (claimsOf nf ws (P.take k)).length ≤ 21 + 20 * k := by
  intro k
  induction k with
  | zero =>
    intro _
    simp only [claimsOf, List.take_zero, List.flatMap_nil, List.append_nil, List.length_map]
    omega
  | succ k ih =>
    intro hk
    have hk' : k < P.length := by omega
    rw [claims_succ hk', List.length_append, List.length_map]
    have h1 := ih (by omega)
    have h3 := hn _ (hP _ (List.getElem_mem hk'))
    omega

set_option maxRecDepth 100000 in
set_option maxHeartbeats 4000000 in
theorem implClaims {S : Nat → Prop} {B Bp : Nat} {w : World} {sv pv : Value} {R : List Pk} {nf : Pk → List Imp} {ws : List Imp} {P : List Pk} (hS : ∀ b, S b → b < w.heap.size) (h : ShelfAt S B w sv R nf ws) (hg : Good R nf ws) (hP : OwnP Bp w pv P) (hPR : ∀ p ∈ P, p ∈ R) (hPl : P.length ≤ 200) :
    Calls Tryz.prog 50 #[sv, pv] w fun e w' => (∃ q CL, e = .returned q ∧ SortedC (claimsOf nf ws P) CL ∧ OwnC w.heap.size w' q CL) ∧ Below w.heap.size w w' := by
  have hmf : ∀ (fn : Fn) (first cap : Array Value) (w : World), (Instr.makeFunc fn first cap).run Tryz.prog w = .ok (.func fn first cap) w := fun _ _ _ _ => rfl
  obtain ⟨rv, mb, wv, f, n, rfl, h2, h3, h4, h5⟩ := h
  obtain ⟨ra, rc, hrv, _⟩ := h2.value
  obtain ⟨wa, wc, hwv⟩ := h4.shape
  subst hrv hwv
  obtain ⟨pa, pc, hpv, hcp⟩ := hP.value
  subst hpv
  have hwl := hg.wish
  have hul := claims_len (nf := nf) hg.wish hg.needs hPR
  have HUL : Hid _ := hul
  have HGN : Hid _ := hg.needs
  have HS : Hid _ := hS
  have H3 : Hid _ := h3
  have H4 : Hid _ := h4
  have H5 : Hid _ := h5
  have HCP : Hid _ := hcp
  have HPR : Hid _ := hPR
  have hPl' : (P.length : Int) ≤ 200 := by omega
  obtain ⟨W0, hW0⟩ : ∃ W0, (w.alloc (.cells #[.slice ra R.length rc, .map (some mb), .slice wa ws.length wc] 68)).alloc (.cells #[.slice none 0 0] 91) = W0 := ⟨_, rfl⟩
  have hb0 : Below w.heap.size w W0 := by rw [← hW0]; exact ((Below.refl _ w).alloc (Nat.le_refl _) _).alloc (by simp) _
  have k1 : Blk W0 w.heap.size 68 #[.slice ra R.length rc, .map (some mb), .slice wa ws.length wc] := by
    rw [← hW0]
    exact Blk.below (show Blk (w.alloc (.cells #[.slice ra R.length rc, .map (some mb), .slice wa ws.length wc] 68)) w.heap.size 68 _ from heap_alloc_last w _) ((Below.refl _ _).alloc (Nat.le_refl _) _)
  have k2 : Blk W0 (w.heap.size + 1) 91 #[.slice none 0 0] := by
    rw [← hW0]
    have := heap_alloc_last (w.alloc (.cells #[.slice ra R.length rc, .map (some mb), .slice wa ws.length wc] 68)) (.cells #[.slice none 0 0] 91)
    rwa [World.size_alloc] at this
  have ca := implAdd (S := S) (B := w.heap.size) (w := W0) (lb := w.heap.size + 1) (L := []) (ow := ⟨#[]⟩) hS k2 ⟨rfl, .inl ⟨rfl, rfl⟩⟩ hb0.size (by omega) (h4.keep (cells_below hS hb0)) (by omega) (by simp)
  rw [← hW0] at ca
  have HK1 : Hid (Blk W0 w.heap.size 68 #[.slice ra R.length rc, .map (some mb), .slice wa ws.length wc]) := k1
  have HB0 : Hid (Below w.heap.size w W0) := hb0
  have HW0 : Hid _ := hW0
  clear h2 h3 h4 h5 hcp hPR hg hS hP hul k1 k2 hb0 hW0
  go_enter Tryz.func50, Tryz.ntmps50
  go_wp2_with (go_at_call 71; go_must (refine ca.mono ?_; rintro e w1 ⟨rfl, ⟨cv1, hbk1, hown1⟩, hb1, hkx1⟩))
  rw [HW0.out] at hb1 hkx1
  have hbw1 := HB0.out.trans hb1
  have hsh1 := hkx1 _ _ _ (by decide) (by decide) HK1.out
  have HO1 : Hid (OwnC w.heap.size w1 cv1 (claimsOf nf ws (P.take 0))) := (show OwnC w.heap.size w1 cv1 (claimsOf nf ws (P.take 0)) from by simpa [claimsOf] using hown1)
  have HBK1 : Hid _ := hbk1
  have HSH1 : Hid _ := hsh1
  clear hown1 hbk1 hsh1 hkx1
  go_loopw [16] (fun i16 wr => ∃ (k : Nat) (cv' : Value), i16 = .int .i64 (k : Int) ∧ k ≤ P.length ∧ Blk wr (w.heap.size + 1) 91 #[cv'] ∧ OwnC w.heap.size wr cv' (claimsOf nf ws (P.take k)) ∧ Blk wr w.heap.size 68 #[.slice ra R.length rc, .map (some mb), .slice wa ws.length wc] ∧ Below w.heap.size w wr) (fun i16 _ => P.length - (intOf i16).toNat)
  case atStart => exact ⟨0, cv1, rfl, by omega, HBK1.out, HO1.out, HSH1.out, hbw1⟩
  case round =>
    obtain ⟨k, cv', rfl, hk, hbk, hown, hsh, hb⟩ := hrel
    have hulk := HUL.out k hk
    by_cases hkn : k < P.length
    · have hkn' : (k : Int) < (P.length : Int) := by omega
      obtain ⟨g, rfl, hcell⟩ := HCP.out (by omega)
      obtain ⟨x1, x2⟩ := hcell k hkn
      have hgw := cell_lt' x1
      have d1 := (hb.cell (p := ⟨g, k * 2, none⟩) hgw).trans x1
      have d2 := (hb.cell (p := ⟨g, k * 2 + 1, none⟩) hgw).trans x2
      have hiR := HPR.out P[k] (List.getElem_mem hkn)
      have husc := claims_succ (nf := nf) (ws := ws) hkn
      obtain ⟨x, hx⟩ : ∃ x, P[k] = x := ⟨_, rfl⟩
      rw [hx] at d1 d2 hiR husc
      clear hx hcell x1 x2
      obtain ⟨xn, xv⟩ := x
      dsimp only at d1 d2 hiR husc
      obtain ⟨kl, hkl, hI⟩ := H5.out _ hiR
      have hnl := HGN.out _ hiR
      obtain ⟨na, nc, hnv⟩ := hI.shape
      unfold pkVal at hkl
      dsimp only at hkl
      have bA : Below wr.heap.size wr (wr.alloc (.cells #[.string xn, .int .i64 xv] 74)).drew := ((Below.refl _ wr).alloc (Nat.le_refl _) _).drew
      have bAW := good_below hb bA
      have hlk := (NeedsAt.below H3.out bAW).look hkl
      have ca2 := implAdd (S := S) (B := w.heap.size) (lb := w.heap.size + 1) (ow := xn) HS.out (hbk.below bA) (hown.below bA) bAW.size (by omega) (hI.keep (cells_below HS.out bAW)) (by omega) (by omega)
      have b67 : Blk (wr.alloc (.cells #[.string xn, .int .i64 xv] 74)) wr.heap.size 74 #[.string xn, .int .i64 xv] := heap_alloc_last wr _
      have s61 : Blk (wr.alloc (.cells #[.string xn, .int .i64 xv] 74)) w.heap.size 68 #[.slice ra R.length rc, .map (some mb), .slice wa ws.length wc] := hsh.below ((Below.refl _ wr).alloc (Nat.le_refl _) _)
      have e1 := s61.cell 1
      simp at e1
      have kp : ∀ w', KeepsX (wr.alloc (.cells #[.string xn, .int .i64 xv] 74)).drew w' → w'.cell? ⟨w.heap.size, 1, none⟩ = some (.map (some mb)) ∧ w'.cell? ⟨wr.heap.size, 0, none⟩ = some (.string xn) ∧ w'.cell? ⟨wr.heap.size, 1, none⟩ = some (.int .i64 xv) := fun w' hK =>
        ⟨(hK _ _ _ (by decide) (by decide) s61).cell 1, (hK _ _ _ (by decide) (by decide) b67).cell 0, (hK _ _ _ (by decide) (by decide) b67).cell 1⟩
      have KP : Hid _ := kp
      have HUS : Hid _ := husc
      have HS61 : Hid _ := s61
      rw [hnv] at hlk ca2
      obtain ⟨NL, hNL⟩ : ∃ NL, (nf ⟨xn, xv⟩).length = NL := ⟨_, rfl⟩
      rw [hNL] at ca2 hlk
      clear kp husc hNL hnv hkl hI hiR hnl hbk hown hsh b67 s61
      go_upto_region 7 with fail
      go_region_held3 (fun w' => w'.cell? ⟨w.heap.size, 1, none⟩ = some (.map (some mb)) ∧ w'.cell? ⟨wr.heap.size, 0, none⟩ = some (.string xn) ∧ w'.cell? ⟨wr.heap.size, 1, none⟩ = some (.int .i64 xv)) (first | go_keep | exact KP.out _ hkx5) (first | (go_at_call 71; refine ca2.mono ?_; rintro e w5 ⟨rfl, ⟨cv5, hbk5, hown5⟩, hb5, hkx5⟩))
      all_goals go_wp2_with fail
      all_goals
        refine ⟨⟨k + 1, cv5, rfl, by omega, hbk5, ?_, hkx5 _ _ _ (by decide) (by decide) HS61.out, bAW.trans hb5⟩, by simp [intOf]; omega⟩
        rw [HUS.out]
        exact hown5
    · obtain rfl : k = P.length := by omega
      have hkn' : ¬ ((P.length : Int) < (P.length : Int)) := by omega
      rw [List.take_length] at hown hulk
      have cs := implSortTwoC hown hb.size (by omega)
      obtain ⟨ca6, cc6, hv6, _⟩ := hown.value
      subst hv6
      have e0 := hbk.cell 0
      simp at e0
      have HBK : Hid _ := hbk
      have HOW : Hid (OwnC w.heap.size wr (.slice ca6 (claimsOf nf ws P).length cc6) (claimsOf nf ws P)) := hown
      clear hbk hown hsh
      go_wp2_with (go_at_call 72; go_must (refine cs.mono ?_; rintro e w5 ⟨rfl, ⟨CL, hso, hoC⟩, ⟨w6, hb6, hgr⟩, hb5⟩; have HB5 := (Blk.below HBK.out hb6).kept hgr (row_blk (by decide) (OwnC.below HOW.out hb6) (Blk.below HBK.out hb6)); have y0 := HB5.cell 0; simp at y0; clear HB5))
      go_ret
      first | exact ⟨⟨CL, hso, hoC⟩, hb.trans hb5⟩ | exact ⟨⟨_, CL, rfl, hso, hoC⟩, hb.trans hb5⟩
end Go.Proofs.YthgjdcomanabiaaGreatDoor

namespace Go.Proofs.YthgjdcomanabiaaGreatDoor
open Go.ChangeShapes Go.WideShapes Go.ChangeAt Go.RowKit
set_option linter.unusedVariables false

theorem find_at {f : Cl → Bool} : ∀ (l : List Cl) (k : Nat) (hk : k < l.length), (∀ j (hj : j < l.length), j < k → f l[j] = false) → f l[k] = true → l.find? f = some l[k]
  | [], k, hk, _, _ => by simp at hk
  | a :: l, 0, _, _, h => by simp only [List.getElem_cons_zero] at h ⊢; exact List.find?_cons_of_pos h
  | a :: l, k + 1, hk, h1, h => by
    have ha := h1 0 (by simp) (by omega)
    simp only [List.getElem_cons_zero] at ha
    rw [List.find?_cons_of_neg (by simp [ha])]
    simp only [List.getElem_cons_succ] at h ⊢
    exact find_at l k (by simpa using hk) (fun j hj hjk => by have := h1 (j + 1) (by simpa using hj) (by omega); simpa using this) h
theorem find_no {f : Cl → Bool} {l : List Cl} (h : ∀ j (hj : j < l.length), f l[j] = false) : l.find? f = none := by
  rw [List.find?_eq_none]
  intro c hc
  obtain ⟨j, hj, rfl⟩ := List.getElem_of_mem hc
  rw [h j hj]; simp
def told : Option Cl → List ByteArray
  | some c => [c.owner, c.need.name]
  | none => []
/-- The versions so far, by their names' keys. -/
def Vers (f : Lit → Int) (P : List Pk) : Prop := ∀ t, f (textKey t) = verF P t
theorem Vers.put {f : Lit → Int} {P : List Pk} (h : Vers f P) (p : Pk) : Vers (upd f (textKey p.name) p.ver) (P ++ [p]) := by
  intro t
  rw [verF_snoc]
  by_cases e : p.name = t
  · subst e; rw [if_pos rfl, upd_same (by exact trivial)]
  · rw [if_neg e, upd_other (fun h => e (textKey_inj h).symm), h t]

set_option maxRecDepth 100000 in
set_option maxHeartbeats 4000000 in
theorem implBroken {S : Nat → Prop} {B Bp : Nat} {w : World} {sv pv : Value} {R : List Pk} {nf : Pk → List Imp} {ws : List Imp} {P : List Pk} (hS : ∀ b, S b → b < w.heap.size) (h : ShelfAt S B w sv R nf ws) (hg : Good R nf ws) (hP : OwnP Bp w pv P) (hPR : ∀ p ∈ P, p ∈ R) (hPl : P.length ≤ 200)
    (hpz : ∀ p ∈ P, p.name.size ≤ 1048576 ∧ 0 ≤ p.ver ∧ p.ver ≤ 999999) (hcz : ∀ c ∈ claimsOf nf ws P, c.need.name.size ≤ 1048576) :
    Calls Tryz.prog 64 #[sv, pv] w fun e w' => (∃ q CL, e = .returned q ∧ SortedC (claimsOf nf ws P) CL ∧ OwnS w.heap.size w' q (told (CL.find? (badB P)))) ∧ Below w.heap.size w w' := by
  have hmm := @run_makeMap Tryz.prog
  have cC := fun (W : World) (hW : Below w.heap.size w W) => implClaims (w := W) (fun b hb => Nat.lt_of_lt_of_le (hS b hb) hW.size) (h.below hS hW) hg (hP.below hW) hPR hPl
  have hcl := claims_len (nf := nf) hg.wish hg.needs hPR P.length (Nat.le_refl _)
  rw [List.take_length] at hcl
  obtain ⟨rv, mb, wv, f, n, rfl, h2, h3, h4, h5⟩ := h
  obtain ⟨ra, rc, hrv, _⟩ := h2.value
  obtain ⟨wa, wc, hwv⟩ := h4.shape
  subst hrv hwv
  obtain ⟨pa, pc, hpv, hcp⟩ := hP.value
  subst hpv
  have HCC : Hid _ := cC
  have HCP : Hid _ := hcp
  have HPZ : Hid _ := hpz
  have HCZ : Hid _ := hcz
  have HCL : Hid _ := hcl
  have hPl' : (P.length : Int) ≤ 200 := by omega
  obtain ⟨W0, hW0⟩ : ∃ W0, (w.alloc (.cells #[.slice ra R.length rc, .map (some mb), .slice wa ws.length wc] 68)).alloc (.map #[] 0) = W0 := ⟨_, rfl⟩
  have hb0 : Below w.heap.size w W0 := by rw [← hW0]; exact ((Below.refl _ w).alloc (Nat.le_refl _) _).alloc (by simp) _
  have k1 : Blk W0 w.heap.size 68 #[.slice ra R.length rc, .map (some mb), .slice wa ws.length wc] := by
    rw [← hW0]
    exact Blk.below (show Blk (w.alloc (.cells #[.slice ra R.length rc, .map (some mb), .slice wa ws.length wc] 68)) w.heap.size 68 _ from heap_alloc_last w _) ((Below.refl _ _).alloc (Nat.le_refl _) _)
  have k2 : Counts W0 9 (w.heap.size + 1) 0 (fun _ => 0) := by
    rw [← hW0]
    have := Counts.made (w.alloc (.cells #[.slice ra R.length rc, .map (some mb), .slice wa ws.length wc] 68)) 9
    rwa [World.size_alloc] at this
  have HK1 : Hid (Blk W0 w.heap.size 68 #[.slice ra R.length rc, .map (some mb), .slice wa ws.length wc]) := k1
  have HK2 : Hid (Counts W0 9 (w.heap.size + 1) 0 (fun _ => 0)) := k2
  have HB0 : Hid (Below w.heap.size w W0) := hb0
  have HW0 : Hid _ := hW0
  clear cC h2 h3 h4 h5 hcp hPR hg hS hP hpz hcz hcl k1 k2 hb0 hW0
  go_enter Tryz.func64, Tryz.ntmps64
  go_wp2_with fail
  go_loopw [13] (fun i13 wr => ∃ (k : Nat) (f : Lit → Int), i13 = .int .i64 (k : Int) ∧ k ≤ P.length ∧ Counts wr 9 (w.heap.size + 1) k f ∧ Vers f (P.take k) ∧ Blk wr w.heap.size 68 #[.slice ra R.length rc, .map (some mb), .slice wa ws.length wc] ∧ Below w.heap.size w wr) (fun i13 _ => P.length - (intOf i13).toNat)
  case atStart =>
    rw [HW0.out]
    exact ⟨0, _, rfl, by omega, HK2.out, fun t => by simp [verF], HK1.out, HB0.out⟩
  case round =>
    obtain ⟨k, f, rfl, hk, hcn, hve, hsh, hb⟩ := hrel
    by_cases hkn : k < P.length
    · have hkn' : (k : Int) < (P.length : Int) := by omega
      obtain ⟨g, rfl, hcell⟩ := HCP.out (by omega)
      obtain ⟨x1, x2⟩ := hcell k hkn
      have hgw := cell_lt' x1
      have d1 := (hb.cell (p := ⟨g, k * 2, none⟩) hgw).trans x1
      have d2 := (hb.cell (p := ⟨g, k * 2 + 1, none⟩) hgw).trans x2
      have hz := HPZ.out P[k] (List.getElem_mem hkn)
      have htk : P.take (k + 1) = P.take k ++ [P[k]] := List.take_succ_eq_append_getElem hkn
      obtain ⟨x, hx⟩ : ∃ x, P[k] = x := ⟨_, rfl⟩
      rw [hx] at d1 d2 hz htk
      clear hx hcell x1 x2
      obtain ⟨xn, xv⟩ := x
      dsimp only at d1 d2 hz
      obtain ⟨hz1, hz2, hz3⟩ := hz
      have hkey : keyOf Tryz.prog 9 (.string xn) = some (textKey xn) := key9 (by simp [maxLen]; omega)
      have bA : Below wr.heap.size wr (wr.alloc (.cells #[.string xn, .int .i64 xv] 74)) := (Below.refl _ wr).alloc (Nat.le_refl _) _
      have HCN : Hid (Counts (wr.alloc (.cells #[.string xn, .int .i64 xv] 74)) 9 (w.heap.size + 1) k f) := hcn.below bA
      have HVE : Hid _ := hve
      have HTK : Hid _ := htk
      have HKY : Hid _ := hkey
      have HSH : Hid _ := hsh.below bA
      have hbA := good_below hb bA
      clear hcn hve htk hkey hsh
      go_wp2_with (first
        | (at_mapUpdate; go_must (refine wpList_storeC _ rfl _ _ _ 90 rfl 9 law9 Tryz.underlying90 (w.heap.size + 1) k f rfl HCN.out (by simp [maxLen]; omega) _ xv _ rfl rfl HKY.out (WalkArith.wf_i64 (by omega)) ?_; intro w1 hc1 hg1; have HC1 : Hid _ := hc1; clear hc1)))
      have hbb := hbA.grown hg1 hbA.size (fun j hj => by cases hj; omega)
      refine ⟨⟨k + 1, _, rfl, by omega, HC1.out, ?_, Blk.kept HSH.out hg1 (by simp), hbb⟩, by simp [intOf]; omega⟩
      rw [HTK.out]; exact Vers.put HVE.out ⟨xn, xv⟩
    · obtain rfl : k = P.length := by omega
      have hkn' : ¬ ((P.length : Int) < (P.length : Int)) := by omega
      rw [List.take_length] at hve
      have cc := HCC.out wr hb
      have e0 := hsh.cell 0
      have e1 := hsh.cell 1
      have e2 := hsh.cell 2
      simp at e0 e1 e2
      have HCN : Hid (Counts wr 9 (w.heap.size + 1) P.length f) := hcn
      have HVE : Hid _ := hve
      clear hcn hve hsh
      go_wp2_with (go_at_call 50; go_must (refine cc.mono ?_; rintro e w5 ⟨⟨q5, CL, rfl, hso, hoC⟩, hb5⟩; obtain ⟨ca, cc5, hv5, hcc⟩ := hoC.value; subst hv5))
      have hbw5 := good_below hb hb5
      have HC5 : Hid (Counts w5 9 (w.heap.size + 1) P.length f) := Counts.below HCN.out hb5
      have hCLl : CL.length ≤ 5000 := by rw [hso.perm.length_eq]; have := HCL.out; omega
      have hCLl' : (CL.length : Int) ≤ 5000 := by omega
      have hcz : ∀ c ∈ CL, c.need.name.size ≤ 1048576 := fun c hc => HCZ.out c (hso.perm.mem_iff.1 hc)
      have HCZ2 : Hid _ := hcz
      have HSO : Hid _ := hso
      have HCC2 : Hid _ := hcc
      clear hso hoC hcc hcz
      go_loopw [27] (fun i27 wr => ∃ (k : Nat), i27 = .int .i64 (k : Int) ∧ k ≤ CL.length ∧ (∀ j (hj : j < CL.length), j < k → badB P CL[j] = false) ∧ Below w5.heap.size w5 wr) (fun i27 _ => CL.length - (intOf i27).toNat)
      case atStart => exact ⟨0, rfl, by omega, fun j _ h => by omega, Below.refl _ _⟩
      case round =>
        obtain ⟨k, rfl, hk2, hno, hbr⟩ := hrel
        have HNO : Hid _ := hno
        clear hno
        have hbwr := good_below hbw5 hbr
        by_cases hkn : k < CL.length
        · have hkn2 : (k : Int) < (CL.length : Int) := by omega
          obtain ⟨g, rfl, _, hgw, hcell⟩ := HCC2.out (by omega)
          obtain ⟨x1, x2, x3, x4⟩ := hcell k hkn
          have d1 := (hbr.cell (p := ⟨g, k * 4, none⟩) hgw).trans x1
          have d2 := (hbr.cell (p := ⟨g, k * 4 + 1, none⟩) hgw).trans x2
          have d3 := (hbr.cell (p := ⟨g, k * 4 + 2, none⟩) hgw).trans x3
          have d4 := (hbr.cell (p := ⟨g, k * 4 + 3, none⟩) hgw).trans x4
          have hz := HCZ2.out CL[k] (List.getElem_mem hkn)
          have hfa := fun h => find_at (f := badB P) CL k hkn HNO.out h
          have hno2 : badB P CL[k] = false → ∀ j (hj : j < CL.length), j < k + 1 → badB P CL[j] = false := fun h j hj hjk => by
            by_cases e : j = k
            · subst e; exact h
            · exact HNO.out j hj (by omega)
          obtain ⟨x, hx⟩ : ∃ x, CL[k] = x := ⟨_, rfl⟩
          rw [hx] at d1 d2 d3 d4 hz hfa hno2
          clear hx hcell x1 x2 x3 x4
          obtain ⟨ow, nm, mn, mx⟩ := x
          dsimp only at d1 d2 d3 d4 hz
          have hkey : keyOf Tryz.prog 9 (.string nm) = some (textKey nm) := key9 (by simp [maxLen]; omega)
          have bA : Below wr.heap.size wr (wr.alloc (.cells #[.string ow, .string nm, .int .i64 mn, .int .i64 mx] 94)) := (Below.refl _ wr).alloc (Nat.le_refl _) _
          have HCN2 : Hid (Counts (wr.alloc (.cells #[.string ow, .string nm, .int .i64 mn, .int .i64 mx] 94)) 9 (w.heap.size + 1) P.length f) := (Counts.below HC5.out hbr).below bA
          have hlk := (Counts.look HCN2.out law9 Tryz.underlying90 hkey).1
          have hV := HVE.out nm
          obtain ⟨V, hVV⟩ : ∃ V, verF P nm = V := ⟨_, rfl⟩
          rw [hVV] at hV
          rw [hV] at hlk
          have hbd : badB P ⟨ow, ⟨nm, mn, mx⟩⟩ = decide (mx < V) := by unfold badB; rw [← hVV]
          rw [hbd] at hfa hno2
          have HFA : Hid _ := hfa
          have HNO2 : Hid _ := hno2
          clear hV hVV hbd hfa hno2 hkey
          by_cases hmV : mx < V
          · go_wp2_with fail
            go_ret
            first | refine ⟨⟨_, CL, rfl, HSO.out, ?_⟩, ?_⟩ | refine ⟨⟨_, rfl, CL, HSO.out, ?_⟩, ?_⟩
            · rw [HFA.out (by simpa using hmV)]
              have h2o := two_own w.heap.size (wr.alloc (.cells #[.string ow, .string nm, .int .i64 mn, .int .i64 mx] 94)) (Nat.le_trans hbwr.size bA.size) ow nm
              rw [World.size_alloc] at h2o
              exact h2o
            · exact (good_below hbwr bA).alloc (good_below hbwr bA).size _
          · go_wp2_with fail
            exact ⟨⟨k + 1, rfl, by omega, HNO2.out (by simpa using hmV), good_below hbr bA⟩, by simp [intOf]; omega⟩
        · obtain rfl : k = CL.length := by omega
          have hkn2 : ¬ ((CL.length : Int) < (CL.length : Int)) := by omega
          go_wp2_with fail
          go_ret
          first | refine ⟨⟨_, CL, rfl, HSO.out, ?_⟩, hbwr⟩ | refine ⟨⟨_, rfl, CL, HSO.out, ?_⟩, hbwr⟩
          rw [find_no (fun j hj => HNO.out j hj hj)]
          exact ⟨rfl, .inl ⟨rfl, rfl⟩⟩
end Go.Proofs.YthgjdcomanabiaaGreatDoor

namespace Go.Proofs.YthgjdcomanabiaaGreatDoor
open Go.ChangeShapes Go.WideShapes Go.ChangeAt Go.RowKit
set_option linter.unusedVariables false

/-- What is right of a store and of wishes, of itself. -/
structure Fine (l : List Rel) (ws : List Imp) : Prop where
  len : l.length ≤ 200
  rel : ∀ r ∈ l, r.name ≠ ⟨#[]⟩ ∧ r.name.size ≤ 1048576 ∧ 0 ≤ r.ver ∧ r.ver ≤ 999999
  need : ∀ r ∈ l, ∀ m ∈ r.needs, 0 ≤ m.mx ∧ m.name.size ≤ 1048576
  wish : ∀ m ∈ ws, 0 ≤ m.mx ∧ m.name.size ≤ 1048576
  few : ∀ r ∈ l, r.needs.length ≤ 20
  fewW : ws.length ≤ 21
theorem lost_sz {l : List Rel} {R : List Pk} {nf : Pk → List Imp} {ws : List Imp} {T : List Sd} (hf : Fine l ws) (hs : Same l R nf) (h : Rows' R nf ws T) : ∀ t ∈ sortB (missAll R nf ws T), t.size ≤ 1048576 := by
  intro t ht
  rw [sortB_mem] at ht
  unfold missAll at ht
  rcases List.mem_append.1 ht with h1 | h1
  · obtain ⟨m, hm, _, rfl⟩ := miss_iff.1 h1
    exact (hf.wish m hm).2
  · obtain ⟨x, hx, h2⟩ := List.mem_flatMap.1 h1
    obtain ⟨m, hm, _, rfl⟩ := miss_iff.1 h2
    obtain ⟨r, hr, he⟩ := (hs.mem _).1 (h.mem x hx)
    rw [← he, hs.needs r hr] at hm
    exact (hf.need r hr m hm).2
theorem lost_len {l : List Rel} {R : List Pk} {nf : Pk → List Imp} {ws : List Imp} {T : List Sd} (hf : Fine l ws) (hs : Same l R nf) (h : Rows' R nf ws T) (hT : T.length ≤ 200) : (sortB (missAll R nf ws T)).length ≤ 100000 := by
  have h1 := sortB_len (missAll R nf ws T)
  have h2 := missUp_len (R := R) (nf := nf) (ws := ws) (T := T) hf.fewW (fun p hp => by obtain ⟨r, hr, rfl⟩ := (hs.mem p).1 hp; rw [hs.needs r hr]; exact hf.few r hr) h.mem T.length (Nat.le_refl _)
  rw [missUp_all] at h2
  omega
theorem picks_in {l : List Rel} {R : List Pk} {nf : Pk → List Imp} {ws : List Imp} (hs : Same l R nf) : ∀ p ∈ picksOf l (pickedOf l ws), p ∈ R := by
  intro p hp
  obtain ⟨⟨i, r, _, h2, h3⟩, _⟩ := (picks_mem l ws p).1 hp
  exact (hs.mem p).2 ⟨r, List.mem_of_getElem? h2, h3⟩
theorem picks_fine {l : List Rel} {ws : List Imp} (hf : Fine l ws) : ∀ p ∈ picksOf l (pickedOf l ws), p.name ≠ ⟨#[]⟩ ∧ p.name.size ≤ 1048576 ∧ 0 ≤ p.ver ∧ p.ver ≤ 999999 := by
  intro p hp
  obtain ⟨⟨i, r, _, h2, rfl⟩, _⟩ := (picks_mem l ws p).1 hp
  exact hf.rel r (List.mem_of_getElem? h2)
theorem picks_len (l : List Rel) (ws : List Imp) : (picksOf l (pickedOf l ws)).length ≤ l.length := by
  unfold picksOf
  rw [List.length_map]
  exact picked_len l _
theorem claims_sz {l : List Rel} {R : List Pk} {nf : Pk → List Imp} {ws : List Imp} (hf : Fine l ws) (hs : Same l R nf) : ∀ c ∈ claimsOf nf ws (picksOf l (pickedOf l ws)), c.owner.size ≤ 1048576 ∧ c.need.name.size ≤ 1048576 := by
  intro c hc
  unfold claimsOf at hc
  rcases List.mem_append.1 hc with h | h
  · obtain ⟨m, hm, rfl⟩ := List.mem_map.1 h
    exact ⟨Nat.zero_le _, (hf.wish m hm).2⟩
  · obtain ⟨p, hp, h⟩ := List.mem_flatMap.1 h
    obtain ⟨m, hm, rfl⟩ := List.mem_map.1 h
    obtain ⟨r, hr, he⟩ := (hs.mem p).1 (picks_in hs p hp)
    rw [← he, hs.needs r hr] at hm
    exact ⟨(picks_fine hf p hp).2.1, (hf.need r hr m hm).2⟩
/-- What is answered: names that are lost, the least claim that is passed, or the picks. -/
theorem choice_is {l : List Rel} {R : List Pk} {nf : Pk → List Imp} {ws : List Imp} {CL : List Cl} (hf : Fine l ws) (hs : Same l R nf) (hC : SortedC (claimsOf nf ws (picksOf l (pickedOf l ws))) CL) :
    choiceOf l ws = if lostOf l ws ≠ [] then (([], 7, lostOf l ws) : List Nat × Int × List ByteArray) else match CL.find? (badB (picksOf l (pickedOf l ws))) with
      | some c => ([], 9, [c.owner, c.need.name])
      | none => (pickedOf l ws, 0, []) := by
  have hb := broken_same (NS := pickedOf l ws) hs.needs (fun n hn => best_lt (marks_len l ws) n hn) (picks_rise l ws) (fun p hp => (picks_fine hf p hp).1) (fun m hm => (hf.wish m hm).1) (fun r hr m hm => (hf.need r hr m hm).1) hC
  unfold choiceOf finish
  by_cases hL : lostOf l ws ≠ []
  · rw [if_pos hL, if_pos hL]
  · rw [if_neg hL, if_neg hL]
    cases ho : overB (picksOf l (pickedOf l ws)) ws with
    | some t =>
      rw [ho] at hb
      dsimp only at hb ⊢
      rw [Option.map_eq_some_iff] at hb
      obtain ⟨c, hc, he⟩ := hb
      rw [hc]
      simp only [Prod.mk.injEq] at he
      dsimp only
      rw [he.1, he.2]
    | none =>
      rw [ho] at hb
      dsimp only at hb ⊢
      cases hfo : firstOver l (picksOf l (pickedOf l ws)) (pickedOf l ws) with
      | none =>
        rw [hfo, Option.map_eq_none_iff] at hb
        rw [hb]
      | some at' =>
        obtain ⟨a, t⟩ := at'
        rw [hfo, Option.map_eq_some_iff] at hb
        obtain ⟨c, hc, he⟩ := hb
        rw [hc]
        simp only [Prod.mk.injEq] at he
        dsimp only
        rw [he.1, he.2]
end Go.Proofs.YthgjdcomanabiaaGreatDoor

namespace Go.Proofs.YthgjdcomanabiaaGreatDoor
open Go.ChangeShapes Go.WideShapes Go.ChangeAt Go.RowKit
set_option linter.unusedVariables false

theorem told_nil {X : Option Cl} : (told X).length = 0 ↔ X = none := by cases X <;> simp [told]
set_option maxRecDepth 100000 in
set_option maxHeartbeats 4000000 in
theorem implChoice {S : Nat → Prop} {B : Nat} {w : World} {sv : Value} {R : List Pk} {nf : Pk → List Imp} {ws : List Imp} {l : List Rel} (hS : ∀ b, S b → b < w.heap.size) (h : ShelfAt S B w sv R nf ws) (hg : Good R nf ws) (hs : Same l R nf) (hf : Fine l ws) :
    Calls Tryz.prog 36 #[sv] w fun e w' => (∃ p q, e = .returned (.tuple #[p, .int .i64 (choiceOf l ws).2.1, q]) ∧ OwnP w.heap.size w' p (picksOf l (choiceOf l ws).1) ∧ OwnS w.heap.size w' q (choiceOf l ws).2.2) ∧ Below w.heap.size w w' := by
  obtain ⟨A, hA⟩ : ∃ A, choiceOf l ws = A := ⟨_, rfl⟩
  rw [hA]
  have HA : Hid (choiceOf l ws = A) := hA
  clear hA
  have c43 := fun (W : World) (hW : Below w.heap.size w W) => implRows (w := W) (fun b hb => Nat.lt_of_lt_of_le (hS b hb) hW.size) (h.below hS hW) hg
  have c44 := fun (W : World) (hW : Below w.heap.size w W) (lv : Value) (T : List Sd) (B : Nat) (hT : OwnT B W lv T) (hr : Rows' R nf ws T) (hTl : T.length ≤ 200) => implMissing (w := W) (fun b hb => Nat.lt_of_lt_of_le (hS b hb) hW.size) (h.below hS hW) hg hT hr.mem hTl
  have c47 := fun (W : World) (hW : Below w.heap.size w W) (pv : Value) (Bp : Nat) (hP : OwnP Bp W pv (picksOf l (pickedOf l ws))) => implBroken (w := W) (fun b hb => Nat.lt_of_lt_of_le (hS b hb) hW.size) (h.below hS hW) hg hP (picks_in hs) (Nat.le_trans (picks_len l ws) hf.len) (fun p hp => (picks_fine hf p hp).2) (fun c hc => (claims_sz hf hs c hc).2)
  obtain ⟨rv, mb, wv, f, n, rfl, h2, h3, h4, h5⟩ := h
  obtain ⟨ra, rc, hrv, _⟩ := h2.value
  obtain ⟨wa, wc, hwv⟩ := h4.shape
  subst hrv hwv
  have HC44 : Hid _ := c44
  have HC47 : Hid _ := c47
  have HS : Hid _ := hs
  have HF : Hid _ := hf
  have HG : Hid _ := hg.len
  have hbA : Below w.heap.size w (w.alloc (.cells #[.slice ra R.length rc, .map (some mb), .slice wa ws.length wc] 68)) := (Below.refl _ w).alloc (Nat.le_refl _) _
  have HB0 : Hid (Blk (w.alloc (.cells #[.slice ra R.length rc, .map (some mb), .slice wa ws.length wc] 68)) w.heap.size 68 #[.slice ra R.length rc, .map (some mb), .slice wa ws.length wc]) := (show Blk _ _ _ _ from heap_alloc_last w _)
  have c43' := c43 _ hbA
  clear c43 c44 c47 h2 h3 h4 h5 hs hf hg hS
  go_enter Tryz.func36, Tryz.ntmps36
  go_upto_region 3 with (first
    | (go_at_call 39; go_must (refine c43'.mono ?_; rintro e w1 ⟨⟨lv, T, rfl, hrow, hot⟩, hb1⟩; have hbw1 := good_below hbA hb1; have hTl : T.length ≤ 200 := Nat.le_trans (by have := nodup_le _ R hrow.once (fun x hx => by obtain ⟨y, hy, rfl⟩ := List.mem_map.1 hx; exact hrow.mem y hy); simpa using this) HG.out; have c44' := HC44.out w1 hbw1 lv T _ hot hrow hTl; have hbk := Blk.below HB0.out hb1; have k0 := hbk.cell 0; have k1 := hbk.cell 1; have k2 := hbk.cell 2; simp at k0 k1 k2; have HROW : Hid _ := hrow; have HOT : Hid _ := hot; have HBK : Hid _ := hbk; obtain ⟨la, lc, hlv, _⟩ := hot.value; subst hlv; clear hrow hot hbk))
    | (go_at_call 62; go_must (refine c44'.mono ?_; rintro e w2 ⟨⟨q2, rfl, hos2⟩, hb2⟩)))
  have hL := lost_same HS.out HROW.out
  have hLz := lost_sz HF.out HS.out HROW.out
  have hLl := lost_len HF.out HS.out HROW.out hTl
  rw [hL] at hos2 hLz hLl
  have hbw2 := good_below hbw1 hb2
  obtain ⟨L, hLL⟩ : ∃ L, lostOf l ws = L := ⟨_, rfl⟩
  rw [hLL] at hos2 hLz hLl
  have HLL : Hid (lostOf l ws = L) := hLL
  obtain ⟨qa, qc, hq2, _⟩ := hos2.value
  subst hq2
  have c45 := implOwnTexts hos2 hLl hLz
  clear hLL hL
  by_cases hL0 : L = []
  · subst hL0
    have c46 := implGreatest (OwnT.below HOT.out hb2) hTl
    have hbk2 := Blk.below HBK.out hb2
    clear c45 hLz hLl hos2
    go_upto_region 7 with (first
      | (go_at_call 63; go_must (refine c46.mono ?_; rintro e w3 ⟨⟨q3, A3, rfl, hso3, hop3⟩, hb3⟩; have hgs := greatest_same HS.out HROW.out hso3; rw [hgs] at hop3; have hbw3 := good_below hbw2 hb3; have c47' := HC47.out w3 hbw3 q3 _ hop3; have hbk3 := hbk2.below hb3; have m0 := hbk3.cell 0; have m1 := hbk3.cell 1; have m2 := hbk3.cell 2; simp at m0 m1 m2; have HOP3 : Hid _ := hop3; obtain ⟨pa, pc, hq3, _⟩ := hop3.value; subst hq3; clear hso3 hop3 hgs hbk3))
      | (go_at_call 64; go_must (refine c47'.mono ?_; rintro e w4 ⟨⟨q4, CL, rfl, hso4, hos4⟩, hb4⟩)))
    have hbw4 := good_below hbw3 hb4
    have hch := choice_is HF.out HS.out hso4
    have hcz : ∀ c ∈ CL, c.owner.size ≤ 1048576 ∧ c.need.name.size ≤ 1048576 := fun c hc => claims_sz HF.out HS.out c (hso4.perm.mem_iff.1 hc)
    rw [HA.out, HLL.out, if_neg (by simp)] at hch
    obtain ⟨X, hX⟩ : ∃ X, CL.find? (badB (picksOf l (pickedOf l ws))) = X := ⟨_, rfl⟩
    have hXm : ∀ c, X = some c → c ∈ CL := fun c hc => List.mem_of_find?_eq_some (hX.trans hc)
    rw [hX] at hch hos4
    obtain ⟨qa4, qc4, hq4, _⟩ := hos4.value
    subst hq4
    clear hX hso4
    cases X with
    | none =>
      dsimp only at hch
      subst hch
      have c48 := implOwnPicks (OwnP.below HOP3.out hb4) (Nat.le_trans (picks_len l ws) (by have := HF.out.len; omega)) (fun p hp => (picks_fine HF.out p hp).2.1)
      have htl : (told none).length = 0 := rfl
      clear hos4
      go_wp2_with (go_at_call 42; go_must (refine c48.mono ?_; rintro e w5 ⟨⟨p5, rfl, hop5⟩, hb5⟩))
      go_ret3
      exact ⟨⟨p5, _, rfl, OwnP.mono hop5 hbw4.size, ⟨rfl, .inl ⟨rfl, rfl⟩⟩⟩, good_below hbw4 hb5⟩
    | some c =>
      dsimp only at hch
      subst hch
      have c45 := implOwnTexts hos4 (by simp [told]) (fun s hs => by
        have := hcz c (hXm c rfl)
        simp only [told, List.mem_cons, List.not_mem_nil, or_false] at hs
        rcases hs with rfl | rfl
        · exact this.1
        · exact this.2)
      have htl : (told (some c)).length = 2 := rfl
      clear hos4 hcz hXm
      go_wp2_with (go_at_call 48; go_must (refine c45.mono ?_; rintro e w5 ⟨⟨p5, rfl, hop5⟩, hb5⟩))
      go_ret3
      exact ⟨⟨_, p5, rfl, ⟨rfl, .inl ⟨rfl, rfl⟩⟩, OwnS.mono hop5 hbw4.size⟩, good_below hbw4 hb5⟩
  · have hLp : (0 : Int) < (L.length : Int) := by
      cases L with
      | nil => exact absurd rfl hL0
      | cons a r => simp
    have hch : choiceOf l ws = ([], 7, L) := by
      unfold choiceOf finish
      rw [HLL.out, if_pos hL0]
    rw [HA.out] at hch
    subst hch
    clear hos2 hLz hLl
    go_wp2_with (go_at_call 48; go_must (refine c45.mono ?_; rintro e w5 ⟨⟨p5, rfl, hop5⟩, hb5⟩))
    go_ret3
    exact ⟨⟨_, p5, rfl, ⟨rfl, .inl ⟨rfl, rfl⟩⟩, OwnS.mono hop5 hbw2.size⟩, good_below hbw2 hb5⟩
end Go.Proofs.YthgjdcomanabiaaGreatDoor

namespace Go.Proofs.YthgjdcomanabiaaGreatDoor
open Go.ChangeShapes Go.WideShapes Go.ChangeAt Go.RowKit
set_option linter.unusedVariables false

/-- A name of ss, behind those of seen, has stood ahead. -/
def dupFrom : List ByteArray → List ByteArray → Bool
  | [], _ => false
  | x :: l, seen => if hasB seen x then true else dupFrom l (seen ++ [x])
/-- f holds 1 of each text of seen, 0 of all others. -/
def Seen (f : Lit → Int) (seen : List ByteArray) : Prop := ∀ t : ByteArray, f (textKey t) = if hasB seen t then 1 else 0
theorem Seen.nil : Seen (fun _ => 0) [] := fun t => by simp [hasB]
theorem hasB_snoc (seen : List ByteArray) (x t : ByteArray) : hasB (seen ++ [x]) t = (hasB seen t || decide (x = t)) := by
  unfold hasB
  rw [List.any_append]
  simp [beq_bytes]
theorem Seen.put {f : Lit → Int} {seen : List ByteArray} (h : Seen f seen) (x : ByteArray) : Seen (upd f (textKey x) 1) (seen ++ [x]) := by
  intro t
  by_cases e : t = x
  · subst e
    rw [upd_same (by exact trivial), hasB_snoc]
    simp
  · rw [upd_other (fun h => e (textKey_inj h)), h t]
    have e' : x ≠ t := fun h => e h.symm
    rw [hasB_snoc]
    simp [e']

set_option maxRecDepth 100000 in
set_option maxHeartbeats 1000000 in
theorem implTwice (ss : List ByteArray) (a : Option Addr) (cap : Nat) (w : World) (hlen : ss.length ≤ 1000000) (hsz : ∀ s ∈ ss, s.size ≤ 1048576)
    (hc : 0 < ss.length → ∃ g, a = some ⟨g, 0, none⟩ ∧ g < w.heap.size ∧ ∀ j (hj : j < ss.length), w.cell? ⟨g, j, none⟩ = some (.string ss[j])) :
    Calls Tryz.prog 82 #[.slice a ss.length cap] w fun e w' => (∃ t, e = .returned (.tuple #[.string t, .bool (dupFrom ss [])])) ∧ Below w.heap.size w w' := by
  have hmm := @run_makeMap Tryz.prog
  have HC : Hid _ := hc
  have hlen' : (ss.length : Int) ≤ 1000000 := by omega
  have HZ : Hid _ := hsz
  clear hc hsz
  obtain ⟨F, hF⟩ : ∃ F, dupFrom ss [] = F := ⟨_, rfl⟩
  rw [hF]
  have HF : Hid (dupFrom ss [] = F) := hF
  clear hF
  go_enter Tryz.func82, Tryz.ntmps82
  go_wp2_with fail
  go_loopw [10] (fun i10 wr => ∃ (k : Nat) (f : Lit → Int), i10 = .int .i64 (k : Int) ∧ k ≤ ss.length ∧ Counts wr 9 w.heap.size k f ∧ Seen f (ss.take k) ∧ dupFrom (ss.drop k) (ss.take k) = F ∧ Below w.heap.size w wr) (fun i10 _ => ss.length - (intOf i10).toNat)
  case atStart => exact ⟨0, _, rfl, by omega, Counts.made _ _, by simpa using Seen.nil, by simpa using HF.out, (Below.refl _ w).alloc (Nat.le_refl _) _⟩
  case round =>
    obtain ⟨k, f, rfl, hk, hcn, hse, hfr, hb⟩ := hrel
    by_cases hkn : k < ss.length
    · have hkn' : (k : Int) < (ss.length : Int) := by omega
      obtain ⟨g, rfl, hgw, hcell⟩ := HC.out (by omega)
      have x1 := hcell k hkn
      rw [List.drop_eq_getElem_cons hkn] at hfr
      have hz := HZ.out ss[k] (List.getElem_mem hkn)
      have htk : ss.take (k + 1) = ss.take k ++ [ss[k]] := List.take_succ_eq_append_getElem hkn
      obtain ⟨s, hs⟩ : ∃ s, ss[k] = s := ⟨_, rfl⟩
      rw [hs] at x1 hfr hz htk
      clear hs hcell
      have d1 := (hb.cell (p := ⟨g, k, none⟩) hgw).trans x1
      have hkey : keyOf Tryz.prog 9 (.string s) = some (textKey s) := key9 (by simp [maxLen]; omega)
      have hfs := hse s
      simp only [dupFrom] at hfr
      obtain ⟨B1, hB1⟩ : ∃ B1, hasB (ss.take k) s = B1 := ⟨_, rfl⟩
      rw [hB1] at hfr hfs
      have hlk := (hcn.look law9 Tryz.underlying90 hkey).1
      clear x1 hB1
      have HCN : Hid _ := hcn
      have HSE : Hid _ := hse
      have HFR : Hid _ := hfr
      have HTK : Hid _ := htk
      have HKY : Hid _ := hkey
      clear hcn hse hfr htk hkey
      cases B1
      · rw [if_neg (by simp)] at hfs
        rw [hfs] at hlk
        clear hfs
        go_wp2_with (first
          | (at_mapUpdate; go_must (refine wpList_storeC _ rfl _ _ _ 90 rfl 9 law9 Tryz.underlying90 w.heap.size k f rfl HCN.out (by simp [maxLen]; omega) _ 1 _ rfl rfl HKY.out (by decide) ?_; intro w1 hc1 hg1; have HC1 : Hid _ := hc1; clear hc1))
          | (at_lookup; have hchk := HC1; refine wpList_lookC _ rfl _ _ 90 rfl 9 law9 Tryz.underlying90 w.heap.size (k + 1) _ rfl HC1.out _ _ rfl HKY.out ?_; rw [upd_same (by exact trivial)]))
        have hbb := hb.grown hg1 hb.size (fun j hj => by cases hj; exact Nat.le_refl _)
        refine ⟨⟨k + 1, _, rfl, by omega, HC1.out, ?_, ?_, hbb⟩, by simp [intOf]; omega⟩
        · rw [HTK.out]; exact Seen.put HSE.out s
        · have := HFR.out
          rw [if_neg (by simp)] at this
          rw [HTK.out]; exact this
      · rw [if_pos rfl] at hfs
        rw [hfs] at hlk
        clear hfs
        have hF := HFR.out
        rw [if_pos rfl] at hF
        subst hF
        go_wp2_with (first
          | (at_mapUpdate; go_must (refine wpList_storeC _ rfl _ _ _ 90 rfl 9 law9 Tryz.underlying90 w.heap.size k f rfl HCN.out (by simp [maxLen]; omega) _ 2 _ rfl rfl HKY.out (by decide) ?_; intro w1 hc1 hg1; have HC1 : Hid _ := hc1; clear hc1))
          | (at_lookup; have hchk := HC1; refine wpList_lookC _ rfl _ _ 90 rfl 9 law9 Tryz.underlying90 w.heap.size (k + 1) _ rfl HC1.out _ _ rfl HKY.out ?_; rw [upd_same (by exact trivial)]))
        have hbb := hb.grown hg1 hb.size (fun j hj => by cases hj; exact Nat.le_refl _)
        go_ret2
        exact ⟨⟨_, rfl⟩, hbb⟩
    · have hkn' : ¬ ((k : Int) < (ss.length : Int)) := by omega
      rw [List.drop_eq_nil_of_le (by omega)] at hfr
      simp only [dupFrom] at hfr
      subst hfr
      go_wp2_with fail
      go_ret2
      exact ⟨⟨_, rfl⟩, hb⟩

theorem wishes_split (nameB : ByteArray → Bool) : ∀ (l : List Imp) (seen : List ByteArray), wishesFrom nameB l seen = (l.all (needB nameB) && !dupFrom (l.map Imp.name) seen)
  | [], seen => by simp [wishesFrom, dupFrom]
  | x :: l, seen => by
    simp only [wishesFrom, List.all_cons, List.map_cons, dupFrom]
    rw [wishes_split nameB l]
    cases needB nameB x <;> cases hasB seen x.name <;> simp

theorem cell_lt {w : World} {g j : Nat} {v : Value} (h : w.cell? ⟨g, j, none⟩ = some v) : g < w.heap.size := by
  cases hh : w.heap[g]? with
  | none => simp [World.cell?, hh] at h
  | some o => exact (Array.getElem?_eq_some_iff.1 hh).1

set_option maxRecDepth 100000 in
set_option maxHeartbeats 1000000 in
theorem implWishes {S : Nat → Prop} {l : List Imp} {v : Value} {w : World} (hS : ∀ b, S b → b < w.heap.size) (h : ImpsAt S w v l) (hsz : ∀ x ∈ l, x.name.size ≤ 1048576) (hT : Lib.Utf8Tabs 0 1 w) :
    Calls Tryz.prog 58 #[v] w fun e w' => e = .returned (.bool (wishesB nameOK l)) ∧ Below w.heap.size w w' := by
  obtain ⟨hlm, a, cap, rfl, hc⟩ := h
  have HC : Hid _ := hc
  have HT : Hid (Lib.Utf8Tabs 0 1 w) := hT
  have HZ : Hid _ := hsz
  have hlm' : (l.length : Int) ≤ 9223372036854775807 := by simp [maxLen] at hlm; omega
  clear hc hlm hT hsz
  unfold wishesB
  by_cases h20 : 20 < l.length
  · rw [if_pos h20]
    have h20' : (20 : Int) < (l.length : Int) := by omega
    go_enter Tryz.func58, Tryz.ntmps58
    go_wp2_with fail
    go_ret
    exact ⟨rfl, Below.refl _ _⟩
  · rw [if_neg h20, wishes_split]
    have h20' : ¬ ((20 : Int) < (l.length : Int)) := by omega
    obtain ⟨F, hF⟩ : ∃ F, (l.all (needB nameOK) && !dupFrom (l.map Imp.name) []) = F := ⟨_, rfl⟩
    rw [hF]
    have HF : Hid _ := hF
    clear hF
    go_enter Tryz.func58, Tryz.ntmps58
    go_wp2_with fail
    go_loopw [3, 13] (fun i3 i13 wr => ∃ (k : Nat), i13 = .int .i64 (k : Int) ∧ k ≤ l.length ∧ OwnS w.heap.size wr i3 ((l.take k).map Imp.name) ∧ (l.take k).all (needB nameOK) = true ∧ Below w.heap.size w wr) (fun _ i13 _ => l.length - (intOf i13).toNat)
    case atStart => exact ⟨0, rfl, by omega, ⟨rfl, .inl ⟨rfl, rfl⟩⟩, by simp, Below.refl _ _⟩
    case round =>
      obtain ⟨k, rfl, hk, hown, hall, hb⟩ := hrel
      have HAL : Hid _ := hall
      clear hall
      by_cases hkn : k < l.length
      · have hkn' : (k : Int) < (l.length : Int) := by omega
        obtain ⟨b, off, rfl, hbB, hcell⟩ := HC.out (by omega)
        obtain ⟨x1, x2, x3⟩ := hcell k hkn
        have hbw := hS b hbB
        have htk : l.take (k + 1) = l.take k ++ [l[k]] := List.take_succ_eq_append_getElem hkn
        have hmem := List.getElem_mem hkn
        obtain ⟨x, hx⟩ : ∃ x, l[k] = x := ⟨_, rfl⟩
        rw [hx] at x1 x2 x3 htk hmem
        have HTK : Hid _ := htk
        have HM : Hid _ := hmem
        clear hx hcell htk hmem
        obtain ⟨nm, mn, mx⟩ := x
        dsimp only at x1 x2 x3
        have d1 := (hb.cell (p := ⟨b, off + k * 3, none⟩) hbw).trans x1
        have d2 := (hb.cell (p := ⟨b, off + k * 3 + 1, none⟩) hbw).trans x2
        have d3 := (hb.cell (p := ⟨b, off + k * 3 + 2, none⟩) hbw).trans x3
        obtain ⟨a3, c3, hv3, hs3⟩ := hown.value
        have hlen : ((l.take k).map Imp.name).length = k := by simp; omega
        rw [hlen] at hv3
        have HLN : Hid _ := hlen
        subst hv3
        clear hs3 hlen
        have HOW : Hid (OwnS w.heap.size wr (.slice a3 k c3) ((l.take k).map Imp.name)) := hown
        clear hown x1 x2 x3
        have cn := fun w' (hbb : Below w.heap.size w w') => implNeed nm mn mx w' (Utf8Tabs_below HT.out hbb)
        obtain ⟨B1, hB1⟩ : ∃ B1, needB nameOK ⟨nm, mn, mx⟩ = B1 := ⟨_, rfl⟩
        rw [hB1] at cn
        have HB1 : Hid _ := hB1
        clear hB1
        cases B1
        · have hno : l.all (needB nameOK) = false := by
            rw [List.all_eq_false]
            exact ⟨_, HM.out, by rw [HB1.out]; simp⟩
          have hF := HF.out
          rw [hno, Bool.false_and] at hF
          subst hF
          clear hno
          go_wp2_with (go_at_call 81; go_must (refine (cn _ (hb.alloc hb.size _)).mono ?_; rintro e w1 ⟨rfl, hb1⟩))
          go_ret
          exact ⟨by simp, (hb.alloc hb.size _).trans (hb1.mono (by have := hb.size; simp only [World.size_alloc]; omega))⟩
        · obtain ⟨ti, hti, ht0, ht1, ht2⟩ := info9
          go_wp2_with (first
            | (go_at_call 81; go_must (refine (cn _ (hb.alloc hb.size _)).mono ?_; rintro e w1 ⟨rfl, hb1⟩; have hk1 : Blk w1 wr.heap.size 61 #[.string nm, .int .i64 mn, .int .i64 mx] := Blk.below (heap_alloc_last wr _) hb1; have e1 := hk1.cell 0; simp at e1))
            | (at_builtin; go_must (refine wpList_appendS rfl (.tmp 20) (.tmp 23) 40 rfl Tryz.underlying40 ti hti ht0 ht1 ht2 w.heap.size (.slice a3 k c3) ((l.take k).map Imp.name) rfl ((HOW.out.below ((Below.refl _ wr).alloc (Nat.le_refl _) _)).below hb1 |>.below ((Below.refl _ w1).alloc (Nat.le_refl _) _)) ⟨w1.heap.size, 0, none⟩ 1 nm rfl (new_cell w1 nm) (by have := HLN.out; omega) (by have := hb.size; have := hb1.size; simp only [World.size_alloc] at *; omega) ?_; intro v4 w4 hown4 hB4 hgr4)))
          have hbb := (hb.alloc hb.size (.cells #[.string nm, .int .i64 mn, .int .i64 mx] 61)).trans (hb1.mono (by have := hb.size; simp only [World.size_alloc]; omega))
          refine ⟨⟨k + 1, rfl, by omega, ?_, ?_, (hbb.alloc hbb.size _).trans hB4⟩, by simp [intOf]; omega⟩
          · rw [HTK.out, List.map_append]; exact hown4
          · rw [HTK.out, List.all_append, HAL.out]; simp [HB1.out]
      · have hkl : k = l.length := by omega
        subst hkl
        have hall := HAL.out
        simp only [List.take_length] at hown hall
        have hkn' : ¬ ((l.length : Int) < (l.length : Int)) := by omega
        obtain ⟨a3, c3, hv3, hs3⟩ := hown.value
        subst hv3
        have hF := HF.out
        rw [hall, Bool.true_and] at hF
        have ct := implTwice (l.map Imp.name) a3 c3 wr (by simp; omega) (fun s hs => by
          obtain ⟨x, hx, rfl⟩ := List.mem_map.1 hs
          exact HZ.out x hx) (fun h0 => by
            obtain ⟨g, hg, hcc⟩ := hs3 h0
            exact ⟨g, hg, cell_lt (hcc 0 h0), hcc⟩)
        obtain ⟨D, hD⟩ : ∃ D, dupFrom (l.map Imp.name) [] = D := ⟨_, rfl⟩
        rw [hD] at ct hF
        rw [List.length_map] at ct
        clear hD hall hown hs3
        subst hF
        go_wp2_with (go_at_call 82; go_must (refine ct.mono ?_; rintro e w1 ⟨⟨t, rfl⟩, hb1⟩))
        go_ret
        exact ⟨rfl, good_below hb hb1⟩

/-- A release by itself. -/
def soloB (nameB : ByteArray → Bool) (r : Rel) : Bool := nameB r.name && (decide (1 ≤ r.ver) && decide (r.ver ≤ 999999)) && wishesB nameB r.needs && !(r.needs.any (ownB r.name))
theorem rel_solo (nameB : ByteArray → Bool) (pre : List Rel) (r : Rel) : relB nameB pre r = (soloB nameB r && !(pre.any fun q => q.name.toList == r.name.toList && q.ver == r.ver)) := by
  unfold relB soloB ownB
  cases nameB r.name <;> cases decide (1 ≤ r.ver) <;> simp

set_option maxRecDepth 100000 in
set_option maxHeartbeats 1000000 in
theorem implRelease {S : Nat → Prop} (x : Rel) (nv : Value) (w : World) (hS : ∀ b, S b → b < w.heap.size) (h : ImpsAt S w nv x.needs) (hsz : ∀ y ∈ x.needs, y.name.size ≤ 1048576) (hT : Lib.Utf8Tabs 0 1 w) :
    Calls Tryz.prog 80 #[.agg #[.string x.name, .int .i64 x.ver, nv]] w fun e w' => e = .returned (.bool (soloB nameOK x)) ∧ Below w.heap.size w w' := by
  obtain ⟨nm, ve, ns⟩ := x
  dsimp only at h hsz ⊢
  have hmf : ∀ (fn : Fn) (first cap : Array Value) (w : World), (Instr.makeFunc fn first cap).run Tryz.prog w = .ok (.func fn first cap) w := fun _ _ _ _ => rfl
  have hw1 : ∀ o, Below w.heap.size w (w.alloc o) := fun o => (Below.refl _ w).alloc (Nat.le_refl _) _
  have cn := fun w' (hb : Below w.heap.size w w') => implNameOK nm w' (Utf8Tabs_below hT hb)
  have cb := fun w' => implBetween ve 1 999999 w'
  have ca := fun w' (hb : Below w.heap.size w w') => implWishes (fun b hbs => Nat.lt_of_lt_of_le (hS b hbs) hb.size) (h.keep (cells_below hS hb)) hsz (Utf8Tabs_below hT hb)
  have cc := fun w' (hb : Below w.heap.size w w') (hcell : w'.cell? ⟨w.heap.size, 0, none⟩ = some (.string nm)) => implContains (fun b hbs => Nat.lt_of_lt_of_le (hS b hbs) hb.size) (h.keep (cells_below hS hb)) w.heap.size nm hcell (cell_lt hcell)
  unfold soloB
  dsimp only
  obtain ⟨B1, hB1⟩ : ∃ B1, nameOK nm = B1 := ⟨_, rfl⟩
  obtain ⟨B2, hB2⟩ : ∃ B2, (decide (1 ≤ ve) && decide (ve ≤ 999999)) = B2 := ⟨_, rfl⟩
  obtain ⟨B3, hB3⟩ : ∃ B3, wishesB nameOK ns = B3 := ⟨_, rfl⟩
  obtain ⟨B4, hB4⟩ : ∃ B4, ns.any (ownB nm) = B4 := ⟨_, rfl⟩
  rw [hB1, hB2, hB3, hB4]
  rw [hB1] at cn
  rw [hB2] at cb
  rw [hB3] at ca
  rw [hB4] at cc
  clear hB1 hB2 hB3 hB4 h hsz hT
  have hk : ∀ W, Below (w.heap.size + 1) (w.alloc (.cells #[.string nm, .int .i64 ve, nv] 59)) W → Blk W w.heap.size 59 #[.string nm, .int .i64 ve, nv] := fun W hb => Blk.below (heap_alloc_last w _) (by simpa only [World.size_alloc] using hb)
  cases B1
  · go_enter Tryz.func80, Tryz.ntmps80
    go_wp2_with (go_at_call 95; go_must (refine (cn _ (hw1 _)).mono ?_; rintro e w1 ⟨rfl, hb1⟩))
    go_ret
    exact ⟨by simp, good_below (hw1 _) hb1⟩
  cases B2
  · go_enter Tryz.func80, Tryz.ntmps80
    go_wp2_with (first
      | (go_at_call 95; go_must (refine (cn _ (hw1 _)).mono ?_; rintro e w1 ⟨rfl, hb1⟩; have hk1 : Blk w1 w.heap.size 59 #[.string nm, .int .i64 ve, nv] := Blk.below (heap_alloc_last w _) hb1; have e1 := hk1.cell 1; simp at e1))
      | (go_at_call 96; go_must (refine (cb _).mono ?_; rintro e w2 ⟨rfl, rfl⟩)))
    go_ret
    exact ⟨by simp, good_below (hw1 _) hb1⟩
  cases B3
  · go_enter Tryz.func80, Tryz.ntmps80
    go_wp2_with (first
      | (go_at_call 95; go_must (refine (cn _ (hw1 _)).mono ?_; rintro e w1 ⟨rfl, hb1⟩; have hk1 : Blk w1 w.heap.size 59 #[.string nm, .int .i64 ve, nv] := Blk.below (heap_alloc_last w _) hb1; have e1 := hk1.cell 1; have e2 := hk1.cell 2; simp at e1 e2))
      | (go_at_call 96; go_must (refine (cb _).mono ?_; rintro e w2 ⟨rfl, rfl⟩))
      | (go_at_call 58; go_must (refine (ca _ (good_below (hw1 _) hb1)).mono ?_; rintro e w3 ⟨rfl, hb3⟩)))
    go_ret
    exact ⟨by simp, good_below (good_below (hw1 _) hb1) hb3⟩
  · go_enter Tryz.func80, Tryz.ntmps80
    go_wp2_with (first
      | (go_at_call 95; go_must (refine (cn _ (hw1 _)).mono ?_; rintro e w1 ⟨rfl, hb1⟩; have hk1 : Blk w1 w.heap.size 59 #[.string nm, .int .i64 ve, nv] := Blk.below (heap_alloc_last w _) hb1; have e1 := hk1.cell 1; have e2 := hk1.cell 2; simp at e1 e2))
      | (go_at_call 96; go_must (refine (cb _).mono ?_; rintro e w2 ⟨rfl, rfl⟩))
      | (go_at_call 58; go_must (refine (ca _ (good_below (hw1 _) hb1)).mono ?_; rintro e w3 ⟨rfl, hb3⟩; have hk3 : Blk w3 w.heap.size 59 #[.string nm, .int .i64 ve, nv] := hk1.below hb3; have e3 := hk3.cell 2; have e4 := hk3.cell 0; simp at e3 e4))
      | (go_at_call 97; go_must (refine (cc _ (good_below (good_below (hw1 _) hb1) hb3) e4).mono ?_; rintro e w4 ⟨rfl, hb4⟩)))
    go_ret
    exact ⟨by cases B4 <;> rfl, good_below (good_below (good_below (hw1 _) hb1) hb3) hb4⟩
end Go.Proofs.YthgjdcomanabiaaGreatDoor

namespace Go.Proofs.YthgjdcomanabiaaGreatDoor
open Go.ChangeShapes Go.WideShapes Go.ChangeAt Go.RowKit
set_option linter.unusedVariables false

/-- f holds 1 of each release of pre, 0 of all others. -/
def SeenR (f : Lit → Int) (pre : List Rel) : Prop := ∀ (nm : ByteArray) (ve : Int) (kl : Lit), keyOf Tryz.prog 74 (pickVal nm ve) = some kl → f kl = if pre.any (fun q => q.name.toList == nm.toList && q.ver == ve) then 1 else 0
theorem SeenR.put {f : Lit → Int} {pre : List Rel} (h : SeenR f pre) {x : Rel} {kx : Lit} (hk : keyOf Tryz.prog 74 (pickVal x.name x.ver) = some kx) : SeenR (upd f kx 1) (pre ++ [x]) := by
  intro nm ve kl hkl
  have ha : (pre ++ [x]).any (fun q => q.name.toList == nm.toList && q.ver == ve) = (pre.any (fun q => q.name.toList == nm.toList && q.ver == ve) || (x.name.toList == nm.toList && x.ver == ve)) := by
    rw [List.any_append]; simp
  by_cases e : kl = kx
  · subst e
    obtain ⟨h1, h2⟩ := key44_inj hk hkl
    rw [upd_same (law44.key hk), ha, h1, h2]
    simp
  · rw [upd_other e, h nm ve kl hkl, ha]
    have hne : (x.name.toList == nm.toList && x.ver == ve) = false := by
      rw [beq_bytes]
      cases hd : (decide (x.name = nm) && x.ver == ve)
      · rfl
      · simp at hd
        rw [hd.1, hd.2, hkl] at hk
        exact absurd (Option.some.inj hk) e
    rw [hne, Bool.or_false]

set_option maxRecDepth 100000 in
set_option maxHeartbeats 2000000 in
theorem implStore : ImplStore (Lib.Utf8Tabs 0 1) nameOK := by
  intro S l v w hS h hl hok hT
  obtain ⟨hlm, a, cap, rfl, hc⟩ := h
  have hmm := @run_makeMap Tryz.prog
  have HC : Hid _ := hc
  have HT : Hid (Lib.Utf8Tabs 0 1 w) := hT
  have HZ : Hid _ := hok
  have hlm' : (l.length : Int) ≤ 9223372036854775807 := by simp [maxLen] at hlm; omega
  clear hc hlm hT hok
  by_cases h200 : 200 < l.length
  · have e0 : storeB nameOK l = false := by simp [storeB]; omega
    rw [e0]
    have h200' : (200 : Int) < (l.length : Int) := by omega
    go_enter Tryz.func57, Tryz.ntmps57
    go_wp2_with fail
    go_ret
    exact ⟨rfl, Below.refl _ _⟩
  · have h200' : ¬ ((200 : Int) < (l.length : Int)) := by omega
    obtain ⟨F, hF⟩ : ∃ F, storeB nameOK l = F := ⟨_, rfl⟩
    rw [hF]
    have HF : Hid _ := hF
    clear hF
    go_enter Tryz.func57, Tryz.ntmps57
    go_wp2_with fail
    go_loopw [13] (fun i13 wr => ∃ (k : Nat) (f : Lit → Int), i13 = .int .i64 (k : Int) ∧ k ≤ l.length ∧ Counts wr 74 w.heap.size k f ∧ SeenR f (l.take k) ∧ (∀ i (hi : i < l.length), i < k → relB nameOK (l.take i) l[i] = true) ∧ Below w.heap.size w wr) (fun i13 _ => l.length - (intOf i13).toNat)
    case atStart => exact ⟨0, _, rfl, by omega, Counts.made _ _, fun nm ve kl hk => by simp, fun i hi h0 => by omega, (Below.refl _ w).alloc (Nat.le_refl _) _⟩
    case round =>
      obtain ⟨k, f, rfl, hk, hcn, hse, hall, hb⟩ := hrel
      have HCN : Hid _ := hcn
      have HSE : Hid _ := hse
      have HAL : Hid _ := hall
      clear hcn hse hall
      by_cases hkn : k < l.length
      · have hkn' : (k : Int) < (l.length : Int) := by omega
        obtain ⟨b, off, rfl, hbB, hcell⟩ := HC.out (by omega)
        obtain ⟨x1, x2, nv, x3, hnv⟩ := hcell k hkn
        have hbw := hS b hbB
        have htk : l.take (k + 1) = l.take k ++ [l[k]] := List.take_succ_eq_append_getElem hkn
        have hmem := List.getElem_mem hkn
        obtain ⟨x, hx⟩ : ∃ x, l[k] = x := ⟨_, rfl⟩
        have HX : Hid (l[k] = x) := hx
        rw [hx] at x1 x2 hnv htk hmem
        have hzx := HZ.out x hmem
        have HTK : Hid _ := htk
        clear hx hcell htk hmem
        have hrs := rel_solo nameOK (l.take k) x
        have HRS : Hid _ := hrs
        clear hrs
        have cr := fun w' (hbb : Below w.heap.size w w') => implRelease x nv w' (fun c hc => Nat.lt_of_lt_of_le (hS c hc) hbb.size) (hnv.keep (cells_below hS hbb)) (fun y hy => by have := hzx.2.2 y hy; unfold ImpOK at this; omega) (Utf8Tabs_below HT.out hbb)
        obtain ⟨na, nc, rfl⟩ := hnv.shape
        have HNV : Hid _ := hnv
        have HZX : Hid _ := hzx
        clear hnv hzx
        obtain ⟨B1, hB1⟩ : ∃ B1, soloB nameOK x = B1 := ⟨_, rfl⟩
        rw [hB1] at cr
        have HB1 : Hid _ := hB1
        clear hB1
        obtain ⟨nm, ve, ns⟩ := x
        dsimp only at x1 x2 cr
        have d1 := (hb.cell (p := ⟨b, off + k * 3, none⟩) hbw).trans x1
        have d2 := (hb.cell (p := ⟨b, off + k * 3 + 1, none⟩) hbw).trans x2
        have d3 := (hb.cell (p := ⟨b, off + k * 3 + 2, none⟩) hbw).trans x3
        clear x1 x2 x3
        cases B1
        · have hno : storeB nameOK l = false := store_bad hkn (by rw [HX.out, HRS.out, HB1.out]; rfl)
          have hF := HF.out
          rw [hno] at hF
          subst hF
          clear hno
          go_wp2_with (go_at_call 80; go_must (refine (cr _ (hb.alloc hb.size _)).mono ?_; rintro e w1 ⟨rfl, hb1⟩))
          go_ret
          exact ⟨rfl, (hb.alloc hb.size _).trans (hb1.mono (by have := hb.size; simp only [World.size_alloc]; omega))⟩
        · have hve : 1 ≤ ve ∧ ve ≤ 999999 := by
            have := HB1.out
            simp [soloB] at this
            exact this.1.1.2
          have hnm : nm.size ≤ 1048576 := by have := HZX.out.1; dsimp only at this; omega
          obtain ⟨kl, hkl⟩ := key44 (s := nm) (v := ve) (by simp [maxLen]; omega) (WalkArith.wf_i64 (by omega))
          have HKL : Hid _ := hkl
          clear hkl
          go_upto_region 10 with (go_at_call 80; go_must (refine (cr _ (hb.alloc hb.size _)).mono ?_; rintro e w1 ⟨rfl, hb1⟩; have hk1 : Blk w1 wr.heap.size 59 #[.string nm, .int .i64 ve, .slice na ns.length nc] := Blk.below (heap_alloc_last wr _) hb1; have e1 := hk1.cell 0; have e2 := hk1.cell 1; simp at e1 e2))
          have hbA := (hb.alloc hb.size (.cells #[.string nm, .int .i64 ve, .slice na ns.length nc] 59)).trans (hb1.mono (by have := hb.size; simp only [World.size_alloc]; omega))
          have hcA : Counts (w1.alloc (.cells #[.string nm, .int .i64 ve] 74)).drew 74 w.heap.size k f := ((Counts.alloc HCN.out _).below hb1).alloc _
          have hgA : w.heap.size < w1.heap.size := by
            have q1 := hb1.size
            have q2 := (show Counts wr 74 w.heap.size k f from HCN.out).lt
            simp only [World.size_alloc] at q1
            omega
          have hfk := HSE.out nm ve kl HKL.out
          have hlk := (hcA.look law44 Tryz.underlying128 HKL.out).1
          obtain ⟨P1, hP1⟩ : ∃ P1, ((l.take k).any fun q => q.name.toList == nm.toList && q.ver == ve) = P1 := ⟨_, rfl⟩
          have HP1 : Hid _ := hP1
          rw [hP1] at hfk
          clear hP1
          cases P1
          · rw [if_neg (by simp)] at hfk
            obtain ⟨st, W1, W2, g1, g2, g3, g4, g5⟩ := hcA.entry (by simp [maxLen]; omega) HKL.out (c := 1) (by decide)
            rw [hfk] at g1 g2 hlk
            unfold pickVal at g1 g2 hlk
            have HC2 : Hid (Counts W2 74 w.heap.size (k + 1) (upd f kl 1)) := g4
            have hkb : Blk W2 w1.heap.size 74 #[.string nm, .int .i64 ve] := (g5.block w1.heap.size (by show w1.heap.size < (w1.alloc _).heap.size; simp only [World.size_alloc]; omega) (by simp; omega)).trans (heap_alloc_last w1 _)
            have hbB2 : Below w.heap.size w W2 := (hbA.alloc hbA.size (.cells #[.string nm, .int .i64 ve] 74)).drew.grown g5 (by show w.heap.size ≤ (w1.alloc _).heap.size; simp only [World.size_alloc]; omega) (fun j hj => by cases hj; exact Nat.le_refl _)
            have hl2 := (Counts.look HC2.out law44 Tryz.underlying128 HKL.out).1
            rw [upd_same (law44.key HKL.out)] at hl2
            unfold pickVal at hl2
            have k0 := hkb.cell 0
            have k1 := hkb.cell 1
            simp at k0 k1
            clear hfk g4 g5 hcA hkb
            go_cut [13] from 25 (fun s13 wx => s13 = .int .i64 (k : Int) ∧ wx = W2)
            case first =>
              go_region
              all_goals
                go_wp2_with fail
                go_meet
                exact ⟨rfl, rfl⟩
            case rest =>
              obtain ⟨rfl, rfl⟩ := hcut
              clear g1 g2 g3 hlk
              go_wp2_with fail
              refine ⟨⟨k + 1, _, rfl, by omega, HC2.out, ?_, ?_, hbB2⟩, by simp [intOf]; omega⟩
              · rw [HTK.out]; exact SeenR.put HSE.out (x := ⟨nm, ve, ns⟩) HKL.out
              · intro i hi hik
                by_cases hie : i < k
                · exact HAL.out i hi hie
                · have : i = k := by omega
                  subst this
                  rw [HX.out, HRS.out, HB1.out, HP1.out]; rfl
          · rw [if_pos rfl] at hfk
            obtain ⟨st, W1, W2, g1, g2, g3, g4, g5⟩ := hcA.entry (by simp [maxLen]; omega) HKL.out (c := 2) (by decide)
            rw [hfk] at g1 g2 hlk
            unfold pickVal at g1 g2 hlk
            have HC2 : Hid (Counts W2 74 w.heap.size (k + 1) (upd f kl 2)) := g4
            have hkb : Blk W2 w1.heap.size 74 #[.string nm, .int .i64 ve] := (g5.block w1.heap.size (by show w1.heap.size < (w1.alloc _).heap.size; simp only [World.size_alloc]; omega) (by simp; omega)).trans (heap_alloc_last w1 _)
            have hbB2 : Below w.heap.size w W2 := (hbA.alloc hbA.size (.cells #[.string nm, .int .i64 ve] 74)).drew.grown g5 (by show w.heap.size ≤ (w1.alloc _).heap.size; simp only [World.size_alloc]; omega) (fun j hj => by cases hj; exact Nat.le_refl _)
            have hl2 := (Counts.look HC2.out law44 Tryz.underlying128 HKL.out).1
            rw [upd_same (law44.key HKL.out)] at hl2
            unfold pickVal at hl2
            have k0 := hkb.cell 0
            have k1 := hkb.cell 1
            simp at k0 k1
            clear hfk g4 g5 hcA hkb
            go_cut [13] from 25 (fun s13 wx => s13 = .int .i64 (k : Int) ∧ wx = W2)
            case first =>
              go_region
              all_goals
                go_wp2_with fail
                go_meet
                exact ⟨rfl, rfl⟩
            case rest =>
              obtain ⟨rfl, rfl⟩ := hcut
              clear g1 g2 g3 hlk
              have hno : storeB nameOK l = false := store_bad hkn (by rw [HX.out, HRS.out, HB1.out, HP1.out]; rfl)
              have hF := HF.out
              rw [hno] at hF
              subst hF
              clear hno
              go_wp2_with fail
              go_ret
              exact ⟨rfl, hbB2⟩
      · have hkl : k = l.length := by omega
        subst hkl
        have hkn' : ¬ ((l.length : Int) < (l.length : Int)) := by omega
        have hyes : storeB nameOK l = true := store_good (by omega) (fun i hi => HAL.out i hi hi)
        have hF := HF.out
        rw [hyes] at hF
        subst hF
        clear hyes
        go_wp2_with fail
        go_ret
        exact ⟨rfl, hb⟩
end Go.Proofs.YthgjdcomanabiaaGreatDoor

namespace Go.Proofs.YthgjdcomanabiaaGreatDoor
open Go.ChangeShapes Go.WideShapes Go.ChangeAt Go.RowKit Go.Maps
set_option linter.unusedVariables false

theorem store_rel {nameB : ByteArray → Bool} {l : List Rel} (h : storeB nameB l = true) : l.length ≤ 200 ∧ ∀ i (hi : i < l.length), relB nameB (l.take i) l[i] = true := by
  unfold storeB at h
  simp only [Bool.and_eq_true, decide_eq_true_eq, List.all_eq_true] at h
  refine ⟨h.1, fun i hi => ?_⟩
  have := h.2 i (by simpa using hi)
  rwa [List.getElem?_eq_getElem hi] at this
theorem wishes_fine {nameB : ByteArray → Bool} {ns : List Imp} (h : wishesB nameB ns = true) : ns.length ≤ 20 ∧ ∀ m ∈ ns, 0 ≤ m.mx := by
  unfold wishesB at h
  split at h
  · cases h
  · refine ⟨by omega, fun m hm => ?_⟩
    rw [wishes_split] at h
    simp only [Bool.and_eq_true, List.all_eq_true] at h
    have := h.1 m hm
    simp only [needB, Bool.and_eq_true, decide_eq_true_eq] at this
    omega
theorem store_apart {nameB : ByteArray → Bool} {l : List Rel} (h : storeB nameB l = true) {i j : Nat} (hij : i < j) (hj : j < l.length) : relPk (l[i]'(by omega)) ≠ relPk l[j] := by
  intro e
  have hr := (store_rel h).2 j hj
  simp only [relPk, Pk.mk.injEq] at e
  simp only [relB, Bool.and_eq_true, Bool.not_eq_true', List.any_eq_false] at hr
  have := hr.2 (l[i]'(by omega)) (by rw [List.mem_take_iff_getElem]; exact ⟨i, by omega, rfl⟩)
  exact this (by rw [beq_bytes]; simp [e.1, e.2])
theorem store_one {nameB : ByteArray → Bool} {l : List Rel} (h : storeB nameB l = true) {r r' : Rel} (hr : r ∈ l) (hr' : r' ∈ l) (e : relPk r = relPk r') : r = r' := by
  obtain ⟨i, hi, rfl⟩ := List.getElem_of_mem hr
  obtain ⟨j, hj, rfl⟩ := List.getElem_of_mem hr'
  rcases Nat.lt_trichotomy i j with q | q | q
  · exact absurd e (store_apart h q hj)
  · subst q; rfl
  · exact absurd e.symm (store_apart h q hi)
open Classical in
/-- The needs of a release. -/
noncomputable def needsOf (l : List Rel) (p : Pk) : List Imp := if h : ∃ r, r ∈ l ∧ relPk r = p then (Classical.choose h).needs else []
theorem needsOf_eq {nameB : ByteArray → Bool} {l : List Rel} (h : storeB nameB l = true) : ∀ r ∈ l, needsOf l (relPk r) = r.needs := by
  intro r hr
  have hex : ∃ r', r' ∈ l ∧ relPk r' = relPk r := ⟨r, hr, rfl⟩
  unfold needsOf
  rw [dif_pos hex]
  obtain ⟨h1, h2⟩ := Classical.choose_spec hex
  rw [store_one h h1 hr h2]
theorem name_empty : nameOK ⟨#[]⟩ = false := by decide
theorem store_fine {l : List Rel} {ws : List Imp} (h : storeB nameOK l = true) (hz : ∀ x ∈ l, RelOK 1048576 x) (hw : ∀ m ∈ ws, 0 ≤ m.mx ∧ m.name.size ≤ 1048576) (hwl : ws.length ≤ 21) : Fine l ws where
  len := (store_rel h).1
  rel := fun r hr => by
    obtain ⟨i, hi, rfl⟩ := List.getElem_of_mem hr
    have := (store_rel h).2 i hi
    simp only [relB, Bool.and_eq_true, decide_eq_true_eq] at this
    refine ⟨fun e => ?_, by have := (hz _ hr).1; omega, by omega, by omega⟩
    have hn := this.1.1.1.1.1
    rw [e, name_empty] at hn
    cases hn
  need := fun r hr m hm => by
    obtain ⟨i, hi, rfl⟩ := List.getElem_of_mem hr
    have := (store_rel h).2 i hi
    simp only [relB, Bool.and_eq_true, decide_eq_true_eq] at this
    refine ⟨(wishes_fine this.1.1.2).2 m hm, by have h1 := (hz _ hr).2.2 m hm; unfold ImpOK at h1; omega⟩
  wish := hw
  few := (store_needs h).2
  fewW := hwl
/-- A map's block is no row's. -/
theorem need_apart {B g n k m : Nat} {w : World} {v : Value} {e : TypeId} {xs : List Value} {f : Lit → Value} (h : NeedsAt w g n f) (ho : w.ownsRow B e k v m xs) : some g ≠ v.ownBlock := by
  obtain ⟨D, ⟨es, clock, hbk, _⟩, _⟩ := h
  rcases ho.2 with ⟨rfl, _⟩ | ⟨g', cap, cur, rfl, _, hg, _⟩
  · simp [Value.ownBlock]
  · simp only [Value.ownBlock, ne_eq, Option.some.injEq]
    intro e1
    subst e1
    rw [hbk] at hg
    cases hg
theorem need_blk {g g' n : Nat} {w : World} {e : TypeId} {cs : Array Value} {f : Lit → Value} (h : NeedsAt w g n f) (hb : Blk w g' e cs) : g ≠ g' := by
  intro e1
  subst e1
  obtain ⟨D, ⟨es, clock, hbk, _⟩, _⟩ := h
  rw [show w.heap[g]? = _ from hb] at hbk
  cases hbk
end Go.Proofs.YthgjdcomanabiaaGreatDoor

namespace Go.Proofs.YthgjdcomanabiaaGreatDoor
open Go.ChangeShapes Go.WideShapes Go.ChangeAt Go.RowKit
set_option linter.unusedVariables false

noncomputable def newestF (l : List Rel) (ws : List Imp) : List Pk × Int :=
  if codeB nameOK l ws = 0 then (if (choiceOf l ws).2.1 = 0 then (newestOf l (choiceOf l ws).1 ws, 0) else ([], (choiceOf l ws).2.1)) else ([], codeB nameOK l ws)
theorem choice_one (l : List Rel) (ws : List Imp) : (choiceOf l ws).1 = [] ∨ (choiceOf l ws).1 = pickedOf l ws := by
  unfold choiceOf finish
  split
  · exact .inl rfl
  · split
    · exact .inl rfl
    · split
      · exact .inl rfl
      · exact .inr rfl
theorem choice_in {nameB : ByteArray → Bool} (l : List Rel) (ws : List Imp) (h : storeB nameB l = true) : (∀ n ∈ (choiceOf l ws).1, n < l.length) ∧ (choiceOf l ws).1.length ≤ 200 := by
  rcases choice_one l ws with e | e
  · rw [e]; exact ⟨fun n hn => (by cases hn), by simp⟩
  · rw [e]
    refine ⟨fun n hn => best_lt (marks_len l ws) n hn, ?_⟩
    have h1 := picked_len l (marksOf l ws)
    have h2 := (store_needs h).1
    unfold pickedOf
    omega
theorem all_succ {l : List Rel} {NS : List Nat} {ws : List Imp} {k : Nat} (hk : k < NS.length) {r : Rel} (hr : l[NS[k]]? = some r) : allNeeds l (NS.take (k + 1)) ws = allNeeds l (NS.take k) ws ++ r.needs := by
  unfold allNeeds
  rw [List.take_succ_eq_append_getElem hk, List.flatMap_append, List.append_assoc]
  simp [hr]
theorem all_len {l : List Rel} {NS : List Nat} {ws : List Imp} (hw : ws.length ≤ 21) (hl : ∀ r ∈ l, r.needs.length ≤ 20) (hN : ∀ n ∈ NS, n < l.length) : ∀ k, k ≤ NS.length → (allNeeds l (NS.take k) ws).length ≤ 21 + 20 * k := by
  intro k
  induction k with
  | zero => intro _; simp [allNeeds]; omega
  | succ k ih =>
    intro hk
    have hk' : k < NS.length := by omega
    have hn := hN _ (List.getElem_mem hk')
    rw [all_succ hk' (List.getElem?_eq_getElem hn), List.length_append]
    have h1 := ih (by omega)
    have h2 := hl _ (List.getElem_mem hn)
    omega
/-- Whether the k-th release stands for a name by the first j needs. -/
def fitsUp (ns : List Imp) (nm : ByteArray) (r : Rel) (j : Nat) : Bool := fitsN (ns.take j) nm r
theorem fitsUp_zero (ns : List Imp) (nm : ByteArray) (r : Rel) : fitsUp ns nm r 0 = (r.name.toList == nm.toList) := by simp [fitsUp, fitsN]
theorem fitsUp_succ {ns : List Imp} {nm : ByteArray} {r : Rel} {j : Nat} (hj : j < ns.length) : fitsUp ns nm r (j + 1) = (fitsUp ns nm r j && !(ns[j].name.toList == nm.toList && decide (ns[j].mx < r.ver))) := by
  unfold fitsUp fitsN
  rw [List.take_succ_eq_append_getElem hj, List.all_append, ← Bool.and_assoc]
  simp
def newUp (l : List Rel) (ns : List Imp) (nm : ByteArray) (k : Nat) : Int := newestV (l.take k) ns nm
theorem newUp_succ {l : List Rel} {ns : List Imp} {nm : ByteArray} {k : Nat} (hk : k < l.length) : newUp l ns nm (k + 1) = if fitsN ns nm l[k] then max (newUp l ns nm k) l[k].ver else newUp l ns nm k := by
  unfold newUp newestV
  rw [List.take_succ_eq_append_getElem hk, List.foldl_append]
  rfl
theorem newUp_bound {l : List Rel} {ns : List Imp} {nm : ByteArray} (h : ∀ r ∈ l, 0 ≤ r.ver ∧ r.ver ≤ 999999) : ∀ k, k ≤ l.length → 0 ≤ newUp l ns nm k ∧ newUp l ns nm k ≤ 999999 := by
  intro k
  induction k with
  | zero => intro _; simp [newUp, newestV]
  | succ k ih =>
    intro hk
    have h1 := ih (by omega)
    have h2 := h l[k] (List.getElem_mem (by omega))
    rw [newUp_succ (by omega)]
    split <;> omega
theorem newest_snoc {l : List Rel} {NS : List Nat} {ws : List Imp} {k : Nat} (hk : k < NS.length) (ns : List Imp) : ((NS.take (k + 1)).map fun n => (⟨(pickAt l n).name, newestV l ns (pickAt l n).name⟩ : Pk)) = ((NS.take k).map fun n => (⟨(pickAt l n).name, newestV l ns (pickAt l n).name⟩ : Pk)) ++ [⟨(pickAt l NS[k]).name, newestV l ns (pickAt l NS[k]).name⟩] := by
  rw [List.take_succ_eq_append_getElem hk, List.map_append]; rfl
theorem empty_pk (B : Nat) (w : World) (hB : B ≤ w.heap.size) : OwnP B (w.alloc (.cells #[] 74)) (.slice (some ⟨w.heap.size, 0, none⟩) 0 0) [] :=
  ⟨rfl, .inr ⟨w.heap.size, 0, #[], rfl, hB, heap_alloc_last w _, Nat.le_refl _, Nat.zero_le _, rfl, rfl⟩⟩
theorem empty_imp (B : Nat) (w : World) (hB : B ≤ w.heap.size) : OwnI B (w.alloc (.cells #[] 61)) (.slice (some ⟨w.heap.size, 0, none⟩) 0 0) [] :=
  ⟨rfl, .inr ⟨w.heap.size, 0, #[], rfl, hB, heap_alloc_last w _, Nat.le_refl _, Nat.zero_le _, rfl, rfl⟩⟩
end Go.Proofs.YthgjdcomanabiaaGreatDoor
