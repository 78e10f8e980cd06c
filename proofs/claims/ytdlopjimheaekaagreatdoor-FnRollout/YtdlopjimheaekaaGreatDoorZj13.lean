/-
  Demands in order: impl's inOrder over a map of demands. What impl's Validate answers: its walk. What Rollout's helpers in impl answer: the longest of five, percents that rise, a text looked for in a sorted row. slices.Values over texts, as an iterator. Rows of targets of one's own. No statement of the seat is proved here.
-/
import Derived.Test.YtdlopjimheaekaaGreatDoorZj12
import Derived.RangeFuncNested
import Derived.RangeFuncBound
import Derived.RangeFuncCalls
import Derived.RangeFuncLeaves
import Derived.RangeFuncBox
import Derived.Shelf.Abstract
import Derived.Shelf.RegionOpen
import Derived.WalkKit
import Derived.OwnWalkIn
import Derived.TacticsInMore
import Derived.LoopNIn
import Derived.LoopIn
import Derived.Maps.AppendAt
namespace Go.Proofs.YtdlopjimheaekaaGreatDoor
open Go.ChangeShapes Go.WideShapes Go.ChangeAt Go.RowKit Go.Maps
open Go.Sort (grow putRow putCells mapBlock onCells heap_grow_old ahead HoldsK flatK get_flatK size_flatK putRowK PermIn SortedIn SWO)
set_option linter.unusedVariables false
set_option linter.unusedSimpArgs false

theorem atOfD (xp : ByteArray) (xk xi xa : Int) (xz : Option Addr) (xn xc : Nat) (xm : Bool) (xd : ByteArray) (w : World) : (method 334 86 (.agg #[.string xp, .string xp, .int .i64 xk, .int .i64 xi, .int .i64 xa, .slice xz xn xc, .bool xm, .string xd]) "loop.example/g00045/impl.at").run Tryz.prog w = .ok (221, .agg #[.string xp]) w := by kernel_rfl
set_option maxRecDepth 100000 in
set_option maxHeartbeats 8000000 in
theorem implCmpDm (xp : ByteArray) (xk xi xa : Int) (xz : Option Addr) (xn xc : Nat) (xm : Bool) (xd : ByteArray) (yp : ByteArray) (yk yi ya : Int) (yz : Option Addr) (yn yc : Nat) (ym : Bool) (yd : ByteArray) (W : World) :
    Calls Tryz.prog 114 #[.agg #[.string xp, .string xp, .int .i64 xk, .int .i64 xi, .int .i64 xa, .slice xz xn xc, .bool xm, .string xd], .agg #[.string yp, .string yp, .int .i64 yk, .int .i64 yi, .int .i64 ya, .slice yz yn yc, .bool ym, .string yd]] W fun e w' => e = .returned (.int .i64 (Lib.compareBytes xp.data.toList yp.data.toList)) ∧ Grew W w' := by
  have hm := atOfD
  obtain ⟨R, hR⟩ : ∃ R, Lib.compareBytes xp.data.toList yp.data.toList = R := ⟨_, rfl⟩
  have cc := fun w => Tryz.strings_Compare xp yp w
  rw [hR] at cc ⊢
  clear hR
  have b1 : Blk ((W.alloc (.cells #[.string xp, .string xp, .int .i64 xk, .int .i64 xi, .int .i64 xa, .slice xz xn xc, .bool xm, .string xd] 86)).alloc (.cells #[.string yp, .string yp, .int .i64 yk, .int .i64 yi, .int .i64 ya, .slice yz yn yc, .bool ym, .string yd] 86)) W.heap.size 86 #[.string xp, .string xp, .int .i64 xk, .int .i64 xi, .int .i64 xa, .slice xz xn xc, .bool xm, .string xd] := Blk.below (show Blk (W.alloc (.cells #[.string xp, .string xp, .int .i64 xk, .int .i64 xi, .int .i64 xa, .slice xz xn xc, .bool xm, .string xd] 86)) W.heap.size 86 #[.string xp, .string xp, .int .i64 xk, .int .i64 xi, .int .i64 xa, .slice xz xn xc, .bool xm, .string xd] from heap_alloc_last W _) ((Below.refl _ _).alloc (Nat.le_refl _) _)
  have b2 : Blk ((W.alloc (.cells #[.string xp, .string xp, .int .i64 xk, .int .i64 xi, .int .i64 xa, .slice xz xn xc, .bool xm, .string xd] 86)).alloc (.cells #[.string yp, .string yp, .int .i64 yk, .int .i64 yi, .int .i64 ya, .slice yz yn yc, .bool ym, .string yd] 86)) (W.heap.size + 1) 86 #[.string yp, .string yp, .int .i64 yk, .int .i64 yi, .int .i64 ya, .slice yz yn yc, .bool ym, .string yd] := by
    have := heap_alloc_last (W.alloc (.cells #[.string xp, .string xp, .int .i64 xk, .int .i64 xi, .int .i64 xa, .slice xz xn xc, .bool xm, .string xd] 86)) (.cells #[.string yp, .string yp, .int .i64 yk, .int .i64 yi, .int .i64 ya, .slice yz yn yc, .bool ym, .string yd] 86)
    rwa [World.size_alloc] at this
  have kp : ∀ w', Grew ((W.alloc (.cells #[.string xp, .string xp, .int .i64 xk, .int .i64 xi, .int .i64 xa, .slice xz xn xc, .bool xm, .string xd] 86)).alloc (.cells #[.string yp, .string yp, .int .i64 yk, .int .i64 yi, .int .i64 ya, .slice yz yn yc, .bool ym, .string yd] 86)) w' → w'.cell? ⟨W.heap.size, 0, none⟩ = some (.string xp) ∧ w'.cell? ⟨W.heap.size, 1, none⟩ = some (.string xp) ∧ w'.cell? ⟨W.heap.size, 2, none⟩ = some (.int .i64 xk) ∧ w'.cell? ⟨W.heap.size, 3, none⟩ = some (.int .i64 xi) ∧ w'.cell? ⟨W.heap.size, 4, none⟩ = some (.int .i64 xa) ∧ w'.cell? ⟨W.heap.size, 5, none⟩ = some (.slice xz xn xc) ∧ w'.cell? ⟨W.heap.size, 6, none⟩ = some (.bool xm) ∧ w'.cell? ⟨W.heap.size, 7, none⟩ = some (.string xd) ∧ w'.cell? ⟨W.heap.size + 1, 0, none⟩ = some (.string yp) ∧ w'.cell? ⟨W.heap.size + 1, 1, none⟩ = some (.string yp) ∧ w'.cell? ⟨W.heap.size + 1, 2, none⟩ = some (.int .i64 yk) ∧ w'.cell? ⟨W.heap.size + 1, 3, none⟩ = some (.int .i64 yi) ∧ w'.cell? ⟨W.heap.size + 1, 4, none⟩ = some (.int .i64 ya) ∧ w'.cell? ⟨W.heap.size + 1, 5, none⟩ = some (.slice yz yn yc) ∧ w'.cell? ⟨W.heap.size + 1, 6, none⟩ = some (.bool ym) ∧ w'.cell? ⟨W.heap.size + 1, 7, none⟩ = some (.string yd) := fun w' hg => by
    have hB := hg.below
    have d1 := b1.below hB
    have d2 := b2.below hB
    exact ⟨d1.cell 0, d1.cell 1, d1.cell 2, d1.cell 3, d1.cell 4, d1.cell 5, d1.cell 6, d1.cell 7, d2.cell 0, d2.cell 1, d2.cell 2, d2.cell 3, d2.cell 4, d2.cell 5, d2.cell 6, d2.cell 7⟩
  have KP : Hid _ := kp
  have HG0 : Grew W ((W.alloc (.cells #[.string xp, .string xp, .int .i64 xk, .int .i64 xi, .int .i64 xa, .slice xz xn xc, .bool xm, .string xd] 86)).alloc (.cells #[.string yp, .string yp, .int .i64 yk, .int .i64 yi, .int .i64 ya, .slice yz yn yc, .bool ym, .string yd] 86)) := ((Grew.refl W).alloc _).alloc _
  clear kp b1 b2
  go_enter Tryz.func114, Tryz.ntmps114
  go_wp2_with fail
  go_region_held3 (fun w' => w'.cell? ⟨W.heap.size, 0, none⟩ = some (.string xp) ∧ w'.cell? ⟨W.heap.size, 1, none⟩ = some (.string xp) ∧ w'.cell? ⟨W.heap.size, 2, none⟩ = some (.int .i64 xk) ∧ w'.cell? ⟨W.heap.size, 3, none⟩ = some (.int .i64 xi) ∧ w'.cell? ⟨W.heap.size, 4, none⟩ = some (.int .i64 xa) ∧ w'.cell? ⟨W.heap.size, 5, none⟩ = some (.slice xz xn xc) ∧ w'.cell? ⟨W.heap.size, 6, none⟩ = some (.bool xm) ∧ w'.cell? ⟨W.heap.size, 7, none⟩ = some (.string xd) ∧ w'.cell? ⟨W.heap.size + 1, 0, none⟩ = some (.string yp) ∧ w'.cell? ⟨W.heap.size + 1, 1, none⟩ = some (.string yp) ∧ w'.cell? ⟨W.heap.size + 1, 2, none⟩ = some (.int .i64 yk) ∧ w'.cell? ⟨W.heap.size + 1, 3, none⟩ = some (.int .i64 yi) ∧ w'.cell? ⟨W.heap.size + 1, 4, none⟩ = some (.int .i64 ya) ∧ w'.cell? ⟨W.heap.size + 1, 5, none⟩ = some (.slice yz yn yc) ∧ w'.cell? ⟨W.heap.size + 1, 6, none⟩ = some (.bool ym) ∧ w'.cell? ⟨W.heap.size + 1, 7, none⟩ = some (.string yd)) (first | (refine KP.out _ ?_; repeat (first | exact Grew.refl _ | apply Grew.alloc | apply Grew.drew))) (first
    | (go_at_call 221; refine (implAt _ _).mono ?_; rintro e w' ⟨rfl, rfl⟩)
    | (go_at_call 112; refine (cc _).mono ?_; rintro e w' ⟨rfl, rfl⟩))
  all_goals go_wp2_with fail
  all_goals go_ret
  all_goals refine ⟨rfl, HG0.trans ?_⟩
  all_goals repeat (first | exact Grew.refl _ | apply Grew.alloc | apply Grew.drew)
instance : Inhabited DemV := ⟨⟨zeroR, none, 0, 0⟩⟩
def cmpDm (x y : DemV) : Int := Lib.compareBytes x.x.path.data.toList y.x.path.data.toList
theorem ltDm (x y : DemV) : ltOf cmpDm x y = lessB x.x.path y.x.path := by
  unfold ltOf cmpDm
  rw [lessB_eq, Bool.eq_iff_iff, decide_eq_true_eq, decide_eq_true_eq, cmpB]
theorem swoDm : SWO (ltOf cmpDm) where
  irrefl x := by rw [ltDm]; exact lessB_irrefl x.x.path
  trans x y z h1 h2 := by rw [ltDm] at *; exact lessB_trans h1 h2
  ntrans x y z h1 h2 := by rw [ltDm] at *; exact lessB_neg h1 h2
/-- What a sort leaves. -/
structure SortedD (l l' : List DemV) : Prop where
  perm : l'.Perm l
  rises : l'.Pairwise fun x y => lessB y.x.path x.x.path = false
theorem implSortDm {B : Nat} {w : World} {v : Value} {l : List DemV} (h : OwnDemVs B w v l) (hl : l.length ≤ 1000000) :
    Calls Tryz.prog 113 #[v, .func (.func 114) #[] #[]] w fun e w' => e = .returned (.tuple #[]) ∧ ∃ l', SortedD l l' ∧ OwnDemVs B w' v l' ∧ w.grownBy w' v.ownBlock := by
  by_cases h0 : l = []
  · subst h0
    obtain ⟨a, cap, rfl, _⟩ := h.value
    refine (AnyF.slices_SortFunc_none { Tryz.sortDem with } a cap _ w).mono ?_
    rintro e w' ⟨rfl, rfl⟩
    exact ⟨rfl, [], ⟨List.Perm.refl _, List.Pairwise.nil⟩, h, grown_refl _ _⟩
  · have hpos : 0 < l.length := by
      cases l with
      | nil => exact absurd rfl h0
      | cons a r => simp
    rcases h.2 with ⟨_, hz⟩ | ⟨g, cap, cur, rfl, hB, hg, hn1, hn2, hn3, hn4⟩
    · omega
    have hk : ∀ x : DemV, (DemVsCells x).length = 8 := fun _ => rfl
    have hH : HoldsK DemVsCells 8 w g 0 l.toArray := holdsK_of_block hk (by omega) hg hn4
    have eg : ∀ args w, (callFunc 114 args).run Tryz.prog w = .ok (.enter 114 args) w := enters_of Tryz.func114 (by kernel_rfl) rfl
    have hcmp : CmpLays Tryz.prog 114 #[] DemVsCells 8 cmpDm g 0 l.toArray.size w := by
      intro m os dk _ x y
      obtain ⟨⟨xp, xk, xi, xa, xs, xm, xd⟩, xz, xn, xc⟩ := x
      obtain ⟨⟨yp, yk, yi, ya, ys, ym, yd⟩, yz, yn, yc⟩ := y
      exact implCmpDm xp xk xi xa xz xn xc xm xd yp yk yi ya yz yn yc ym yd _
    have hcon := AnyQ.slices_SortFunc Tryz.sortDem 8 Tryz.isAgg86 Tryz.sizeOf86 DemVsCells hk (fun x v hv => by
      simp [DemVsCells] at hv
      rcases hv with rfl | rfl | rfl | rfl | rfl | rfl | rfl <;> rfl) cmpDm swoDm 114 #[] g 0 cap l.toArray w eg hcmp hH (Array.getElem?_eq_some_iff.1 hg).1 (by simp; omega)
    have e1 : l.length = l.toArray.size := by simp
    rw [e1]
    refine Calls.mono hcon ?_
    rintro e w' ⟨rfl, d', n, os, hp, hso, rfl⟩
    have hsize : d'.toList.length = l.length := by rw [Array.length_toList, hp.1]; simp
    refine ⟨rfl, d'.toList, ⟨perm_of hp, ?_⟩, ?_, grownBy_sortedK d'⟩
    · refine (sorted_of hp hso).imp ?_
      intro a b hab
      rw [ltDm] at hab
      exact hab
    · have := ownsRow_sortedK (n := n) (os := os) hk (by omega) hsize hB hg hn1 hn2 hn3
      unfold OwnDemVs DemVsRow
      rw [hsize]
      simpa using this
/-- A demand as a value. -/
def dv (d : DemV) : Value := dVal d.x d.cv
/-- All of a demand that its value shows: its choices lie elsewhere. -/
def Shown (d e : DemV) : Prop := d.x.path = e.x.path ∧ d.x.kind = e.x.kind ∧ d.x.min' = e.x.min' ∧ d.x.max' = e.x.max' ∧ d.x.must = e.x.must ∧ d.x.default' = e.x.default' ∧ d.a = e.a ∧ d.n = e.n ∧ d.c = e.c
theorem dv_shown {d e : DemV} (h : dv d = dv e) : Shown d e := by
  unfold dv dVal DemV.cv at h
  simp only [Value.agg.injEq, Array.mk.injEq, List.cons.injEq, Value.string.injEq, Value.int.injEq, Value.slice.injEq, Value.bool.injEq, true_and, and_true] at h
  obtain ⟨h1, _, h2, h3, h4, ⟨h5, h6, h7⟩, h8, h9⟩ := h
  exact ⟨h1, h2, h3, h4, h8, h9, h5, h6, h7⟩
theorem heldD_some {v : Value} {y : DataW Value × List MemPlace} (h : heldD v = some y) : ∃ d : DemV, v = dv d ∧ y = (.held (dv d), []) := by
  unfold heldD at h
  split at h
  · rename_i hq
    obtain ⟨r, a, n, c, rfl⟩ := hq
    cases h
    exact ⟨⟨r, a, n, c⟩, rfl, rfl⟩
  · cases h
theorem heldD_dv (d : DemV) : heldD (dv d) = some (.held (dv d), []) := heldD_mk d.x d.a d.n d.c
theorem RepD.has {D : DataW Value} {f : ByteArray → Option Value} (h : RepD D f) (p : ByteArray) : has D (textKey p) = (f p).isSome := by
  cases hf : f p with
  | none => rw [(h p).2 hf]; rfl
  | some s => rw [has_true_of_atKey ((h p).1 s hf)]; rfl
theorem RepD.some {D : DataW Value} {f : ByteArray → Option Value} (h : RepD D f) {p : ByteArray} {v : Value} (ha : ∀ z, D.atKey (textKey p) z = .held v) : f p = Option.some v := by
  cases hf : f p with
  | none => have := (h p).2 hf; rw [has_true_of_atKey ha] at this; cases this
  | some t =>
    have h1 := (h p).1 t hf (.held .nilFunc)
    rw [ha] at h1
    simp only [DataW.held.injEq] at h1
    rw [h1]
/-- The step of a range over a map of demands. -/
theorem wpList_nextD (w : World) {ops : Array Oper} {rest : List Oper} {o : Oper} {a : Act} {Q : Exit → Act → World → Prop}
    (hg : o.guard = none) (it : Operand) (hop : o.op = Op.next it false) (b r n : Nat) (D : DataW Value) (left : Lit → Bool) (cnt : Nat) (hit : a.eval it = .pointer (some ⟨r, 0, none⟩)) (h : w.ranges Tryz.prog 9 heldD b r n D left cnt)
    (hDone : cnt = 0 → (∀ kl, left kl = false) → wpList Tryz.prog ops Q rest (a.put o.dst (.tuple #[.bool false])) w)
    (hMore : ∀ (x : ByteArray) (d : DemV) (w' : World) (cnt' : Nat), left (textKey x) = true → (∀ zd, D.atKey (textKey x) zd = .held (dv d)) → keyOf Tryz.prog 9 (.string x) = some (textKey x) → w'.ranges Tryz.prog 9 heldD b r n D (fun z => left z && !z.sameKey (textKey x)) cnt' → cnt' < cnt →
      w.grownBy w' (some r) → w'.heap.size = w.heap.size → (Instr.entry (.pointer (some ⟨r, 0, none⟩))).run Tryz.prog w' = .ok (.tuple #[.string x, dv d]) w' → wpList Tryz.prog ops Q rest (a.put o.dst (.tuple #[.bool true, .string x, dv d])) w') :
    wpList Tryz.prog ops Q (o :: rest) a w :=
  wpList_next_ranges w hg it hop 9 law9 heldD Value.string dv (fun key kl hkey => by obtain ⟨x, rfl, _⟩ := key_inv hkey; exact ⟨x, rfl⟩) (fun v y hv => by obtain ⟨c, rfl, _⟩ := heldD_some hv; exact ⟨c, rfl⟩)
    b r n D left cnt hit h hDone (fun x c kl y w' cnt' hkey hlk hv hat hrg hlt hgr hsz hen => by
      obtain ⟨x', ex, rfl⟩ := key_inv hkey
      cases ex
      rw [heldD_dv] at hv
      cases hv
      exact hMore x c w' cnt' hlk hat hkey hrg hlt hgr hsz hen)
/-- f's demands stand at their own paths, and one value is one demand's as far as it shows. -/
def AtOwn (f : ByteArray → Option Value) : Prop := ∀ p d, f p = some (dv d) → d.x.path = p
/-- What has been told so far. -/
structure ToldD (f : ByteArray → Option Value) (acc : List DemV) (left : Lit → Bool) : Prop where
  of : ∀ d ∈ acc, f d.x.path = some (dv d) ∧ left (textKey d.x.path) = false
  all : ∀ p v, f p = some v → left (textKey p) = false → ∃ d ∈ acc, d.x.path = p ∧ dv d = v
  apart : acc.Pairwise fun x y => x.x.path ≠ y.x.path
theorem ToldD.start {D : DataW Value} {f : ByteArray → Option Value} (h : RepD D f) : ToldD f [] (has D) := by
  refine ⟨fun d hd => (by cases hd), fun p v hp hl => ?_, List.Pairwise.nil⟩
  rw [h.has, hp] at hl
  cases hl
theorem ToldD.step {f : ByteArray → Option Value} {acc : List DemV} {left : Lit → Bool} {x : ByteArray} {c : DemV} (h : ToldD f acc left) (ho : AtOwn f) (hx : f x = some (dv c)) (hl : left (textKey x) = true) : ToldD f (acc ++ [c]) (fun z => left z && !z.sameKey (textKey x)) := by
  have hp := ho x c hx
  subst hp
  refine ⟨fun d hd => ?_, fun p v hv hq => ?_, ?_⟩
  · rw [List.mem_append, List.mem_singleton] at hd
    simp only [same_text]
    rcases hd with hd | rfl
    · have := h.of d hd
      exact ⟨this.1, by rw [this.2]; rfl⟩
    · exact ⟨hx, by simp⟩
  · simp only [same_text] at hq
    by_cases e : p = c.x.path
    · subst e
      rw [hx] at hv
      cases hv
      exact ⟨c, by simp, rfl, rfl⟩
    · obtain ⟨d, h1, h2⟩ := h.all p v hv (by simpa [e] using hq)
      exact ⟨d, by simp [h1], h2⟩
  · rw [List.pairwise_append]
    refine ⟨h.apart, by simp, fun a ha b hb e => ?_⟩
    simp at hb
    subst hb
    have := (h.of a ha).2
    rw [e, hl] at this
    cases this
/-- A map's demands by their paths. -/
structure InOrd (f : ByteArray → Option Value) (L : List DemV) : Prop where
  of : ∀ d ∈ L, f d.x.path = some (dv d)
  all : ∀ p v, f p = some v → ∃ d ∈ L, d.x.path = p ∧ dv d = v
  rises : L.Pairwise fun x y => lessB x.x.path y.x.path = true
theorem ToldD.end {f : ByteArray → Option Value} {acc l : List DemV} {left : Lit → Bool} (h : ToldD f acc left) (hl : ∀ k, left k = false) (hs : SortedD acc l) : InOrd f l := by
  have hn : l.Pairwise fun x y => x.x.path ≠ y.x.path := (hs.perm.pairwise_iff (fun {_ _} h => Ne.symm h)).2 h.apart
  refine ⟨fun d hd => (h.of d (hs.perm.mem_iff.1 hd)).1, fun p v hv => ?_, ?_⟩
  · obtain ⟨d, h1, h2⟩ := h.all p v hv (hl _)
    exact ⟨d, hs.perm.mem_iff.2 h1, h2⟩
  · rw [List.pairwise_iff_getElem]
    intro i j hi hj hij
    rcases lessB_total (List.pairwise_iff_getElem.1 hn i j hi hj hij) with q | q
    · exact q
    · rw [List.pairwise_iff_getElem.1 hs.rises i j hi hj hij] at q; cases q
theorem DemVsAt.newAt (w : World) (xp : ByteArray) (xk xi xa : Int) (xs : List ByteArray) (xz : Option Addr) (xn xc : Nat) (xm : Bool) (xd : ByteArray) (g : Nat) (hg : w.heap.size = g) : DemVsAt (fun b => b = g) (w.alloc (.cells #[.string xp, .string xp, .int .i64 xk, .int .i64 xi, .int .i64 xa, .slice xz xn xc, .bool xm, .string xd] 86)) (.slice (some ⟨g, 0, none⟩) 1 1) [⟨⟨xp, xk, xi, xa, xs, xm, xd⟩, xz, xn, xc⟩] := by
  subst hg
  refine ⟨by simp [maxLen], _, 1, rfl, fun _ => ⟨w.heap.size, 0, rfl, rfl, fun i hi => ?_⟩⟩
  have hi0 : i = 0 := by simpa using hi
  subst hi0
  have hb : Blk (w.alloc (.cells #[.string xp, .string xp, .int .i64 xk, .int .i64 xi, .int .i64 xa, .slice xz xn xc, .bool xm, .string xd] 86)) w.heap.size 86 #[.string xp, .string xp, .int .i64 xk, .int .i64 xi, .int .i64 xa, .slice xz xn xc, .bool xm, .string xd] := heap_alloc_last w _
  exact ⟨hb.cell 0, hb.cell 1, hb.cell 2, hb.cell 3, hb.cell 4, hb.cell 5, hb.cell 6, hb.cell 7⟩
theorem dem_one (l : List DemV) : DemVsOne l := fun x _ => rfl
set_option maxRecDepth 100000 in
set_option maxHeartbeats 4000000 in
theorem implInOrderD {w : World} {b n : Nat} {f : ByteArray → Option Value} (h : MapD w b n f) (ho : AtOwn f) (hn : n ≤ 4000) :
    Calls Tryz.prog 90 #[.map (some b)] w fun e w' => (∃ p L, e = .returned p ∧ OwnDemVs w.heap.size w' p L ∧ InOrd f L ∧ L.length ≤ 4000) ∧ Below w.heap.size w w' := by
  have hlt := h.lt
  obtain ⟨D, hown, hrep⟩ := h
  have hsize := hown.size_le
  have HOF : Hid (AtOwn f) := ho
  have HREP : Hid (RepD D f) := hrep
  have HST : Hid (ToldD f [] (has D)) := ToldD.start hrep
  clear ho hrep
  go_enter Tryz.func90, Tryz.ntmps90
  go_wp2_with (first
    | (at_range; refine wpList_range_own _ rfl _ 93 rfl 9 86 law9 Tryz.underlying93 _ b n _ rfl hown ?_; intro w0 hrg0 hg0 hs0)
    | go_in)
  go_frame
  have hb0 : Below w.heap.size w w0 := (Below.refl _ w).grown hg0 (Nat.le_refl _) (fun j hj => by cases hj)
  go_loopw [3] (fun i3 wr => ∃ (left : Lit → Bool) (cnt : Nat) (aa : Option Addr) (ac : Nat) (acc : List DemV), i3 = .slice aa acc.length ac ∧ wr.ranges Tryz.prog 9 heldD b w.heap.size n D left cnt ∧ ToldD f acc left ∧ acc.length + cnt ≤ n ∧ OwnDemVs (w.heap.size + 1) wr (.slice aa acc.length ac) acc ∧ Below w.heap.size w wr) (fun _ wr => wr.rangeLeft b w.heap.size)
  case atStart => exact ⟨_, _, none, 0, [], rfl, hrg0, HST.out, by simpa using hsize, OwnDemVs.nil _ _, hb0⟩
  case round =>
    obtain ⟨left, cnt, aa, ac, acc, rfl, hrg, htold, hac, hoa, hb⟩ := hrel
    have HTO : Hid (ToldD f acc left) := htold
    have HOA : Hid (OwnDemVs (w.heap.size + 1) wr (.slice aa acc.length ac) acc) := hoa
    have hbs := hrg.lt
    have hacn : acc.length ≤ 4000 := by omega
    clear htold hoa hg0 hrg0
    go_wp2_with (first
      | (at_next; refine wpList_nextD _ rfl _ rfl b w.heap.size n _ _ _ rfl hrg ?_ ?_)
      | go_in)
    · intro _ hl0
      have cs := implSortDm HOA.out (by omega)
      go_wp2_with (go_at_call 113; go_must (refine cs.mono ?_; rintro e w2 ⟨rfl, l2, hso, hop, hgr⟩))
      have hl2 := HTO.out.end hl0 hso
      have hlen := hso.perm.length_eq
      go_ret
      exact ⟨⟨_, l2, rfl, OwnDemVs.mono hop (Nat.le_succ _), hl2, by omega⟩, hb.grown hgr hb.size (fun j hj => Nat.le_trans (Nat.le_succ _) (OwnDemVs.block HOA.out j hj))⟩
    · intro x d w2 cnt1 hlx hat hkey hrg1 hlt1 hg1 hs1 hen
      have hcx := HREP.out.some hat
      have HT2 : Hid (ToldD f (acc ++ [d]) (fun z => left z && !z.sameKey (textKey x))) := HTO.out.step HOF.out hcx hlx
      have hb2 : Below w.heap.size w w2 := hb.grown hg1 hb.size (fun j hj => by cases hj; exact Nat.le_refl _)
      have hoa2 : OwnDemVs (w.heap.size + 1) w2 (.slice aa acc.length ac) acc := HOA.out.kept hg1 (.inr (fun e => by
        have := OwnDemVs.block HOA.out w.heap.size e
        omega))
      have HOA2 : Hid (OwnDemVs (w.heap.size + 1) w2 (.slice aa acc.length ac) acc) := hoa2
      have HRG1 : Hid (w2.ranges Tryz.prog 9 heldD b w.heap.size n D (fun z => left z && !z.sameKey (textKey x)) cnt1) := hrg1
      have hw2s : w.heap.size + 1 ≤ w2.heap.size := by have := hrg1.lt; omega
      obtain ⟨⟨xp, xk, xi, xa, xs, xm, xd⟩, xz, xn, xc⟩ := d
      unfold dv dVal DemV.cv at hen ⊢
      dsimp only at hen ⊢
      have hbk : ∀ o, Below w2.heap.size w2 ((w2.alloc (.cells #[.string xp, .string xp, .int .i64 xk, .int .i64 xi, .int .i64 xa, .slice xz xn xc, .bool xm, .string xd] 86)).alloc o) := fun o => ((Below.refl _ w2).alloc (Nat.le_refl _) _).alloc (by simp) _
      clear hat hcx hoa2 hrg1 hs1
      go_wp2_with (at_builtin; go_must (refine wpList_appendDemVs rfl (.tmp 12) (.tmp 14) rfl (w.heap.size + 1) (.slice aa acc.length ac) acc rfl (OwnDemVs.below HOA2.out (hbk _)) _ [⟨⟨xp, xk, xi, xa, xs, xm, xd⟩, xz, xn, xc⟩] rfl (DemVsAt.newAt _ xp xk xi xa xs xz xn xc xm xd _ (by simp)) (by simp <;> omega) (by simp only [World.size_alloc]; omega) (dem_one _) ?_; intro v9 w9 hown9 hB9 hgr9 hnil9; obtain ⟨a9, c9, e9, -⟩ := hown9.value; subst e9))
      have hnb : ∀ j, (Value.slice aa acc.length ac).ownBlock = some j → w.heap.size + 1 ≤ j := OwnDemVs.block HOA2.out
      have hrg9 : w9.ranges Tryz.prog 9 heldD b w.heap.size n D (fun z => left z && !z.sameKey (textKey x)) cnt1 := ((HRG1.out.alloc _).alloc _).kept hgr9 (fun e => by have := hnb b e.symm; omega) (fun e => by have := hnb _ e.symm; omega)
      refine ⟨⟨_, cnt1, a9, c9, acc ++ [⟨⟨xp, xk, xi, xa, xs, xm, xd⟩, xz, xn, xc⟩], by simp, hrg9, HT2.out, by simp; omega, hown9, ?_⟩, ?_⟩
      · exact ((hb2.alloc hb2.size _).alloc (by simp; omega) _).grown hgr9 (by simp; omega) (fun j hj => Nat.le_trans (Nat.le_succ _) (hnb j hj))
      · rw [hrg9.left_eq, hrg.left_eq]; exact hlt1
end Go.Proofs.YtdlopjimheaekaaGreatDoor

namespace Go.Proofs.YtdlopjimheaekaaGreatDoor
open Go.ChangeShapes Go.WideShapes Go.ChangeAt Go.RowKit Go.Maps
set_option linter.unusedVariables false
set_option linter.unusedSimpArgs false

theorem book_own {l : List Rule} {cv : Nat → Value} : ∀ n, AtOwn (bookK l cv n)
  | 0 => fun p d h => by cases h
  | n + 1 => fun p d h => by
    unfold bookK at h
    split at h
    · rename_i r hr
      by_cases e : p = r.path
      · rw [if_pos e] at h
        simp only [Option.some.injEq] at h
        unfold dv dVal at h
        simp only [Value.agg.injEq, Array.mk.injEq, List.cons.injEq, Value.string.injEq] at h
        exact h.1.symm.trans e.symm
      · rw [if_neg e] at h
        exact book_own n p d h
    · exact book_own n p d h
theorem dv_must {d : DemV} {r : Rule} {v : Value} (h : dv d = dVal r v) : d.x.path = r.path ∧ d.x.must = r.must := by
  unfold dv dVal at h
  simp only [Value.agg.injEq, Array.mk.injEq, List.cons.injEq, Value.string.injEq, Value.bool.injEq] at h
  exact ⟨h.1, h.2.2.2.2.2.2.1⟩
theorem lost_same {l : List Rule} {cv : Nat → Value} {L : List DemV} (hA : rulesB l = true) (h : InOrd (bookK l cv l.length) L) (O : List Setting) : (L.filter (fun d => lostB O d.x)).map (fun d => d.x.path) = sortB (lostP l O) := by
  have hap := (rules_all hA).2
  have hu : ∀ j (hj : j < l.length) i (hi : i < l.length), i ≠ j → l[i].path ≠ l[j].path := fun j hj i hi hne e => by
    have := (hap j hj).2.2.1 i hi hne
    rw [e] at this
    unfold withinB at this
    simp at this
  refine rises_eq ?_ (sortB_rises _) (fun x => ?_)
  · unfold Rises
    rw [List.pairwise_map]
    exact h.rises.filter _
  · rw [sortB_mem]
    unfold lostP
    simp only [List.mem_map, List.mem_filter]
    constructor
    · rintro ⟨d, ⟨hd, hl⟩, rfl⟩
      have h1 := h.of d hd
      rw [book_rule hA] at h1
      cases hk : ruleO l d.x.path with
      | none => rw [hk] at h1; cases h1
      | some k =>
        have hkl := rule_lt hk
        rw [hk] at h1
        simp only [List.getElem?_eq_getElem hkl, Option.map_some, Option.some.injEq] at h1
        obtain ⟨e1, e2⟩ := dv_must h1.symm
        refine ⟨l[k], ⟨List.getElem_mem hkl, ?_⟩, e1.symm⟩
        unfold lostB at hl ⊢
        rw [← e1, ← e2]
        exact hl
    · rintro ⟨r, ⟨hr, hl⟩, rfl⟩
      obtain ⟨k, hkl, rfl⟩ := List.getElem_of_mem hr
      have h1 : bookK l cv l.length l[k].path = some (dVal l[k] (cv k)) := bookK_some hkl rfl (fun i hi hne => hu k hkl i hi hne) _ hkl
      obtain ⟨d, hd, e0, ev⟩ := h.all _ _ h1
      obtain ⟨e1, e2⟩ := dv_must ev
      refine ⟨d, ⟨hd, ?_⟩, e0⟩
      unfold lostB at hl ⊢
      rw [e1, e2]
      exact hl
theorem look_has (O : List Setting) (p : ByteArray) : (lookS O p).isSome = hasB (O.map Setting.path) p := by
  rw [Bool.eq_iff_iff, hasB_mem]
  unfold lookS
  rw [List.find?_isSome]
  simp only [List.mem_map]
  constructor
  · rintro ⟨s, hs, he⟩
    rw [beq_bytes, decide_eq_true_eq] at he
    exact ⟨s, hs, he⟩
  · rintro ⟨s, hs, he⟩
    exact ⟨s, hs, by rw [beq_bytes, decide_eq_true_eq]; exact he⟩
set_option maxRecDepth 100000 in
set_option maxHeartbeats 16000000 in
theorem implCode {S : Nat → Prop} {l0 : List Rule} {w : World} {bd bm nd : Nat} {cv : Nat → Value} (hS : ∀ b, S b → b < w.heap.size) (hmd : MapD w bd nd (bookK l0 cv l0.length)) (hcv : ∀ k (hk : k < l0.length), TxtsAt S w (cv k) l0[k].choices) (hA : rulesB l0 = true) (sp st sf : ByteArray) (hp : sp.size ≤ 1048576) (ht : st.size ≤ 65536) :
    Calls Tryz.prog 89 #[.agg #[.map (some bd), .map (some bm)], .agg #[.string sp, .string st, .string sf]] w fun e w' => e = .returned (.int .i64 (setCode l0 ⟨sp, st, sf⟩)) ∧ Below w.heap.size w w' := by
  have hbd := hmd.lt
  have hbA0 : Below w.heap.size w ((w.alloc (.cells #[.map (some bd), .map (some bm)] 97)).alloc (.cells #[.string sp, .string st, .string sf] 131)) := ((Below.refl _ w).alloc (Nat.le_refl _) _).alloc (by simp) _
  have kA0 : Blk ((w.alloc (.cells #[.map (some bd), .map (some bm)] 97)).alloc (.cells #[.string sp, .string st, .string sf] 131)) w.heap.size 97 #[.map (some bd), .map (some bm)] := Blk.below (show Blk (w.alloc (.cells #[.map (some bd), .map (some bm)] 97)) w.heap.size 97 _ from heap_alloc_last w _) ((Below.refl _ _).alloc (Nat.le_refl _) _)
  have kB0 : Blk ((w.alloc (.cells #[.map (some bd), .map (some bm)] 97)).alloc (.cells #[.string sp, .string st, .string sf] 131)) (w.heap.size + 1) 131 #[.string sp, .string st, .string sf] := by
    have := heap_alloc_last (w.alloc (.cells #[.map (some bd), .map (some bm)] 97)) (.cells #[.string sp, .string st, .string sf] 131)
    rwa [World.size_alloc] at this
  have hsA0 : ((w.alloc (.cells #[.map (some bd), .map (some bm)] 97)).alloc (.cells #[.string sp, .string st, .string sf] 131)).heap.size = w.heap.size + 2 := by simp
  have hbr := book_rule hA cv sp
  have hlk := fun (W : World) (hW : Below w.heap.size w W) => (hmd.below hW).look hp
  rw [hbr] at hlk
  have hcode : setCode l0 ⟨sp, st, sf⟩ = codeK l0 st (ruleO l0 sp) := rfl
  rw [hcode]
  cases hK : ruleO l0 sp with
  | none =>
    rw [hK] at hlk
    dsimp only at hlk
    unfold dVal zeroR at hlk
    simp only [Option.getD_none, Option.isSome_none] at hlk
    have hlA := hlk _ hbA0
    show Calls _ _ _ _ (fun e w' => e = .returned (.int .i64 7) ∧ _)
    clear hcv hbr hlk hK hA hS hmd hcode
    go_enter Tryz.func89, Tryz.ntmps89
    go_upto_region 1 with fail
    obtain ⟨wA, hwA⟩ : ∃ wA, (w.alloc (.cells #[.map (some bd), .map (some bm)] 97)).alloc (.cells #[.string sp, .string st, .string sf] 131) = wA := ⟨_, rfl⟩
    rw [hwA] at hbA0 kA0 kB0 hsA0 hlA ⊢
    have e0 := kA0.cell 0
    have e1 := kB0.cell 0
    simp at e0 e1
    clear hwA kA0 kB0
    go_wp2_with fail
    go_ret
    exact ⟨rfl, hbA0.alloc hbA0.size _⟩
  | some k =>
    rw [hK] at hlk
    have hkl := rule_lt hK
    have hck := hcv k hkl
    obtain ⟨za, zc, hzv⟩ := hck.shape
    dsimp only at hlk
    rw [List.getElem?_eq_getElem hkl] at hlk
    have hli : codeK l0 st (some k) = (fitP l0[k] st).2 := by unfold codeK; simp only [List.getElem?_eq_getElem hkl]
    rw [hli]
    have hfit := fun (W : World) (hW : Below w.heap.size w W) => implFit l0[k] (cv k) W (fun b hb => Nat.lt_of_lt_of_le (hS b hb) hW.size) (hck.keep (cells_below hS hW)) st ht
    obtain ⟨x, hx⟩ : ∃ x, l0[k] = x := ⟨_, rfl⟩
    rw [hx] at hlk hzv hfit ⊢
    rw [hzv] at hlk hfit
    obtain ⟨xp, xk, xi, xa, xc, xm, xd⟩ := x
    simp only [Option.map_some, Option.getD_some, Option.isSome_some] at hlk
    unfold dVal at hlk hfit
    dsimp only at hlk hfit
    have hlA := hlk _ hbA0
    obtain ⟨FV, hFV⟩ : ∃ FV, fitP ⟨xp, xk, xi, xa, xc, xm, xd⟩ st = FV := ⟨_, rfl⟩
    rw [hFV] at hfit ⊢
    obtain ⟨f1, f2⟩ := FV
    dsimp only at hfit ⊢
    have HFT : Hid (∀ (W : World) (hW : Below w.heap.size w W), Calls Tryz.prog 78 #[.agg #[.string xp, .string xp, .int .i64 xk, .int .i64 xi, .int .i64 xa, .slice za xc.length zc, .bool xm, .string xd], .string st] W fun e w' => e = .returned (.tuple #[.int .i64 f1, .int .i64 f2]) ∧ Below W.heap.size W w') := hfit
    clear hcv hbr hlk hK hA hS hmd hcode hck hli hx hzv hfit hFV
    go_enter Tryz.func89, Tryz.ntmps89
    go_upto_region 1 with fail
    obtain ⟨wA, hwA⟩ : ∃ wA, (w.alloc (.cells #[.map (some bd), .map (some bm)] 97)).alloc (.cells #[.string sp, .string st, .string sf] 131) = wA := ⟨_, rfl⟩
    rw [hwA] at hbA0 kA0 kB0 hsA0 hlA ⊢
    have e0 := kA0.cell 0
    have e1 := kB0.cell 0
    simp at e0 e1
    have bAB : Below wA.heap.size wA (wA.alloc (.cells #[.string xp, .string xp, .int .i64 xk, .int .i64 xi, .int .i64 xa, .slice za xc.length zc, .bool xm, .string xd] 86)) := (Below.refl _ wA).alloc (Nat.le_refl _) _
    have kC0 : Blk (wA.alloc (.cells #[.string xp, .string xp, .int .i64 xk, .int .i64 xi, .int .i64 xa, .slice za xc.length zc, .bool xm, .string xd] 86)) wA.heap.size 86 #[.string xp, .string xp, .int .i64 xk, .int .i64 xi, .int .i64 xa, .slice za xc.length zc, .bool xm, .string xd] := heap_alloc_last wA _
    have kB1 := kB0.below bAB
    have hbB := good_below hbA0 bAB
    rw [hsA0] at kC0
    clear hwA
    go_upto_region 4 with fail
    try rw [hsA0]
    obtain ⟨wB, hwB⟩ : ∃ wB, wA.alloc (.cells #[.string xp, .string xp, .int .i64 xk, .int .i64 xi, .int .i64 xa, .slice za xc.length zc, .bool xm, .string xd] 86) = wB := ⟨_, rfl⟩
    rw [hwB] at bAB kC0 kB1 hbB ⊢
    clear hwB bAB kA0 kB0 hbA0 hlA e0 e1 hsA0
    have q0 := kC0.cell 0
    have q1 := kC0.cell 1
    have q2 := kC0.cell 2
    have q3 := kC0.cell 3
    have q4 := kC0.cell 4
    have q5 := kC0.cell 5
    have q6 := kC0.cell 6
    have q7 := kC0.cell 7
    have j1 := kB1.cell 1
    simp at q0 q1 q2 q3 q4 q5 q6 q7 j1
    have cf := HFT.out wB hbB
    clear kC0 kB1
    go_wp2_with (go_at_call 78; go_must (refine cf.mono ?_; rintro e w7 ⟨rfl, hb7⟩))
    go_ret
    exact ⟨rfl, good_below hbB hb7⟩
theorem take_lost {L : List DemV} {O : List Setting} {j : Nat} (hj : j < L.length) : ((L.take (j + 1)).filter (fun d => lostB O d.x)).map (fun d => nameFault d.x.path) = ((L.take j).filter (fun d => lostB O d.x)).map (fun d => nameFault d.x.path) ++ (if lostB O L[j].x then [nameFault L[j].x.path] else []) := by
  rw [List.take_succ_eq_append_getElem hj, List.filter_append, List.map_append]
  congr 1
  cases hq : lostB O L[j].x <;> simp [hq]
set_option maxRecDepth 100000 in
set_option maxHeartbeats 16000000 in
theorem implFaults {S : Nat → Prop} {l0 : List Rule} {O : List Setting} {w : World} {bd bm nd nm : Nat} {cv : Nat → Value} (hS : ∀ b, S b → b < w.heap.size) (hmd : MapD w bd nd (bookK l0 cv l0.length)) (hms : MapS w bm nm O) (hcv : ∀ k (hk : k < l0.length), TxtsAt S w (cv k) l0[k].choices) (hA : rulesB l0 = true) (hO : ∀ s ∈ O, s.text.size ≤ 200) (hF : Fair O) (hR : SRises O) (hol : O.length ≤ 2000) (hnd : nd ≤ 100) (hnm : nm ≤ 2000) (hok : ∀ x ∈ l0, RulesOK 1048576 x) :
    Calls Tryz.prog 52 #[.agg #[.map (some bd), .map (some bm)]] w fun e w' => (∃ p, e = .returned p ∧ OwnFaults w.heap.size w' p (faultsF l0 O)) ∧ Below w.heap.size w w' := by
  have hbd := hmd.lt
  have hbm := hms.lt
  have hbA0 : Below w.heap.size w (w.alloc (.cells #[.map (some bd), .map (some bm)] 97)) := (Below.refl _ w).alloc (Nat.le_refl _) _
  have kA0 : Blk (w.alloc (.cells #[.map (some bd), .map (some bm)] 97)) w.heap.size 97 #[.map (some bd), .map (some bm)] := heap_alloc_last w _
  have ci := implInOrder (hms.below hbA0) hR (by omega)
  have HMD : Hid (MapD w bd nd (bookK l0 cv l0.length)) := hmd
  have HMS : Hid (MapS w bm nm O) := hms
  have HCV : Hid (∀ k (hk : k < l0.length), TxtsAt S w (cv k) l0[k].choices) := hcv
  have HA : Hid (rulesB l0 = true) := hA
  have HS : Hid (∀ b, S b → b < w.heap.size) := hS
  have HW : Hid (∀ s ∈ O, s.text.size ≤ 200) := hO
  have HFA : Hid (Fair O) := hF
  have hol' : (O.length : Int) ≤ 2000 := by omega
  obtain ⟨PL, hPL⟩ : ∃ PL, faultsF l0 O = PL := ⟨_, rfl⟩
  rw [hPL]
  have HPL : Hid (faultsF l0 O = PL) := hPL
  have cD := fun (W : World) (hW : Below w.heap.size w W) => implInOrderD (HMD.out.below hW) (book_own _) (by omega)
  have hLz : ∀ L, InOrd (bookK l0 cv l0.length) L → ∀ d ∈ L, d.x.path.size ≤ 1048576 := fun L hL d hd => by
    have h1 := hL.of d hd
    rw [book_rule HA.out] at h1
    cases hk : ruleO l0 d.x.path with
    | none => rw [hk] at h1; cases h1
    | some k =>
      have hkl := rule_lt hk
      rw [hk] at h1
      simp only [List.getElem?_eq_getElem hkl, Option.map_some, Option.some.injEq] at h1
      obtain ⟨e1, e2⟩ := dv_must h1.symm
      rw [e1]
      have := hok l0[k] (List.getElem_mem hkl)
      unfold RulesOK at this
      omega
  have HLZ : Hid (∀ L, InOrd (bookK l0 cv l0.length) L → ∀ d ∈ L, d.x.path.size ≤ 1048576) := hLz
  have HLOST : Hid (∀ L, InOrd (bookK l0 cv l0.length) L → (L.filter (fun d => lostB O d.x)).map (fun d => d.x.path) = sortB (lostP l0 O)) := fun L hL => lost_same HA.out hL O
  clear hmd hms hcv hA hS hO hF hR hPL hLz hok
  go_enter Tryz.func52, Tryz.ntmps52
  go_upto_region 2 with fail
  obtain ⟨wA, hwA⟩ : ∃ wA, w.alloc (.cells #[.map (some bd), .map (some bm)] 97) = wA := ⟨_, rfl⟩
  rw [hwA] at hbA0 kA0 ci ⊢
  have e1 := kA0.cell 1
  simp at e1
  clear hwA
  go_wp2_with (go_at_call 88; go_must (refine ci.mono ?_; rintro e w2 ⟨⟨p, rfl, hop⟩, hb2⟩; have hb2' := good_below hbA0 hb2; have kA2 := kA0.below hb2; obtain ⟨pa, pc, hpv, -, hpc⟩ := hop.value; subst hpv))
  have HPC : Hid (0 < O.length → ∃ g, pa = some ⟨g, 0, none⟩ ∧ wA.heap.size ≤ g ∧ g < w2.heap.size ∧ ∀ j (hj : j < O.length), w2.cell? ⟨g, j * 3, none⟩ = some (.string O[j].path) ∧ w2.cell? ⟨g, j * 3 + 1, none⟩ = some (.string O[j].text) ∧ w2.cell? ⟨g, j * 3 + 2, none⟩ = some (.string O[j].from')) := hpc
  have HB2 : Hid (Below w.heap.size w w2) := hb2'
  have HK2 : Hid (Blk w2 w.heap.size 97 #[.map (some bd), .map (some bm)]) := kA2
  have hlt2 : w.heap.size < w2.heap.size := kA2.lt
  clear hop hpc hb2 hb2' kA2 kA0 ci e1 hbA0
  go_loopw [3, 15] (fun i3 i15 wr => ∃ (k : Nat) (fa : Option Addr) (fc : Nat) (out : List Fault), i15 = .int .i64 (k : Int) ∧ i3 = .slice fa out.length fc ∧ k ≤ O.length ∧ out = (O.take k).filterMap (setFault l0) ∧ OwnFaults w2.heap.size wr (.slice fa out.length fc) out ∧ Below w2.heap.size w2 wr) (fun _ i15 _ => O.length - (intOf i15).toNat)
  case atStart => exact ⟨0, none, 0, [], rfl, rfl, by omega, rfl, OwnFaults.nil _ _, Below.refl _ _⟩
  case round =>
    obtain ⟨k, fa, fc, out, rfl, rfl, hk, hout, hown, hb⟩ := hrel
    have HOW : Hid (OwnFaults w2.heap.size wr (.slice fa out.length fc) out) := hown
    have HOUT : Hid (out = (O.take k).filterMap (setFault l0)) := hout
    have HBR : Hid (Below w2.heap.size w2 wr) := hb
    have hbs := hb.size
    have holn : out.length ≤ 2000 := by
      have := filterMap_len (setFault l0) (O.take k)
      rw [← hout, List.length_take] at this
      omega
    clear hown hout
    by_cases hkn : k < O.length
    · have hkn' : (k : Int) < (O.length : Int) := by omega
      obtain ⟨g, rfl, -, hg, hcell⟩ := HPC.out (by omega)
      obtain ⟨c0, c1, c2⟩ := hcell k hkn
      have hfz := HFA.out O[k] (List.getElem_mem hkn)
      have hwz := HW.out O[k] (List.getElem_mem hkn)
      have hfk := take_fault (l := l0) hkn
      rw [← HOUT.out] at hfk
      obtain ⟨s, hs⟩ : ∃ s, O[k] = s := ⟨_, rfl⟩
      rw [hs] at c0 c1 c2 hfz hwz hfk
      obtain ⟨sp, st, sf⟩ := s
      dsimp only at c0 c1 c2 hfz hwz
      have d0 := (hb.cell (p := ⟨g, k * 3, none⟩) hg).trans c0
      have d1 := (hb.cell (p := ⟨g, k * 3 + 1, none⟩) hg).trans c1
      have d2 := (hb.cell (p := ⟨g, k * 3 + 2, none⟩) hg).trans c2
      have hz1 := hfz.1
      have hz3 := hfz.2.2
      have hbk : Blk (wr.alloc (.cells #[.string sp, .string st, .string sf] 131)) wr.heap.size 131 #[.string sp, .string st, .string sf] := heap_alloc_last wr _
      have hbA : Below wr.heap.size wr (wr.alloc (.cells #[.string sp, .string st, .string sf] 131)) := (Below.refl _ wr).alloc (Nat.le_refl _) _
      obtain ⟨gx, hgx⟩ : ∃ gx, wr.heap.size = gx := ⟨_, rfl⟩
      rw [hgx] at hbk
      have hfF : setFault l0 ⟨sp, st, sf⟩ = if (setCode l0 ⟨sp, st, sf⟩ == 0) = true then none else some ⟨setCode l0 ⟨sp, st, sf⟩, sp, sf⟩ := rfl
      have cC := fun (W : World) (hW : Below w.heap.size w W) => implCode (bm := bm) (fun b h => Nat.lt_of_lt_of_le (HS.out b h) hW.size) (HMD.out.below hW) (fun j hj => (HCV.out j hj).keep (cells_below HS.out hW)) HA.out sp st sf hz1 (by omega)
      obtain ⟨c, hcc⟩ : ∃ c, setCode l0 ⟨sp, st, sf⟩ = c := ⟨_, rfl⟩
      rw [hcc] at hfF cC
      rw [hfF] at hfk
      have HFK : Hid ((O.take (k + 1)).filterMap (setFault l0) = out ++ (if (c == 0) = true then none else some (⟨c, sp, sf⟩ : Fault)).toList) := hfk
      clear hs hcell c0 c1 c2 hfz hfF hcc hfk
      go_upto_region 5 with fail
      obtain ⟨wB, hwB⟩ : ∃ wB, wr.alloc (.cells #[.string sp, .string st, .string sf] 131) = wB := ⟨_, rfl⟩
      rw [hwB] at hbk hbA ⊢
      have hbB2 := good_below HBR.out hbA
      have hbB := good_below HB2.out hbB2
      have kB := HK2.out.below hbB2
      have q0 := kB.cell 0
      have q1 := kB.cell 1
      have j0 := hbk.cell 0
      have j1 := hbk.cell 1
      have j2 := hbk.cell 2
      simp at q0 q1 j0 j1 j2
      have cc := cC wB hbB
      have HKX : Hid (Blk wB gx 131 #[.string sp, .string st, .string sf]) := hbk
      have HBA : Hid (Below wr.heap.size wr wB) := hbA
      clear hwB d0 d1 d2 hb kB hbk hbA cC hbB
      go_upto_region 6 with (go_at_call 89; go_must (refine cc.mono ?_; rintro e w3 ⟨rfl, hb3⟩))
      have kX3 := HKX.out.below hb3
      have hbr3 := good_below HBA.out hb3
      have HBR3 : Hid (Below wr.heap.size wr w3) := hbr3
      have HKX3 : Hid (Blk w3 gx 131 #[.string sp, .string st, .string sf]) := kX3
      have hs3 := hbr3.size
      clear cc q0 q1 j0 j1 j2 hb3 kX3 hbr3
      cases hc : (c == 0)
      · have hfk := HFK.out
        rw [hc, if_neg (by simp)] at hfk
        have HFK2 : Hid ((O.take (k + 1)).filterMap (setFault l0) = out ++ [⟨c, sp, sf⟩]) := hfk
        have cp := fun w => implCloneT sp hz1 w
        have cf := fun w => implCloneT sf hz3 w
        clear hfk HFK
        go_upto_region 7 with fail
        have kp : ∀ w', Below w3.heap.size w3.drew w' → w'.cell? ⟨gx, 0, none⟩ = some (.string sp) ∧ w'.cell? ⟨gx, 2, none⟩ = some (.string sf) := fun w' hB => by
          have hB' : Below w3.heap.size w3 w' := ((Below.refl _ w3).drew).trans hB
          have b1 := Blk.below HKX3.out hB'
          exact ⟨b1.cell 0, b1.cell 2⟩
        have KP : Hid (∀ w', Below w3.heap.size w3.drew w' → w'.cell? ⟨gx, 0, none⟩ = some (.string sp) ∧ w'.cell? ⟨gx, 2, none⟩ = some (.string sf)) := kp
        have e0 := HKX3.out.cell 0
        have e2 := HKX3.out.cell 2
        simp at e0 e2
        have HAD : Hid (Below w3.heap.size w3 w3.drew) := (Below.refl _ w3).drew
        have hne : some gx ≠ (Value.slice fa out.length fc).ownBlock := fun e => by
          have h1 := (World.ownsRow.lt HOW.out _ e.symm).2
          omega
        clear kp hgx
        go_region_held3 (fun w' => w'.cell? ⟨gx, 0, none⟩ = some (.string sp) ∧ w'.cell? ⟨gx, 2, none⟩ = some (.string sf)) (first | go_keep | exact ⟨hgr8.cell kq.1 hne, hgr8.cell kq.2 hne⟩ | exact kq | exact KP.out _ hb56 | exact KP.out _ hb5 | exact KP.out _ (Below.refl _ _)) (first
          | (go_at_call 59; have hchk := hb5; refine (cf _).mono ?_; rintro e w7 ⟨rfl, hb6⟩; have hb56 := good_below hb5 hb6; have kq := KP.out _ (hb56.alloc hb56.size (.cells #[.int .i64 c, .string sp, .string sf] 81)); have hbr7 := good_below HBR3.out (good_below HAD.out hb56); have how7 := OwnFaults.below HOW.out hbr7; have hs7 := hbr7.size)
          | (go_at_call 59; refine (cp _).mono ?_; rintro e w5 ⟨rfl, hb5⟩)
          | (refine step_appendFaults rfl (.tmp 24) (.tmp 34) rfl w2.heap.size (.slice fa out.length fc) out (by simp [Act.eval]) (OwnFaults.below how7 ((Below.refl _ w7).alloc (Nat.le_refl _) _)) (.slice (some ⟨w7.heap.size, 0, none⟩) 1 1) [⟨c, sp, sf⟩] (by simp [Act.eval]) (FaultsAt.new w7 c sp sf) (by simp <;> omega) (by simp only [World.size_alloc]; omega) ?_; intro va vn vc w8 hown8 hB8 hgr8 hnil8; obtain ⟨a8, c8, e8, -⟩ := hown8.value; have hl8 : (out ++ [(⟨c, sp, sf⟩ : Fault)]).length = out.length + 1 := (by simp); rw [hl8] at e8; simp only [Value.slice.injEq] at e8; obtain ⟨rfl, rfl, rfl⟩ := e8))
        all_goals
          go_wp2_with fail
          have hbw7 := good_below HBR.out hbr7
          exact ⟨⟨k + 1, va, vc, out ++ [⟨c, sp, sf⟩], by go_num, by simp, by omega, HFK2.out.symm, by simpa using hown8, (hbw7.alloc hbw7.size _).trans hB8⟩, by simp [intOf]; omega⟩
      · have hfk := HFK.out
        rw [hc, if_pos rfl] at hfk
        have hfk2 : (O.take (k + 1)).filterMap (setFault l0) = out := by simpa using hfk
        have HFK2 : Hid ((O.take (k + 1)).filterMap (setFault l0) = out) := hfk2
        have hc0 : c = 0 := by simpa using hc
        subst hc0
        clear hfk hfk2 HFK hgx
        go_wp2_with fail
        exact ⟨⟨k + 1, fa, fc, out, by go_num, rfl, by omega, HFK2.out.symm, OwnFaults.below HOW.out HBR3.out, good_below HBR.out HBR3.out⟩, by simp [intOf]; omega⟩
    · obtain rfl : k = O.length := by omega
      have hkn' : ¬ ((O.length : Int) < (O.length : Int)) := by omega
      have hout := HOUT.out
      rw [List.take_length] at hout
      have HOUT2 : Hid (out = O.filterMap (setFault l0)) := hout
      have hbw := good_below HB2.out hb
      have cd := cD wr hbw
      have kR := HK2.out.below hb
      have q0 := kR.cell 0
      simp at q0
      clear hout HOUT kR cD
      obtain ⟨w4, hw4⟩ : ∃ w4, w4 = wr := ⟨_, rfl⟩
      subst hw4
      go_wp2_with (go_at_call 90; go_must (refine cd.mono ?_; rintro e w5 ⟨⟨p, L, rfl, hop, hin, hLl⟩, hb5⟩; obtain ⟨la, lc, hlv, -⟩ := hop.value; subst hlv))
      have HIN : Hid (InOrd (bookK l0 cv l0.length) L) := hin
      have HFL : Hid (faultsF l0 O = out ++ (L.filter (fun d => lostB O d.x)).map (fun d => nameFault d.x.path)) := by
        have h1 := HLOST.out L hin
        unfold Hid faultsF
        rw [← h1, HOUT2.out, List.map_map]
        rfl
      have HDV : Hid (OwnDemVs w4.heap.size w5 (.slice la L.length lc) L) := hop
      have HF5 : Hid (OwnFaults w2.heap.size w5 (.slice fa out.length fc) out) := OwnFaults.below HOW.out hb5
      have HB5 : Hid (Below w2.heap.size w2 w5) := good_below hb hb5
      have hLl' : (L.length : Int) ≤ 4000 := by omega
      clear hop hin hb5 hb HOW q0 cd
      go_loopw [3, 41] (fun i3 i41 wr => ∃ (j : Nat) (ga : Option Addr) (gc : Nat) (acc : List Fault), i41 = .int .i64 (j : Int) ∧ i3 = .slice ga acc.length gc ∧ j ≤ L.length ∧ acc = out ++ ((L.take j).filter (fun d => lostB O d.x)).map (fun d => nameFault d.x.path) ∧ OwnFaults w2.heap.size wr (.slice ga acc.length gc) acc ∧ OwnDemVs w4.heap.size wr (.slice la L.length lc) L ∧ Below w2.heap.size w2 wr) (fun _ i41 _ => L.length - (intOf i41).toNat)
      case atStart => exact ⟨0, fa, fc, out, rfl, rfl, by omega, by simp, HF5.out, HDV.out, HB5.out⟩
      case round =>
        obtain ⟨j, ga, gc, acc, rfl, rfl, hj, hacc, hofa, hod, hb⟩ := hrel
        have HACC : Hid (acc = out ++ ((L.take j).filter (fun d => lostB O d.x)).map (fun d => nameFault d.x.path)) := hacc
        have hal : acc.length ≤ 6000 := by
          rw [hacc]
          have := List.length_filter_le (fun d : DemV => lostB O d.x) (L.take j)
          simp only [List.length_append, List.length_map, List.length_take] at this ⊢
          omega
        have hbs5 := hb.size
        have HBR5 : Hid (Below w2.heap.size w2 wr) := hb
        have HFZ : Hid (OwnFaults w2.heap.size wr (.slice ga acc.length gc) acc) := hofa
        have HDZ : Hid (OwnDemVs w4.heap.size wr (.slice la L.length lc) L) := hod
        clear hacc hofa hod
        by_cases hjn : j < L.length
        · have hjn' : (j : Int) < (L.length : Int) := by omega
          obtain ⟨_, _, htv, -, htc⟩ := HDZ.out.value
          simp only [Value.slice.injEq] at htv
          obtain ⟨rfl, -, rfl⟩ := htv
          obtain ⟨g, rfl, -, hg, hcell⟩ := htc (by omega)
          obtain ⟨d0, d1, d2, d3, d4, d5, d6, d7⟩ := hcell j hjn
          have htk := take_lost (O := O) hjn
          have hz := HLZ.out L HIN.out L[j] (List.getElem_mem hjn)
          have hlb : lostB O L[j].x = (L[j].x.must && !(lookS O L[j].x.path).isSome) := by unfold lostB; rw [look_has]
          rw [hlb] at htk
          obtain ⟨x, hx⟩ : ∃ x, L[j] = x := ⟨_, rfl⟩
          rw [hx] at d0 d1 d2 d3 d4 d5 d6 d7 htk hz
          obtain ⟨⟨xp, xk, xi, xa, xs, xm, xd⟩, xz, xn, xc⟩ := x
          unfold DemV.cv at d5
          dsimp only at d0 d1 d2 d3 d4 d5 d6 d7 htk hz
          have bA : Below wr.heap.size wr (wr.alloc (.cells #[.string xp, .string xp, .int .i64 xk, .int .i64 xi, .int .i64 xa, .slice xz xn xc, .bool xm, .string xd] 86)) := (Below.refl _ wr).alloc (Nat.le_refl _) _
          have kX : Blk (wr.alloc (.cells #[.string xp, .string xp, .int .i64 xk, .int .i64 xi, .int .i64 xa, .slice xz xn xc, .bool xm, .string xd] 86)) wr.heap.size 86 #[.string xp, .string xp, .int .i64 xk, .int .i64 xi, .int .i64 xa, .slice xz xn xc, .bool xm, .string xd] := heap_alloc_last wr _
          obtain ⟨gx, hgx⟩ : ∃ gx, wr.heap.size = gx := ⟨_, rfl⟩
          rw [hgx] at kX
          have htk2 : out ++ ((L.take (j + 1)).filter (fun d => lostB O d.x)).map (fun d => nameFault d.x.path) = acc ++ (if (xm && !(lookS O xp).isSome) = true then [nameFault xp] else []) := by
            rw [htk, HACC.out, List.append_assoc]
          have hLS := HMS.out
          obtain ⟨IS, hIS⟩ : ∃ IS, (lookS O xp).isSome = IS := ⟨_, rfl⟩
          rw [hIS] at htk2
          have HIS : Hid ((lookS O xp).isSome = IS) := hIS
          have HTK : Hid (out ++ ((L.take (j + 1)).filter (fun d => lostB O d.x)).map (fun d => nameFault d.x.path) = acc ++ (if (xm && !IS) = true then [nameFault xp] else [])) := htk2
          clear hcell htc hx htk htk2 hlb hIS hLS
          go_upto_region 12 with fail
          obtain ⟨wB, hwB⟩ : ∃ wB, wr.alloc (.cells #[.string xp, .string xp, .int .i64 xk, .int .i64 xi, .int .i64 xa, .slice xz xn xc, .bool xm, .string xd] 86) = wB := ⟨_, rfl⟩
          rw [hwB] at bA kX ⊢
          have hb2B := good_below HBR5.out bA
          have hbB := good_below HB2.out hb2B
          have kB := HK2.out.below hb2B
          have q1 := kB.cell 1
          have j0 := kX.cell 0
          simp at q1 j0
          have hlB := (HMS.out.below hbB).lookOk hz
          rw [HIS.out] at hlB
          obtain ⟨s1, s2, s3, hss⟩ : ∃ s1 s2 s3, setOf O xp = ⟨s1, s2, s3⟩ := ⟨_, _, _, rfl⟩
          rw [hss] at hlB
          dsimp only at hlB
          have bB : Below wB.heap.size wB (wB.alloc (.cells #[.string s1, .string s2, .string s3] 131)) := (Below.refl _ wB).alloc (Nat.le_refl _) _
          have kX2 := kX.below bB
          have bA2 := good_below bA bB
          clear hwB kB d0 d1 d2 d3 d4 d5 d6 d7 hb hss kX bA hb2B hbB
          go_upto_region 13 with fail
          obtain ⟨wC, hwC⟩ : ∃ wC, wB.alloc (.cells #[.string s1, .string s2, .string s3] 131) = wC := ⟨_, rfl⟩
          rw [hwC] at bB kX2 bA2 ⊢
          have y0 := kX2.cell 0
          have y6 := kX2.cell 6
          simp at y0 y6
          have HKX : Hid (Blk wC gx 86 #[.string xp, .string xp, .int .i64 xk, .int .i64 xi, .int .i64 xa, .slice xz xn xc, .bool xm, .string xd]) := kX2
          have HBC : Hid (Below wr.heap.size wr wC) := bA2
          have cp := fun w => implCloneT xp hz w
          clear hwC bB kX2 bA2 hlB q1 j0
          cases hgo : (xm && !IS)
          · have htk := HTK.out
            rw [hgo, if_neg (by simp), List.append_nil] at htk
            have HTK2 : Hid (out ++ ((L.take (j + 1)).filter (fun d => lostB O d.x)).map (fun d => nameFault d.x.path) = acc) := htk
            clear htk HTK hgx
            cases xm
            · clear hgo
              go_wp2_with fail
              exact ⟨⟨j + 1, ga, gc, acc, by go_num, rfl, by omega, HTK2.out.symm, OwnFaults.below HFZ.out HBC.out, OwnDemVs.below HDZ.out HBC.out, good_below HBR5.out HBC.out⟩, by simp [intOf]; omega⟩
            · cases IS
              · simp at hgo
              · clear hgo
                go_wp2_with fail
                exact ⟨⟨j + 1, ga, gc, acc, by go_num, rfl, by omega, HTK2.out.symm, OwnFaults.below HFZ.out HBC.out, OwnDemVs.below HDZ.out HBC.out, good_below HBR5.out HBC.out⟩, by simp [intOf]; omega⟩
          · have htk := HTK.out
            rw [hgo, if_pos rfl] at htk
            have HTK2 : Hid (out ++ ((L.take (j + 1)).filter (fun d => lostB O d.x)).map (fun d => nameFault d.x.path) = acc ++ [⟨5, xp, ⟨#[]⟩⟩]) := htk
            simp only [Bool.and_eq_true, Bool.not_eq_true'] at hgo
            obtain ⟨rfl, rfl⟩ := hgo
            clear htk HTK hgx
            go_wp2_with (first
              | (go_at_call 59; go_must (refine (cp _).mono ?_; rintro e w7 ⟨rfl, hb7⟩; have hbr7 := good_below HBC.out hb7; have hof7 := OwnFaults.below HFZ.out hbr7; have hod7 := OwnDemVs.below HDZ.out hbr7; have hs7 := hbr7.size; have hbw7 := good_below HBR5.out hbr7))
              | (at_builtin; go_must (refine wpList_appendFaults rfl (.tmp 61) (.tmp 67) rfl w2.heap.size (.slice ga acc.length gc) acc rfl (OwnFaults.below hof7 ((Below.refl _ w7).alloc (Nat.le_refl _) _)) _ [⟨5, xp, ⟨#[]⟩⟩] rfl (FaultsAt.newAt _ 5 xp ⟨#[]⟩ _ (by simp)) (by simp <;> omega) (by simp only [World.size_alloc]; omega) ?_; intro v9 w9 hown9 hB9 hgr9 hnil9; obtain ⟨a9, c9, e9, -⟩ := hown9.value; have hl9 : (acc ++ [(⟨5, xp, ⟨#[]⟩⟩ : Fault)]).length = acc.length + 1 := (by simp); rw [hl9] at e9; subst e9)))
            have bZ : Below w7.heap.size w7 (w7.alloc (.cells #[.int .i64 5, .string xp, .string ⟨#[]⟩] 81)) := (Below.refl _ w7).alloc (Nat.le_refl _) _
            exact ⟨⟨j + 1, a9, c9, acc ++ [⟨5, xp, ⟨#[]⟩⟩], by go_num, by simp, by omega, HTK2.out.symm, by simpa using hown9, OwnDemVs.kept (OwnDemVs.below hod7 bZ) hgr9 (rows_apart (OwnDemVs.below hod7 bZ) (OwnFaults.below hof7 bZ) (by decide)), (hbw7.alloc hbw7.size _).trans hB9⟩, by simp [intOf]; omega⟩
        · obtain rfl : j = L.length := by omega
          have hjn' : ¬ ((L.length : Int) < (L.length : Int)) := by omega
          have hacc := HACC.out
          rw [List.take_length, ← HFL.out, HPL.out] at hacc
          subst hacc
          go_wp2_with fail
          go_ret
          exact ⟨⟨_, rfl, OwnFaults.mono HFZ.out HB2.out.size⟩, good_below HB2.out HBR5.out⟩
set_option maxRecDepth 100000 in
set_option maxHeartbeats 16000000 in
theorem implValidate : ValidateC 24 (Lib.Utf8Tabs 0 1) validL validC := by
  intro S l0 l1 v0 v1 w hS h0 hl0 hok0 h1 hl1 hok1 hT
  obtain ⟨a0, cap0, hv0⟩ := h0.shape
  obtain ⟨a1, cap1, hv1⟩ := h1.shape
  unfold validC
  have cb := implBook hS h0 hl0 hok0 h1 hl1 hok1 hT
  have bad : ∀ c : Int, bookC l0 l1 = c → (c = 1 ∨ c = 2) → Calls Tryz.prog 51 #[v0, v1] w fun e w' => e = .returned (.tuple #[.agg #[.map none, .map none], .int .i64 c]) ∧ Below w.heap.size w w' := fun c hc hcc => by
    rw [hc] at cb
    exact cb.mono (fun e w' ⟨⟨sv, he, hsv⟩, hb⟩ => by
      rcases hsv with ⟨-, rfl⟩ | ⟨h0, -⟩
      · exact ⟨he, hb⟩
      · rw [hc] at h0
        rcases hcc with rfl | rfl <;> cases h0)
  rcases bookC_cases l0 l1 with hc | hc | ⟨hc, hA, hB⟩
  · have hv : validL l0 l1 = [] := by unfold validL; rw [hc, if_neg (by decide)]
    have cz := bad 2 hc (.inr rfl)
    rw [hc, hv]
    subst hv0 hv1
    clear h0 h1 hok0 hok1 hS hT hc hv cb bad
    go_enter Tryz.func24, Tryz.ntmps24
    go_wp2_with (go_at_call 51; go_must (refine cz.mono ?_; rintro e w1 ⟨rfl, hb1⟩))
    go_ret2
    exact ⟨⟨_, rfl, OwnFaults.nil _ _⟩, hb1.alloc hb1.size _⟩
  · have hv : validL l0 l1 = [] := by unfold validL; rw [hc, if_neg (by decide)]
    have cz := bad 1 hc (.inl rfl)
    rw [hc, hv]
    subst hv0 hv1
    clear h0 h1 hok0 hok1 hS hT hc hv cb bad
    go_enter Tryz.func24, Tryz.ntmps24
    go_wp2_with (go_at_call 51; go_must (refine cz.mono ?_; rintro e w1 ⟨rfl, hb1⟩))
    go_ret2
    exact ⟨⟨_, rfl, OwnFaults.nil _ _⟩, hb1.alloc hb1.size _⟩
  have hv : validL l0 l1 = faultsF l0 (laidF (overP l1)) := by unfold validL; rw [hc, if_pos rfl]
  rw [hc] at cb
  have cz : Calls Tryz.prog 51 #[v0, v1] w fun e w' => (∃ bd bm, e = .returned (.tuple #[.agg #[.map (some bd), .map (some bm)], .int .i64 0]) ∧ ∀ W, Below w'.heap.size w' W → Calls Tryz.prog 52 #[.agg #[.map (some bd), .map (some bm)]] W fun e W' => (∃ p, e = .returned p ∧ OwnFaults W.heap.size W' p (faultsF l0 (laidF (overP l1)))) ∧ Below W.heap.size W W') ∧ Below w.heap.size w w' := cb.mono (fun e w' ⟨⟨sv, he, hsv⟩, hb⟩ => by
    rcases hsv with ⟨h0, -⟩ | ⟨-, bd, bm, nd, nm, cv, rfl, q1, q2, q3, q4, q5, -⟩
    · exact absurd hc h0
    · exact ⟨⟨bd, bm, he, fun W hW => implFaults (S := S) (fun b hb2 => Nat.lt_of_lt_of_le (hS b hb2) (Nat.le_trans hb.size hW.size)) (q1.below hW) (q2.below hW) (fun k hk => (q3 k hk).keep (cells_below (fun b hb2 => Nat.lt_of_lt_of_le (hS b hb2) hb.size) hW)) hA (laid_word hB) (laid_fair hok1) (laid_rises _) (laid_len hB) q4 q5 hok0⟩, hb⟩)
  rw [hc, hv]
  obtain ⟨PL, hPL⟩ : ∃ PL, faultsF l0 (laidF (overP l1)) = PL := ⟨_, rfl⟩
  rw [hPL] at cz ⊢
  subst hv0 hv1
  clear h0 h1 hok0 hok1 hS hT hc hv cb bad hPL hA hB
  go_enter Tryz.func24, Tryz.ntmps24
  go_wp2_with (first
    | (go_at_call 51; go_must (refine cz.mono ?_; rintro e w1 ⟨⟨bd, bm, rfl, hcf⟩, hb1⟩; have bA := (Below.refl _ w1).alloc (Nat.le_refl _) (.cells #[.map (some bd), .map (some bm)] 97); have cf := hcf _ bA; have hbA := good_below hb1 bA; clear hcf))
    | (go_at_call 52; go_must (refine cf.mono ?_; rintro e w2 ⟨⟨p, rfl, hop⟩, hb2⟩)))
  go_ret2
  exact ⟨⟨_, rfl, OwnFaults.mono hop hbA.size⟩, good_below hbA hb2⟩
end Go.Proofs.YtdlopjimheaekaaGreatDoor

namespace Go.Proofs.YtdlopjimheaekaaGreatDoor
open Go.ChangeShapes Go.WideShapes Go.ChangeAt Go.RowKit
set_option linter.unusedVariables false
set_option linter.unusedSimpArgs false

set_option maxRecDepth 100000 in
theorem implMax5 (a b c d f : Int) (g : Nat) (w : World) (h0 : w.cell? ⟨g, 0, none⟩ = some (.int .i64 a)) (h1 : w.cell? ⟨g, 1, none⟩ = some (.int .i64 b)) (h2 : w.cell? ⟨g, 2, none⟩ = some (.int .i64 c)) (h3 : w.cell? ⟨g, 3, none⟩ = some (.int .i64 d)) (h4 : w.cell? ⟨g, 4, none⟩ = some (.int .i64 f)) : Calls Tryz.prog 42 #[.slice (some ⟨g, 0, none⟩) 5 5] w fun e w' => (∃ m : Int, e = .returned (.int .i64 m) ∧ decide (4096 < m) = (decide (4096 < a) || decide (4096 < b) || decide (4096 < c) || decide (4096 < d) || decide (4096 < f))) ∧ w' = w := by
  refine (Tryz.slices_Max_int g 0 5 5 [a, b, c, d, f] w (by omega) (by simp) (by omega) ?_).mono ?_
  · intro j hj
    have hj5 : j < 5 := by simpa using hj
    rcases (by omega : j = 0 ∨ j = 1 ∨ j = 2 ∨ j = 3 ∨ j = 4) with rfl | rfl | rfl | rfl | rfl <;> simp_all
  · rintro e w' ⟨rfl, rfl⟩
    refine ⟨⟨_, rfl, ?_⟩, rfl⟩
    rw [Bool.eq_iff_iff]
    simp only [decide_eq_true_eq, Bool.or_eq_true, List.take, Lib.maxOf]
    simp
    omega
set_option maxRecDepth 100000 in
theorem implLong5 (a b c d f : Int) (g : Nat) (w : World) (h0 : w.cell? ⟨g, 0, none⟩ = some (.int .i64 a)) (h1 : w.cell? ⟨g, 1, none⟩ = some (.int .i64 b)) (h2 : w.cell? ⟨g, 2, none⟩ = some (.int .i64 c)) (h3 : w.cell? ⟨g, 3, none⟩ = some (.int .i64 d)) (h4 : w.cell? ⟨g, 4, none⟩ = some (.int .i64 f)) : Calls Tryz.prog 18 #[.slice (some ⟨g, 0, none⟩) 5 5] w fun e w' => e = .returned (.bool (decide (4096 < a) || decide (4096 < b) || decide (4096 < c) || decide (4096 < d) || decide (4096 < f))) ∧ w' = w := by
  have cm := implMax5 a b c d f g w h0 h1 h2 h3 h4
  go_enter Tryz.func18, Tryz.ntmps18
  go_wp2_with (go_at_call 42; go_must (refine cm.mono ?_; rintro e w1 ⟨⟨m, rfl, hm⟩, rfl⟩))
  go_ret
  exact ⟨rfl, rfl⟩
set_option maxRecDepth 100000 in
set_option maxHeartbeats 1000000 in
theorem implPerc (l : List Int) (a : Option Addr) (cap : Nat) (w : World) (hl : l.length ≤ 1048576) (hc : 0 < l.length → ∃ g o, a = some ⟨g, o, none⟩ ∧ g < w.heap.size ∧ ∀ j (hj : j < l.length), w.cell? ⟨g, o + j, none⟩ = some (.int .i64 l[j])) :
    Calls Tryz.prog 23 #[.slice a l.length cap] w fun e w' => e = .returned (.bool (percB 0 l)) ∧ w' = w := by
  have HC : Hid (0 < l.length → ∃ g o, a = some ⟨g, o, none⟩ ∧ g < w.heap.size ∧ ∀ j (hj : j < l.length), w.cell? ⟨g, o + j, none⟩ = some (.int .i64 l[j])) := hc
  have hl' : (l.length : Int) ≤ 1048576 := by omega
  clear hc
  obtain ⟨R, hR⟩ : ∃ R, percB 0 l = R := ⟨_, rfl⟩
  have HR : Hid (percB 0 l = R) := hR
  rw [hR]
  clear hR
  go_enter Tryz.func23, Tryz.ntmps23
  go_wp2_with fail
  go_loopw [3, 8] (fun i3 i8 wr => ∃ (k : Nat) (m : Int), i8 = .int .i64 (k : Int) ∧ i3 = .int .i64 m ∧ k ≤ l.length ∧ 0 ≤ m ∧ percB m (l.drop k) = R ∧ wr = w) (fun _ i8 _ => l.length - (intOf i8).toNat)
  case atStart => exact ⟨0, 0, rfl, rfl, by omega, by omega, HR.out, rfl⟩
  case round =>
    obtain ⟨k, m, rfl, rfl, hk, hm0, hper, rfl⟩ := hrel
    have HP : Hid (percB m (l.drop k) = R) := hper
    clear hper
    by_cases hkn : k < l.length
    · have hkn' : (k : Int) < (l.length : Int) := by omega
      obtain ⟨g, o, rfl, hg, hcell⟩ := HC.out (by omega)
      have d0 := hcell k hkn
      have hst := percB_step (m := m) hkn
      obtain ⟨P, hP⟩ : ∃ P, l[k] = P := ⟨_, rfl⟩
      rw [hP] at d0 hst
      rw [HP.out] at hst
      have HST : Hid (R = (decide (m ≤ P) && decide (P ≤ 100) && percB (P + 1) (l.drop (k + 1)))) := hst
      have cb := implBtw P m 100 wr
      clear hP hst hcell HP
      cases hE : (decide (m ≤ P) && decide (P ≤ 100))
      · rw [hE] at cb
        have h1 := HST.out
        rw [hE] at h1
        simp only [Bool.false_and] at h1
        subst h1
        clear hE
        go_wp2_with (go_at_call 50; go_must (refine cb.mono ?_; rintro e w1 ⟨rfl, rfl⟩))
        go_ret
        exact ⟨rfl, rfl⟩
      · rw [hE] at cb
        have h1 := HST.out
        rw [hE] at h1
        simp only [Bool.true_and] at h1
        have HN : Hid (percB (P + 1) (l.drop (k + 1)) = R) := h1.symm
        have hPb : P ≤ 100 := by simp only [Bool.and_eq_true, decide_eq_true_eq] at hE; exact hE.2
        have hPa : 0 ≤ P := by simp only [Bool.and_eq_true, decide_eq_true_eq] at hE; omega
        clear hE h1
        go_wp2_with (go_at_call 50; go_must (refine cb.mono ?_; rintro e w1 ⟨rfl, rfl⟩))
        exact ⟨⟨k + 1, P + 1, by simp, by simp, by omega, by omega, HN.out, trivial⟩, by simp [intOf]; omega⟩
    · have hkn' : ¬ ((k : Int) < (l.length : Int)) := by omega
      have h1 := HP.out
      rw [List.drop_eq_nil_of_le (by omega)] at h1
      have h2 : R = true := h1.symm
      subst h2
      clear h1
      go_wp2_with fail
      go_ret
      exact ⟨rfl, rfl⟩
set_option maxRecDepth 100000 in
theorem implNaN1 (x : ByteArray) (w : World) : Calls Tryz.prog 118 #[.string x] w fun e w' => e = .returned (.bool false) ∧ w' = w := by
  go_enter Tryz.func118, Tryz.ntmps118
  go_wp2_with fail
  go_ret
  exact ⟨by simp, rfl⟩
set_option maxRecDepth 100000 in
theorem implNaN2 (x : ByteArray) (w : World) : Calls Tryz.prog 97 #[.string x] w fun e w' => e = .returned (.bool false) ∧ w' = w := by
  go_enter Tryz.func97, Tryz.ntmps97
  go_wp2_with fail
  go_ret
  exact ⟨by simp, rfl⟩
set_option maxRecDepth 100000 in
theorem implLess (x y : ByteArray) (w : World) : Calls Tryz.prog 96 #[.string x, .string y] w fun e w' => e = .returned (.bool (lessB x y)) ∧ w' = w := by
  have c := implNaN1 x w
  unfold lessB
  go_enter Tryz.func96, Tryz.ntmps96
  go_wp2_with (go_at_call 118; go_must (refine c.mono ?_; rintro e w1 ⟨rfl, rfl⟩))
  go_ret
  exact ⟨rfl, rfl⟩
/-- Where a text stands in a row that rises, or would stand. -/
def CutS (l : List ByteArray) (t : ByteArray) (k : Nat) : Prop := k ≤ l.length ∧ (∀ i (h : i < l.length), i < k → lessB l[i] t = true) ∧ ∀ i (h : i < l.length), k ≤ i → lessB l[i] t = false
set_option maxRecDepth 100000 in
set_option maxHeartbeats 4000000 in
theorem implBinS (l : List ByteArray) (t : ByteArray) (a : Option Addr) (cap : Nat) (w : World) (hl : l.length ≤ 1000000) (hs : Rises l) (hc : 0 < l.length → ∃ g, a = some ⟨g, 0, none⟩ ∧ ∀ j (hj : j < l.length), w.cell? ⟨g, j, none⟩ = some (.string l[j])) :
    Calls Tryz.prog 63 #[.slice a l.length cap, .string t] w fun e w' => (∃ k : Nat, e = .returned (.tuple #[.int .i64 (k : Int), .bool (hasB l t)]) ∧ (hasB l t = true → ∃ h : k < l.length, l[k] = t)) ∧ w' = w := by
  obtain ⟨HB, hHB⟩ : ∃ HB, hasB l t = HB := ⟨_, rfl⟩
  have HHB : Hid (hasB l t = HB) := hHB
  rw [hHB]
  clear hHB
  have HC : Hid (0 < l.length → ∃ g, a = some ⟨g, 0, none⟩ ∧ ∀ j (hj : j < l.length), w.cell? ⟨g, j, none⟩ = some (.string l[j])) := hc
  have HP : Hid (Rises l) := hs
  have hl' : (l.length : Int) ≤ 1000000 := by omega
  clear hc hs
  go_enter Tryz.func63, Tryz.ntmps63
  go_wp2_with fail
  go_loopw [7, 8] (fun i7 i8 wr => ∃ (i j : Nat), i7 = .int .i64 (i : Int) ∧ i8 = .int .i64 (j : Int) ∧ i ≤ j ∧ j ≤ l.length ∧ (∀ p (hp : p < l.length), p < i → lessB l[p] t = true) ∧ (∀ p (hp : p < l.length), j ≤ p → lessB l[p] t = false) ∧ wr = w) (fun i7 i8 _ => (intOf i8).toNat - (intOf i7).toNat)
  case atStart => exact ⟨0, l.length, rfl, rfl, by omega, by omega, fun p _ h => by omega, fun p h1 h2 => by omega, rfl⟩
  case round =>
    obtain ⟨i, j, rfl, rfl, hij, hjl, hlo, hhi, rfl⟩ := hrel
    have HLO : Hid (∀ p (hp : p < l.length), p < i → lessB l[p] t = true) := hlo
    have HHI : Hid (∀ p (hp : p < l.length), j ≤ p → lessB l[p] t = false) := hhi
    clear hlo hhi
    by_cases hlt : i < j
    · have hlt' : (i : Int) < (j : Int) := by omega
      go_upto_region 5 with fail
      obtain ⟨m, hm⟩ : ∃ m : Nat, (i + j) / 2 = m := ⟨_, rfl⟩
      have hmI : ((i : Int) + (j : Int)) / 2 = (m : Int) := by omega
      have hm1 : i ≤ m := by omega
      have hm2 : m < j := by omega
      rw [hmI]
      clear hm hmI
      have hml : m < l.length := by omega
      have hml' : (m : Int) < (l.length : Int) := by omega
      have hm0 : (0 : Int) ≤ (m : Int) := by omega
      obtain ⟨g, rfl, hcell⟩ := HC.out (by omega)
      have d0 := hcell m hml
      have cl := implLess l[m] t wr
      obtain ⟨x, hx⟩ : ∃ x, l[m] = x := ⟨_, rfl⟩
      rw [hx] at d0 cl
      have HX : Hid (l[m] = x) := hx
      obtain ⟨R, hR⟩ : ∃ R, lessB x t = R := ⟨_, rfl⟩
      rw [hR] at cl
      have HR : Hid (lessB x t = R) := hR
      clear hx hR hcell
      cases R
      · go_wp2_with (go_at_call 96; go_must (refine cl.mono ?_; rintro e w1 ⟨rfl, rfl⟩))
        refine ⟨⟨i, m, rfl, rfl, by omega, by omega, HLO.out, ?_, trivial⟩, by simp [intOf]; omega⟩
        intro p hp hpm
        by_cases e2 : p = m
        · subst e2; rw [HX.out]; exact HR.out
        · have h2 := (List.pairwise_iff_getElem.1 HP.out) m p hml hp (by omega)
          cases h3 : lessB l[p] t
          · rfl
          · have h4 := lessB_trans h2 h3
            rw [HX.out, HR.out] at h4
            cases h4
      · go_wp2_with (go_at_call 96; go_must (refine cl.mono ?_; rintro e w1 ⟨rfl, rfl⟩))
        refine ⟨⟨m + 1, j, by simp, rfl, by omega, by omega, ?_, HHI.out, trivial⟩, by simp [intOf]; omega⟩
        intro p hp hpm
        by_cases e2 : p = m
        · subst e2; rw [HX.out]; exact HR.out
        · exact lessB_trans ((List.pairwise_iff_getElem.1 HP.out) p m hp hml (by omega)) (by rw [HX.out]; exact HR.out)
    · obtain rfl : i = j := by omega
      have hlt' : ¬ ((i : Int) < (i : Int)) := by omega
      have HCUT : Hid (CutS l t i) := ⟨hjl, HLO.out, HHI.out⟩
      clear HLO HHI
      by_cases hil : i < l.length
      · have hil' : (i : Int) < (l.length : Int) := by omega
        obtain ⟨g, rfl, hcell⟩ := HC.out (by omega)
        have d0 := hcell i hil
        obtain ⟨x, hx⟩ : ∃ x, l[i] = x := ⟨_, rfl⟩
        rw [hx] at d0
        have HX : Hid (l[i] = x) := hx
        have cn := implNaN2 x wr
        clear hx hcell
        cases hE : (x.toList == t.toList)
        · have hnx : x ≠ t := fun e => by rw [e] at hE; simp at hE
          have hno : HB = false := by
            rw [← HHB.out]
            cases hh : hasB l t
            · rfl
            · obtain ⟨p, hp, hpe⟩ := List.getElem_of_mem ((hasB_mem l t).1 hh)
              rcases Nat.lt_trichotomy p i with h | h | h
              · have := HCUT.out.2.1 p hp h
                rw [hpe, lessB_irrefl] at this
                cases this
              · subst h
                exact absurd (by rw [← HX.out]; exact hpe) hnx
              · have h2 := (List.pairwise_iff_getElem.1 HP.out) i p hil hp h
                have h3 := HCUT.out.2.2 i hil (Nat.le_refl _)
                rw [hpe, h3] at h2
                cases h2
          subst hno
          clear hnx
          go_wp2_with (go_at_call 97; go_must (refine cn.mono ?_; rintro e w1 ⟨rfl, rfl⟩))
          go_ret2
          exact ⟨⟨i, rfl, fun h => by simp at h⟩, rfl⟩
        · have hxt : x = t := by
            have h1 : hasB [x] t = true := by unfold hasB; simp [List.any_cons]; simpa using hE
            have h2 := (hasB_mem [x] t).1 h1
            simp at h2
            exact h2.symm
          have hyes : HB = true := by
            rw [← HHB.out]
            exact (hasB_mem l t).2 (by rw [← hxt, ← HX.out]; exact List.getElem_mem hil)
          subst hyes
          have HXT : Hid (x = t) := hxt
          clear hxt
          go_wp2_with fail
          go_ret2
          exact ⟨⟨i, rfl, hil, by rw [HX.out, HXT.out]⟩, rfl⟩
      · have hil' : ¬ ((i : Int) < (l.length : Int)) := by omega
        have hno : HB = false := by
          rw [← HHB.out]
          cases hh : hasB l t
          · rfl
          · obtain ⟨p, hp, hpe⟩ := List.getElem_of_mem ((hasB_mem l t).1 hh)
            have := HCUT.out.2.1 p hp (by omega)
            rw [hpe, lessB_irrefl] at this
            cases this
        subst hno
        go_wp2_with fail
        go_ret2
        exact ⟨⟨i, rfl⟩, rfl⟩
end Go.Proofs.YtdlopjimheaekaaGreatDoor

namespace Go.Proofs.YtdlopjimheaekaaGreatDoor
open Go.ChangeShapes Go.WideShapes Go.ChangeAt Go.RowKit Go.Shelf
set_option linter.unusedVariables false
set_option linter.unusedSimpArgs false
attribute [local go_sem] Oper.semAt_some

/-- A text, as a value of its own kind. -/
abbrev Wd := ByteArray
theorem take_snoc {l : List Wd} {k : Nat} (h : k < l.length) : l.take (k + 1) = l.take k ++ [l[k]] := List.take_succ_eq_append_getElem h
set_option maxRecDepth 100000 in
set_option maxHeartbeats 2000000 in
theorem valuesIn (F : Fence) (n : Nat) (h7 : F.fn 95) (hro : F.round = none) (hn : 1 ≤ n) (y Bs n₀ b off cap : Nat) (zs : List Wd) (hl : zs.length ≤ 1000000) (hb : b < n₀) (J Jx : List Wd → World → Prop)
    (hY : ∀ pre x W, J pre W → pre.length < zs.length → YieldAt F (n - 1) Tryz.prog y #[.string x] W fun e W' =>
      (e = .returned (.bool true) ∧ J (pre ++ [x]) W' ∧ Below n₀ W W') ∨ (e = .returned (.bool false) ∧ Jx (pre ++ [x]) W'))
    (W : World) (hBs : W.cell? ⟨Bs, 0, none⟩ = some (.slice (some ⟨b, off, none⟩) zs.length cap)) (hc : ∀ j (hj : j < zs.length), W.cell? ⟨b, off + j, none⟩ = some (.string zs[j])) (h0 : J [] W) :
    CallsIn F n Tryz.prog 95 #[.func (.yield y) #[] #[], .pointer (some ⟨Bs, 0, none⟩)] W fun e W' => (∃ v, e = .returned v) ∧
      ((∃ ys, ys = zs ∧ J ys W') ∨ (∃ pre, pre <+: zs ∧ Jx pre W')) := by
  refine callsIn_of_wp Tryz.func95 rfl h7 ?_ hro
  simp only [Tryz.ntmps95, List.size_toArray, List.length_cons, List.length_nil, Nat.reduceAdd, Nat.reduceSub, Array.replicate_succ, Array.replicate_zero, List.push_toArray, List.append_toArray, List.nil_append, List.cons_append]
  gi_wp2
  gi_loopw [7] (fun i wr => ∃ k : Nat, k ≤ zs.length ∧ i = .int .i64 k ∧ J (zs.take k) wr ∧ Below n₀ W wr) (fun i _ => zs.length - (intOf i).toNat)
  case atStart => exact ⟨0, Nat.zero_le _, rfl, h0, Below.refl _ _⟩
  case round =>
    obtain ⟨k, hk, rfl, hJs, hnx⟩ := hrel
    by_cases hlt : k < zs.length
    · have hcx := (hnx.cell (p := ⟨b, off + k, none⟩) hb).trans (hc k hlt)
      obtain ⟨fn, tmps, assign, body, hy, hR⟩ := hY _ zs[k] wr hJs (by rw [List.length_take]; omega)
      rw [← take_snoc hlt] at hR
      obtain ⟨x, hx⟩ : ∃ x, zs[k] = x := ⟨_, rfl⟩
      rw [hx] at hcx hy
      clear hc hx
      have hlt' : (k : Int) < (zs.length : Int) := by omega
      gi_wp2
      refine hR.mono ?_
      rintro e W3 (⟨rfl, hJ3, hk3⟩ | ⟨rfl, hJx3⟩)
      · gi_wp2
        go_roundw
        case rel => exact ⟨k + 1, by omega, by simp, hJ3, hnx.trans hk3⟩
        case measure => simp [intOf]; omega
      · gi_wp2
        refine bodyPost_ret (results_none rfl _ _ _) rfl ?_
        exact ⟨⟨_, rfl⟩, .inr ⟨_, List.take_prefix _ _, hJx3⟩⟩
    · obtain rfl : k = zs.length := by omega
      gi_wp2
      go_end0
      rw [List.take_length] at hJs
      exact ⟨⟨_, rfl⟩, .inl ⟨_, rfl, hJs⟩⟩
set_option maxRecDepth 100000 in
set_option maxHeartbeats 1000000 in
theorem valuesNil (F : Fence) (n : Nat) (h7 : F.fn 95) (hro : F.round = none) (y Bs : Nat) (a : Option Addr) (cap : Nat) (J : List Wd → World → Prop) (W : World) (hBs : W.cell? ⟨Bs, 0, none⟩ = some (.slice a 0 cap)) (h0 : J [] W) :
    CallsIn F n Tryz.prog 95 #[.func (.yield y) #[] #[], .pointer (some ⟨Bs, 0, none⟩)] W fun e W' => (∃ v, e = .returned v) ∧ J [] W' := by
  refine callsIn_of_wp Tryz.func95 rfl h7 ?_ hro
  simp only [Tryz.ntmps95, List.size_toArray, List.length_cons, List.length_nil, Nat.reduceAdd, Nat.reduceSub, Array.replicate_succ, Array.replicate_zero, List.push_toArray, List.append_toArray, List.nil_append, List.cons_append]
  gi_wp2
  gi_loopw [7] (fun i wr => i = .int .i64 0 ∧ J [] wr) (fun _ _ => 0)
  case atStart => exact ⟨rfl, h0⟩
  case round =>
    obtain ⟨rfl, hJs⟩ := hrel
    gi_wp2
    go_end0
    exact ⟨⟨_, rfl⟩, hJs⟩
/-- What a row of texts says of its cells, below n₀. -/
def WdsAt (n₀ : Nat) (W : World) (a : Option Addr) (zs : List Wd) : Prop := 0 < zs.length → ∃ b off, a = some ⟨b, off, none⟩ ∧ b < n₀ ∧ ∀ j (hj : j < zs.length), W.cell? ⟨b, off + j, none⟩ = some (.string zs[j])
theorem WdsAt.below {n₀ : Nat} {A B : World} {a : Option Addr} {zs : List Wd} (h : WdsAt n₀ A a zs) (hb : Below n₀ A B) : WdsAt n₀ B a zs := fun h0 => by
  obtain ⟨b, off, e, hlt, hc⟩ := h h0
  exact ⟨b, off, e, hlt, fun j hj => (hb.cell (p := ⟨b, off + j, none⟩) hlt).trans (hc j hj)⟩
theorem valuesStops (F : Fence) (n : Nat) (h7 : F.fn 95) (hro : F.round = none) (hn : 1 ≤ n) (Bs n₀ : Nat) (a : Option Addr) (cap : Nat) (zs : List Wd) (hl : zs.length ≤ 1000000) (w : World) (hBs : Bs < w.heap.size) (hn₀ : n₀ ≤ w.heap.size)
    (hc : w.cell? ⟨Bs, 0, none⟩ = some (.slice a zs.length cap)) (hI : WdsAt n₀ w a zs) :
    SeqStopsK F n Tryz.prog 95 #[.pointer (some ⟨Bs, 0, none⟩)] (fun x : Wd => #[Value.string x]) (Below n₀) (fun ys => ys = zs) (fun pre => pre <+: zs) zs.length w := fun y J Jx W hW _ _ hY h0 => by
  have hc' := (hW.cell (p := ⟨Bs, 0, none⟩) hBs).trans hc
  have hI' := hI.below (hW.mono hn₀)
  by_cases hz : zs = []
  · subst hz
    exact (valuesNil F n h7 hro y Bs a cap J W hc' h0).mono fun e W' ⟨he, hj⟩ => ⟨he, .inl ⟨_, rfl, hj⟩⟩
  · obtain ⟨b, off, rfl, hlt, hcc⟩ := hI' (List.length_pos_iff.2 hz)
    exact valuesIn F n h7 hro hn y Bs n₀ b off cap zs hl hlt J Jx hY W hc' hcc h0
set_option maxRecDepth 100000 in
set_option maxHeartbeats 4000000 in
theorem appendSeqIn (n : Nat) (hn : 4 ≤ n) (Bs : Nat) (a : Option Addr) (cap : Nat) (zs : List Wd) (hl : zs.length ≤ 1000000) (w : World) (hBs : Bs < w.heap.size) (hc : w.cell? ⟨Bs, 0, none⟩ = some (.slice a zs.length cap)) (hI : WdsAt w.heap.size w a zs) :
    CallsIn Fence.wide n Tryz.prog 115 #[.slice none 0 0, .func (.func 95) #[] #[.pointer (some ⟨Bs, 0, none⟩)]] w fun e w' => (∃ v, e = .returned v ∧ w'.ownsRow w.heap.size 9 1 v zs.length (zs.map Value.string)) ∧ Below w.heap.size w w' := by
  have h1 : 1 ≤ n := by omega
  obtain ⟨i0, hi, hz0, hz1, hz2⟩ := info9
  have hro : Fence.wide.round = none := rfl
  refine callsIn_of_wp_marks Tryz.func115 rfl trivial ?_ hro
  simp only [Tryz.ntmps115, List.size_toArray, List.length_cons, List.length_nil, Nat.reduceAdd, Nat.reduceSub, Array.replicate_succ, Array.replicate_zero, List.push_toArray, List.append_toArray, List.nil_append, List.cons_append]
  gi_wp2
  have hbL : Below w.heap.size w (w.alloc (.cells #[.slice none 0 0] 28)) := (Below.refl _ w).alloc (Nat.le_refl _) _
  refine wpIn_rangeFunc_ownF hro h1 (gf := 95) (lb := #[.pointer (some ⟨Bs, 0, none⟩)]) rfl trivial (enters_of Tryz.func95 (by kernel_rfl) rfl)
    (valuesStops Fence.wide (n - 1) trivial hro (by omega) Bs w.heap.size a cap zs hl (w.alloc (.cells #[.slice none 0 0] 28)) (by simp; omega) (by simp) ((hbL.cell (p := ⟨Bs, 0, none⟩) hBs).trans hc) (hI.below hbL)) belowK_t (belowK_b (by simp)) (Below.refl _ _) (fun _ => rfl)
    (fun pre W => (∃ v, Boxed W w.heap.size 28 v ∧ W.ownsRow w.heap.size 9 1 v pre.length (pre.map Value.string) ∧ True) ∧ Below w.heap.size w W)
    (fun _ _ _ => False)
    (OwnFrom.and (Own.from (holdsRow_own (β := List Wd) w.heap.size w.heap.size 28 9 1 (fun pre => pre.length) (fun pre => pre.map Value.string) (fun _ _ => True)) _) (ownFrom_below (Nat.le_refl _) (by simp)))
    (fun _ _ _ _ _ hs _ _ => hs)
    ⟨⟨_, Boxed.new w _ _, World.ownsRow_nil _ _ _ _, trivial⟩, hbL⟩
    (fun x => { tmps := #[.slice none 0 0, .func (.func 95) #[] #[.pointer (some ⟨Bs, 0, none⟩)], .pointer (some ⟨w.heap.size, 0, none⟩), undef, .slice none 0 0, .string x, .func (.func 95) #[] #[.pointer (some ⟨Bs, 0, none⟩)], .string x, undef, undef, undef, undef, undef], defers := [] }) ?assign ?body ?done ?stop
  case assign =>
    intro l x W K hK
    gi_wp2
    exact hK
  case body =>
    rintro l pre x W ⟨⟨v, hv, hrow, -⟩, hB⟩ hlt
    have hvc := hv.cell
    have hpl : pre.length + 1 ≤ maxLen := by simp [maxLen]; omega
    gi_wp2_with (gi_at_builtin; refine wpListIn_append_own _ rfl _ _ 28 rfl w.heap.size 9 i0 (.string ⟨#[]⟩) 1 16 Tryz.underlying28 hi hz0 hz1 hz2 rfl (by decide) _ _ _ rfl (hrow.alloc _) ⟨W.heap.size, 0, none⟩ 1 1 [.string x] rfl rfl (cell_one_new _ _ _) (by simp [Value.oneCell']) hpl (by omega) (by have := hB.size; simp; omega) ?_; intro v' w1 hown' hgrow _; obtain ⟨g', cap', rfl⟩ := ownsRow_succ hown'; obtain ⟨hv1, hv2, hr2, hk2, hb2⟩ := hv.appended (by decide) hrow hB.size (Nat.le_refl _) hown' hgrow; have hc1 := hv1.cell; have hf1 := hv1.frozen)
    exact ⟨hk2, hb2, ⟨⟨_, hv2, by simpa using hr2, trivial⟩, hB.trans hb2⟩⟩
  case done =>
    rintro D ys W hD rfl ⟨⟨v, hv, hrow, -⟩, hB⟩ hK
    have hvc := hv.cell
    gi_wp2
    refine ⟨by simp, .inl ⟨_, _, rfl, run_takeDeferred hK, ?_⟩⟩
    exact ⟨_, results_tmp rfl _ _ _, ⟨_, rfl, ownsRow_putObj hrow _ hK rfl⟩, hB.trans (belowK_b (w := w) (Nat.le_refl _) W D _ _ (by simp at hD; omega) hK rfl rfl)⟩
  case stop =>
    rintro D c pre W _ _ h _
    exact h.elim
set_option maxRecDepth 100000 in
set_option maxHeartbeats 1000000 in
theorem implCollect (Bs : Nat) (a : Option Addr) (cap : Nat) (zs : List Wd) (hl : zs.length ≤ 1000000) (w : World) (hBs : Bs < w.heap.size) (hc : w.cell? ⟨Bs, 0, none⟩ = some (.slice a zs.length cap)) (hI : WdsAt w.heap.size w a zs) :
    Calls Tryz.prog 93 #[.func (.func 95) #[] #[.pointer (some ⟨Bs, 0, none⟩)]] w fun e w' => (∃ v, e = .returned v ∧ w'.ownsRow w.heap.size 9 1 v zs.length (zs.map Value.string)) ∧ Below w.heap.size w w' := by
  have c := callsIn_wide.1 (appendSeqIn 4 (Nat.le_refl _) Bs a cap zs hl w hBs hc hI)
  go_enter Tryz.func93, Tryz.ntmps93
  go_wp2_with (go_at_call 115; go_must (refine c.mono ?_; rintro e w1 ⟨⟨v, rfl, ho⟩, hb⟩))
  go_ret
  exact ⟨⟨_, rfl, ho⟩, hb⟩
set_option maxRecDepth 100000 in
theorem implValues (a : Option Addr) (n cap : Nat) (w : World) :
    Calls Tryz.prog 61 #[.slice a n cap] w fun e w' => e = .returned (.func (.func 95) #[] #[.pointer (some ⟨w.heap.size, 0, none⟩)]) ∧ w' = w.alloc (.cells #[.slice a n cap] 28) := by
  have hmf : ∀ (fn : Fn) (first cap : Array Value) (w : World), (Instr.makeFunc fn first cap).run Tryz.prog w = .ok (.func fn first cap) w := fun _ _ _ _ => rfl
  go_enter Tryz.func61, Tryz.ntmps61
  go_wp2_with fail
  go_ret
  exact ⟨rfl, rfl⟩
end Go.Proofs.YtdlopjimheaekaaGreatDoor

namespace Go.Proofs.YtdlopjimheaekaaGreatDoor
open Go.ChangeShapes Go.WideShapes Go.ChangeAt Go.RowKit
set_option linter.unusedVariables false
set_option linter.unusedSimpArgs false

structure Tg where
  name : ByteArray
  number : Int
  sick : Bool
/-- The slice v reads in w, out of blocks of S, as these. -/
def TgsAt (S : Nat → Prop) (w : World) (v : Value) (l : List Tg) : Prop := l.length ≤ maxLen ∧ ∃ a cap, v = .slice a l.length cap ∧ (0 < l.length → ∃ b off, a = some ⟨b, off, none⟩ ∧ S b ∧
  ∀ i (h : i < l.length), w.cell? ⟨b, off + i * 3, none⟩ = some (.string l[i].name) ∧ w.cell? ⟨b, off + i * 3 + 1, none⟩ = some (.int .i64 l[i].number) ∧ w.cell? ⟨b, off + i * 3 + 2, none⟩ = some (.bool l[i].sick))
theorem TgsAt.keep {S : Nat → Prop} {w w' : World} {v : Value} {l : List Tg} (h : TgsAt S w v l) (hk : ∀ b i, S b → w'.cell? ⟨b, i, none⟩ = w.cell? ⟨b, i, none⟩) : TgsAt S w' v l := by
  obtain ⟨hl, a, cap, hv, h⟩ := h
  refine ⟨hl, a, cap, hv, fun h0 => ?_⟩
  obtain ⟨b, off, ha, hbB, hc⟩ := h h0
  refine ⟨b, off, ha, hbB, fun i hi => ?_⟩
  obtain ⟨c0, c1, c2⟩ := hc i hi
  exact ⟨(hk _ _ hbB).trans c0, (hk _ _ hbB).trans c1, (hk _ _ hbB).trans c2⟩
theorem TgsAt.mono {S S' : Nat → Prop} {w : World} {v : Value} {l : List Tg} (h : TgsAt S w v l) (hS : ∀ b, S b → S' b) : TgsAt S' w v l := by
  obtain ⟨hl, a, cap, hv, h⟩ := h
  refine ⟨hl, a, cap, hv, fun h0 => ?_⟩
  obtain ⟨b, off, ha, hbB, hc⟩ := h h0
  refine ⟨b, off, ha, hS b hbB, fun i hi => ?_⟩
  obtain ⟨c0, c1, c2⟩ := hc i hi
  exact ⟨c0, c1, c2⟩
theorem TgsAt.shape {S : Nat → Prop} {w : World} {v : Value} {l : List Tg} (h : TgsAt S w v l) : ∃ a c, v = .slice a l.length c := by
  obtain ⟨_, a, c, hv, _⟩ := h
  exact ⟨a, c, hv⟩
def TgsCells (x : Tg) : List Value := [.string x.name, .int .i64 x.number, .bool x.sick]
def TgsRow (l : List Tg) : List Value := l.flatMap TgsCells
theorem TgsRow_length (l : List Tg) : (TgsRow l).length = l.length * 3 := by
  induction l with
  | nil => rfl
  | cons a t ih => simp only [TgsRow, List.flatMap_cons, List.length_append, List.length_cons] at ih ⊢; rw [ih]; simp [TgsCells] <;> omega
theorem TgsRow_append (l k : List Tg) : TgsRow (l ++ k) = TgsRow l ++ TgsRow k := by simp [TgsRow]
theorem TgsRow_one {l : List Tg} {u : Value} (hu : u ∈ TgsRow l) : u.oneCell' = true := by
  obtain ⟨x, _, hx⟩ := List.mem_flatMap.1 hu
  simp only [TgsCells, List.mem_cons, List.mem_nil_iff, or_false] at hx
  rcases hx with rfl | rfl | rfl <;> rfl
theorem TgsRow_at (l : List Tg) (k : Nat) (hk : k < l.length) : (TgsRow l)[k * 3]? = some (.string l[k].name) ∧ (TgsRow l)[k * 3 + 1]? = some (.int .i64 l[k].number) ∧ (TgsRow l)[k * 3 + 2]? = some (.bool l[k].sick) := by
  induction l generalizing k with
  | nil => simp at hk
  | cons a t ih =>
    have hc : TgsRow (a :: t) = TgsCells a ++ TgsRow t := by simp [TgsRow]
    rw [hc]
    cases k with
    | zero => simp [TgsCells]
    | succ k =>
      rw [List.getElem?_append_right (by simp [TgsCells] <;> omega), List.getElem?_append_right (by simp [TgsCells] <;> omega), List.getElem?_append_right (by simp [TgsCells] <;> omega)]
      have e0 : (k + 1) * 3 - (TgsCells a).length = k * 3 := by simp [TgsCells] <;> omega
      have e1 : (k + 1) * 3 + 1 - (TgsCells a).length = k * 3 + 1 := by simp [TgsCells] <;> omega
      have e2 : (k + 1) * 3 + 2 - (TgsCells a).length = k * 3 + 2 := by simp [TgsCells] <;> omega
      rw [e0, e1, e2]
      simpa using ih k (by simpa using hk)
/-- A row of one's own. -/
def OwnTgs (B : Nat) (w : World) (v : Value) (l : List Tg) : Prop := w.ownsRow B 104 3 v l.length (TgsRow l)
theorem OwnTgs.below {B : Nat} {w w' : World} {v : Value} {l : List Tg} (h : OwnTgs B w v l) (hb : Below w.heap.size w w') : OwnTgs B w' v l := by
  obtain ⟨hl, h⟩ := h
  refine ⟨hl, ?_⟩
  rcases h with h | ⟨g, cap, cur, hv, hB, hg, h1, h2, h3, h4⟩
  · exact .inl h
  · refine .inr ⟨g, cap, cur, hv, hB, ?_, h1, h2, h3, h4⟩
    rw [hb.block g (Array.getElem?_eq_some_iff.1 hg).1]; exact hg
theorem OwnTgs.mono {B B' : Nat} {w : World} {v : Value} {l : List Tg} (h : OwnTgs B w v l) (hB : B' ≤ B) : OwnTgs B' w v l := by
  obtain ⟨hl, h⟩ := h
  refine ⟨hl, ?_⟩
  rcases h with h | ⟨g, cap, cur, hv, hg, h1⟩
  · exact .inl h
  · exact .inr ⟨g, cap, cur, hv, Nat.le_trans hB hg, h1⟩
theorem OwnTgs.value {B : Nat} {w : World} {v : Value} {l : List Tg} (h : OwnTgs B w v l) :
    ∃ a cap, v = .slice a l.length cap ∧ l.length ≤ maxLen ∧ (0 < l.length → ∃ g, a = some ⟨g, 0, none⟩ ∧ B ≤ g ∧ g < w.heap.size ∧ ∀ j (hj : j < l.length), w.cell? ⟨g, j * 3, none⟩ = some (.string l[j].name) ∧ w.cell? ⟨g, j * 3 + 1, none⟩ = some (.int .i64 l[j].number) ∧ w.cell? ⟨g, j * 3 + 2, none⟩ = some (.bool l[j].sick)) := by
  rcases h.2 with ⟨rfl, h0⟩ | ⟨g, cap, cur, rfl, hB, hg, h1, h2, h3, h4⟩
  · exact ⟨none, 0, by rw [h0], by omega, fun h => by omega⟩
  · refine ⟨_, cap, rfl, by omega, fun _ => ⟨g, rfl, hB, (Array.getElem?_eq_some_iff.1 hg).1, fun j hj => ?_⟩⟩
    simp only [World.cell?, hg]
    have h5 := TgsRow_at l j hj
    rw [← h4, List.getElem?_take, List.getElem?_take, List.getElem?_take, if_pos (by omega), if_pos (by omega), if_pos (by omega)] at h5
    simpa using h5
theorem OwnTgs.at {B : Nat} {w : World} {v : Value} {l : List Tg} (h : OwnTgs B w v l) : TgsAt (fun b => B ≤ b ∧ b < w.heap.size) w v l := by
  obtain ⟨a, cap, hv, hl, hc⟩ := h.value
  refine ⟨hl, a, cap, hv, fun h0 => ?_⟩
  obtain ⟨g, rfl, hB, hg, hcell⟩ := hc h0
  refine ⟨g, 0, rfl, ⟨hB, hg⟩, fun i hi => ?_⟩
  simpa using hcell i hi
theorem OwnTgs.out {B : Nat} {S : Nat → Prop} {w w' : World} {v : Value} {l : List Tg} (h : OwnTgs B w v l) (ho : OutS S w w') (hS : ∀ b, S b → b < B) : OwnTgs B w' v l := by
  obtain ⟨hl, h⟩ := h
  refine ⟨hl, ?_⟩
  rcases h with h | ⟨g, cap, cur, hv, hB, hg, h1⟩
  · exact .inl h
  · refine .inr ⟨g, cap, cur, hv, hB, ?_, h1⟩
    rw [ho.block g (Array.getElem?_eq_some_iff.1 hg).1 (fun hs => by have := hS g hs; omega)]; exact hg
theorem OwnTgs.blk {B b : Nat} {w : World} {v : Value} {l : List Tg} (h : OwnTgs B w v l) (hb : BlkOf v b) : B ≤ b := by
  rcases h.2 with ⟨rfl, _⟩ | ⟨g, cap, cur, rfl, hB, _⟩
  · obtain ⟨_, _, h⟩ := hb; simp at h
  · rw [hb.eq]; exact hB
theorem OwnTgs.block {B : Nat} {w : World} {v : Value} {l : List Tg} (h : OwnTgs B w v l) : ∀ k, v.ownBlock = some k → B ≤ k := by
  intro k hk
  rcases h.2 with ⟨rfl, _⟩ | ⟨g, cap, cur, rfl, hB, _⟩
  · simp [Value.ownBlock] at hk
  · simp [Value.ownBlock] at hk; omega
theorem OwnTgs.kept {B : Nat} {w w' : World} {v : Value} {l : List Tg} {row : Option Nat} (h : OwnTgs B w v l) (hg : w.grownBy w' row) (hne : v.ownBlock = none ∨ v.ownBlock ≠ row) : OwnTgs B w' v l :=
  World.ownsRow.kept h hg hne
theorem OwnTgs.empty (B : Nat) (w : World) (hB : B ≤ w.heap.size) : OwnTgs B (w.alloc (.cells #[] 104)) (.slice (some ⟨w.heap.size, 0, none⟩) 0 0) [] :=
  ⟨rfl, .inr ⟨w.heap.size, 0, #[], rfl, hB, heap_alloc_last w _, Nat.le_refl _, Nat.zero_le _, rfl, rfl⟩⟩
theorem OwnTgs.nil (B : Nat) (w : World) : OwnTgs B w (.slice none 0 0) [] := ⟨rfl, .inl ⟨rfl, rfl⟩⟩
/-- A row of one that is built. -/
theorem TgsAt.new (w : World) (x0 : ByteArray) (x1 : Int) (x2 : Bool) : TgsAt (fun b => b = w.heap.size) (w.alloc (.cells #[.string x0, .int .i64 x1, .bool x2] 104)) (.slice (some ⟨w.heap.size, 0, none⟩) 1 1) [⟨x0, x1, x2⟩] := by
  refine ⟨by simp [maxLen], _, 1, rfl, fun _ => ⟨w.heap.size, 0, rfl, rfl, fun i hi => ?_⟩⟩
  have hi0 : i = 0 := by simpa using hi
  subst hi0
  have hb : Blk (w.alloc (.cells #[.string x0, .int .i64 x1, .bool x2] 104)) w.heap.size 104 #[.string x0, .int .i64 x1, .bool x2] := heap_alloc_last w _
  exact ⟨hb.cell 0, hb.cell 1, hb.cell 2⟩
theorem TgsAt.news {S : Nat → Prop} {w : World} {b off len cap : Nat} {ys : List Tg} (h : TgsAt S w (.slice (some ⟨b, off, none⟩) len cap) ys) : ∀ j u, (TgsRow ys)[j]? = some u → w.cell? ((⟨b, off, none⟩ : Addr).add j) = some u := by
  intro j u hj
  have hlt : j < ys.length * 3 := by
    have := (List.getElem?_eq_some_iff.1 hj).1
    rwa [TgsRow_length] at this
  obtain ⟨_, a, c, hv, hc⟩ := h
  obtain ⟨b', off', ha, _, hcell⟩ := hc (by omega)
  simp only [Value.slice.injEq] at hv
  obtain ⟨rfl, _, _⟩ := hv
  simp only [Option.some.injEq, Addr.mk.injEq] at ha
  obtain ⟨rfl, rfl, _⟩ := ha
  have hk : j / 3 < ys.length := by omega
  have hcc := hcell (j / 3) hk
  have hrr := TgsRow_at ys (j / 3) hk
  rw [addr_at]
  obtain ⟨c0, c1, c2⟩ := hcc
  obtain ⟨r0, r1, r2⟩ := hrr
  have h3 : j % 3 = 0 ∨ j % 3 = 1 ∨ j % 3 = 2 := by omega
  rcases h3 with h3 | h3 | h3
  · have e : j = j / 3 * 3 := by omega
    rw [e] at hj
    rw [r0] at hj
    rw [show off + j = off + j / 3 * 3 by omega, c0, ← hj]
  · have e : j = j / 3 * 3 + 1 := by omega
    rw [e] at hj
    rw [r1] at hj
    rw [show off + j = off + j / 3 * 3 + 1 by omega, c1, ← hj]
  · have e : j = j / 3 * 3 + 2 := by omega
    rw [e] at hj
    rw [r2] at hj
    rw [show off + j = off + j / 3 * 3 + 2 by omega, c2, ← hj]
theorem wpList_appendTgs {ops : Array Oper} {rest : List Oper} {o : Oper} {a : Act} {w : World} {Q : Exit → Act → World → Prop} (hgd : o.guard = none) (s x : Operand)
    (ho : o.op = .call { callee := .builtin .append, args := #[s, x], argTypes := #[57, 57] })
    (B : Nat) (v : Value) (l : List Tg) (hs : a.eval s = v) (hown : OwnTgs B w v l) {S : Nat → Prop} (u : Value) (ys : List Tg) (hx : a.eval x = u) (hsrc : TgsAt S w u ys)
    (hsz : l.length + ys.length ≤ 1000000) (hB : B ≤ w.heap.size)
    (h : ∀ v' w', OwnTgs B w' v' (l ++ ys) → Below B w w' → w.grownBy w' v.ownBlock → (v' = .slice none 0 0 → v = .slice none 0 0) → wpList Tryz.prog ops Q rest (a.put o.dst v') w') : wpList Tryz.prog ops Q (o :: rest) a w := by
  obtain ⟨i, hii, hz0, hz1, hz2⟩ := info_of (t := 104) (z := .agg #[.string ⟨#[]⟩, .int .i64 0, .bool false]) (n := 3) (b := 32) (by kernel_rfl)
  obtain ⟨_, ao, c, hv, hc⟩ := id hsrc
  by_cases h0 : 0 < ys.length
  · obtain ⟨b, off, rfl, _, _⟩ := hc h0
    subst hv
    refine wpList_append_own w hgd s x 57 ho B 104 i (.agg #[.string ⟨#[]⟩, .int .i64 0, .bool false]) 3 32 Tryz.underlying57 hii hz0 hz1 hz2 rfl (by decide) v l.length (TgsRow l) hs hown ⟨b, off, none⟩ ys.length c (TgsRow ys) hx (TgsRow_length ys) hsrc.news (fun u hu => TgsRow_one hu) ?_ ?_ hB ?_
    · unfold maxLen; omega
    · omega
    · intro v' w' h1 h2 h3
      have h4 : OwnTgs B w' v' (l ++ ys) := by
        unfold OwnTgs
        rw [TgsRow_append, List.length_append]
        exact h1
      have h5 := (Below.refl _ w).grown h2 hB (OwnTgs.block hown)
      exact h v' w' h4 h5 h2 (fun e => (h3.1 e).1)
  · have hy : ys = [] := List.length_eq_zero_iff.1 (by omega)
    subst hy
    subst hv
    have hrun : (Builtin.append_ #[57, 57] o.type #[v, .slice ao 0 c]).run Tryz.prog w = .ok v w := run_append_zero Tryz.underlying57 hii v _ _ hown ao c
    refine wpList_plain hgd fun K hK => ?_
    unfold Oper.wp
    simp only [List.length_nil] at hx
    simp [execOp, ho, resolve, invoke, builtin, hs, hx, hrun, Result.andThen]
    exact hK _ _ (h v w (by simpa using hown) (Below.refl _ _) (grown_refl _ _) id)
theorem step_appendTgs {ops : Array Oper} {o : Oper} {a : Act} {w : World} {K : Act → World → Prop} {Q : Exit → Act → World → Prop} {E : Prop}
    (hg : o.guard = none) (s x : Operand) (ho : o.op = Op.call { callee := Callee.builtin Builtin.append, args := #[s, x], argTypes := #[57, 57] })
    (B : Nat) (v : Value) (l : List Tg) (hs : a.eval s = v) (hown : OwnTgs B w v l) {S : Nat → Prop} (u : Value) (ys : List Tg) (hx : a.eval x = u) (hsrc : TgsAt S w u ys)
    (hsz : l.length + ys.length ≤ 1000000) (hB : B ≤ w.heap.size)
    (hK : ∀ va vn vc w', OwnTgs B w' (.slice va vn vc) (l ++ ys) → Below B w w' → w.grownBy w' v.ownBlock → (Value.slice va vn vc = .slice none 0 0 → v = .slice none 0 0) → K (a.put o.dst (.slice va vn vc)) w') :
    if Region.wanted o (yielded ops a.tmps) = true then Oper.wp Tryz.prog o a w K Q else E := by
  have hw : Region.wanted o (yielded ops a.tmps) = true := by simp [Region.wanted, hg]
  rw [if_pos hw]
  obtain ⟨i, hii, hz0, hz1, hz2⟩ := info_of (t := 104) (z := .agg #[.string ⟨#[]⟩, .int .i64 0, .bool false]) (n := 3) (b := 32) (by kernel_rfl)
  obtain ⟨_, ao, c, hv, hc⟩ := id hsrc
  by_cases h0 : 0 < ys.length
  · obtain ⟨b, off, rfl, _, _⟩ := hc h0
    subst hv
    refine wp_append_own w  s x 57 ho B 104 i (.agg #[.string ⟨#[]⟩, .int .i64 0, .bool false]) 3 32 Tryz.underlying57 hii hz0 hz1 hz2 rfl (by decide) v l.length (TgsRow l) hs hown ⟨b, off, none⟩ ys.length c (TgsRow ys) hx (TgsRow_length ys) hsrc.news (fun u hu => TgsRow_one hu) ?_ ?_ hB ?_
    · unfold maxLen; omega
    · omega
    · intro v' w' h1 h2 h3
      have h4 : OwnTgs B w' v' (l ++ ys) := by
        unfold OwnTgs
        rw [TgsRow_append, List.length_append]
        exact h1
      have h5 := (Below.refl _ w).grown h2 hB (OwnTgs.block hown)
      rcases h4.2 with ⟨rfl, _⟩ | ⟨g, cap, cur, rfl, _⟩
      · exact hK _ _ _ w' h4 h5 h2 (fun e => (h3.1 e).1)
      · exact hK _ _ _ w' h4 h5 h2 (fun e => (h3.1 e).1)
  · have hy : ys = [] := List.length_eq_zero_iff.1 (by omega)
    subst hy
    subst hv
    have hrun : (Builtin.append_ #[57, 57] o.type #[v, .slice ao 0 c]).run Tryz.prog w = .ok v w := run_append_zero Tryz.underlying57 hii v _ _ hown ao c
    unfold Oper.wp
    simp only [List.length_nil] at hx
    simp [execOp, ho, resolve, invoke, builtin, hs, hx, hrun, Result.andThen]
    obtain ⟨va, vc, hvv, _⟩ := hown.value
    subst hvv
    exact hK _ _ _ w (by simpa using hown) (Below.refl _ _) (grown_refl _ _) id
theorem TgsRow_take (l : List Tg) (k : Nat) : TgsRow (l.take k) = (TgsRow l).take (k * 3) := by
  induction l generalizing k with
  | nil => simp [TgsRow]
  | cons a t ih =>
    cases k with
    | zero => simp [TgsRow]
    | succ k =>
      have hc : TgsRow (a :: t) = TgsCells a ++ TgsRow t := by simp [TgsRow]
      have hc2 : TgsRow (a :: t.take k) = TgsCells a ++ TgsRow (t.take k) := by simp [TgsRow]
      rw [List.take_succ_cons, hc, hc2, ih, List.take_append]
      have hl : (TgsCells a).length = 3 := rfl
      rw [List.take_of_length_le (l := TgsCells a) (by rw [hl]; omega), hl, show (k + 1) * 3 - 3 = k * 3 by omega]
theorem OwnTgs.take {B g m cap : Nat} {w : World} {l : List Tg} (h : OwnTgs B w (.slice (some ⟨g, 0, none⟩) m cap) l) (k : Nat) (hk : k ≤ l.length) : OwnTgs B w (.slice (some ⟨g, 0, none⟩) k cap) (l.take k) := by
  rcases h.2 with ⟨hv, h0⟩ | ⟨g', cap', cur, hv, hB, hg, h1, h2, h3, h4⟩
  · simp at hv
  · simp at hv
    obtain ⟨rfl, rfl, rfl⟩ := hv
    have hkl : (l.take k).length = k := by rw [List.length_take]; omega
    unfold OwnTgs
    rw [hkl]
    refine ⟨by rw [TgsRow_length, hkl], .inr ⟨g, cap, cur, rfl, hB, hg, by omega, h2, h3, ?_⟩⟩
    rw [TgsRow_take, ← h4, List.take_take]
    congr 1
    omega
theorem OwnTgs.lt {B g m cap : Nat} {w : World} {l : List Tg} (h : OwnTgs B w (.slice (some ⟨g, 0, none⟩) m cap) l) : g < w.heap.size ∧ B ≤ g ∧ m ≤ cap ∧ cap ≤ maxLen ∧ m = l.length := by
  rcases h.2 with ⟨hv, h0⟩ | ⟨g', cap', cur, hv, hB, hg, h1, h2, h3, h4⟩
  · simp at hv
  · simp at hv
    obtain ⟨rfl, rfl, rfl⟩ := hv
    exact ⟨(Array.getElem?_eq_some_iff.1 hg).1, hB, h1, h2, rfl⟩
theorem OwnTgs.cells {B g m c : Nat} {w : World} {l : List Tg} (h : OwnTgs B w (.slice (some ⟨g, 0, none⟩) m c) l) : ∀ j (hj : j < l.length), w.cell? ⟨g, j * 3, none⟩ = some (.string l[j].name) ∧ w.cell? ⟨g, j * 3 + 1, none⟩ = some (.int .i64 l[j].number) ∧ w.cell? ⟨g, j * 3 + 2, none⟩ = some (.bool l[j].sick) := by
  intro j hj
  obtain ⟨a3, c3, hv, _, hc⟩ := h.value
  obtain ⟨g', hg', _, _, hcc⟩ := hc (by omega)
  subst hg'
  simp only [Value.slice.injEq, Option.some.injEq, Addr.mk.injEq, and_true] at hv
  obtain ⟨rfl, _, _⟩ := hv
  exact hcc j hj
theorem OwnTgs.dropAt {B g m cap : Nat} {w : World} {l : List Tg} (h : OwnTgs B w (.slice (some ⟨g, 0, none⟩) m cap) l) (k : Nat) (hk : k ≤ l.length) (c : Nat) : TgsAt (fun b => b = g) w (.slice (some ⟨g, k * 3, none⟩) (l.length - k) c) (l.drop k) := by
  obtain ⟨_, _, h3, h4, h5⟩ := h.lt
  refine ⟨by rw [List.length_drop]; omega, _, c, by rw [List.length_drop], fun _ => ⟨g, k * 3, rfl, rfl, fun i hi => ?_⟩⟩
  have hc := h.cells (k + i) (by simp at hi; omega)
  simp only [List.getElem_drop]
  have e0 : k * 3 + i * 3 = (k + i) * 3 := by omega
  have e1 : k * 3 + i * 3 + 1 = (k + i) * 3 + 1 := by omega
  have e2 : k * 3 + i * 3 + 2 = (k + i) * 3 + 2 := by omega
  rw [e0]
  exact hc
theorem OwnTgs.solid {B : Nat} {w : World} {v : Value} {l : List Tg} (h : OwnTgs B w v l) (hne : v ≠ .slice none 0 0) : ∃ g c, v = .slice (some ⟨g, 0, none⟩) l.length c ∧ B ≤ g := by
  rcases h.2 with ⟨hv, h0⟩ | ⟨g', cap', cur, hv, hB, hg, h1, h2, h3, h4⟩
  · exact absurd hv hne
  · exact ⟨g', cap', hv, hB⟩
theorem OwnTgs.shaped {B m : Nat} {w : World} {v : Value} {l : List Tg} (h : OwnTgs B w v l) (hm : l.length = m) (hp : 0 < m) : ∃ g c, v = .slice (some ⟨g, 0, none⟩) m c ∧ B ≤ g := by
  rcases h.2 with ⟨hv, h0⟩ | ⟨g', cap', cur, hv, hB, hg, h1, h2, h3, h4⟩
  · omega
  · exact ⟨g', cap', by rw [hv, hm], hB⟩
end Go.Proofs.YtdlopjimheaekaaGreatDoor
