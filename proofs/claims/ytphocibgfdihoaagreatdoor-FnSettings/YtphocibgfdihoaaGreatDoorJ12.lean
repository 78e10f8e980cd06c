/-
  Demands in order: impl's inOrder over a map of demands. What impl's Validate answers: its walk. Drawn right rules: spec's RulesOf; what the law on settings asks of rules, layers and what they come to. Rows that the law on settings reads. No statement of the seat is proved here.
-/
import Derived.Test.YtphocibgfdihoaaGreatDoorJ11
namespace Go.Proofs.YtphocibgfdihoaaGreatDoor
open Go.ChangeShapes Go.WideShapes Go.ChangeAt Go.RowKit Go.Maps
open Go.Sort (grow putRow putCells mapBlock onCells heap_grow_old ahead HoldsK flatK get_flatK size_flatK putRowK PermIn SortedIn SWO)
set_option linter.unusedVariables false
set_option linter.unusedSimpArgs false

theorem atOfD (xp : ByteArray) (xk xi xa : Int) (xz : Option Addr) (xn xc : Nat) (xm : Bool) (xd : ByteArray) (w : World) : (method 310 102 (.agg #[.string xp, .string xp, .int .i64 xk, .int .i64 xi, .int .i64 xa, .slice xz xn xc, .bool xm, .string xd]) "loop.example/g00045/impl.at").run Tryz.prog w = .ok (189, .agg #[.string xp]) w := by kernel_rfl
set_option maxRecDepth 100000 in
set_option maxHeartbeats 8000000 in
theorem implCmpDm (xp : ByteArray) (xk xi xa : Int) (xz : Option Addr) (xn xc : Nat) (xm : Bool) (xd : ByteArray) (yp : ByteArray) (yk yi ya : Int) (yz : Option Addr) (yn yc : Nat) (ym : Bool) (yd : ByteArray) (W : World) :
    Calls Tryz.prog 79 #[.agg #[.string xp, .string xp, .int .i64 xk, .int .i64 xi, .int .i64 xa, .slice xz xn xc, .bool xm, .string xd], .agg #[.string yp, .string yp, .int .i64 yk, .int .i64 yi, .int .i64 ya, .slice yz yn yc, .bool ym, .string yd]] W fun e w' => e = .returned (.int .i64 (Lib.compareBytes xp.data.toList yp.data.toList)) ∧ Grew W w' := by
  have hm := atOfD
  obtain ⟨R, hR⟩ : ∃ R, Lib.compareBytes xp.data.toList yp.data.toList = R := ⟨_, rfl⟩
  have cc := fun w => Tryz.strings_Compare xp yp w
  rw [hR] at cc ⊢
  clear hR
  have b1 : Blk ((W.alloc (.cells #[.string xp, .string xp, .int .i64 xk, .int .i64 xi, .int .i64 xa, .slice xz xn xc, .bool xm, .string xd] 102)).alloc (.cells #[.string yp, .string yp, .int .i64 yk, .int .i64 yi, .int .i64 ya, .slice yz yn yc, .bool ym, .string yd] 102)) W.heap.size 102 #[.string xp, .string xp, .int .i64 xk, .int .i64 xi, .int .i64 xa, .slice xz xn xc, .bool xm, .string xd] := Blk.below (show Blk (W.alloc (.cells #[.string xp, .string xp, .int .i64 xk, .int .i64 xi, .int .i64 xa, .slice xz xn xc, .bool xm, .string xd] 102)) W.heap.size 102 #[.string xp, .string xp, .int .i64 xk, .int .i64 xi, .int .i64 xa, .slice xz xn xc, .bool xm, .string xd] from heap_alloc_last W _) ((Below.refl _ _).alloc (Nat.le_refl _) _)
  have b2 : Blk ((W.alloc (.cells #[.string xp, .string xp, .int .i64 xk, .int .i64 xi, .int .i64 xa, .slice xz xn xc, .bool xm, .string xd] 102)).alloc (.cells #[.string yp, .string yp, .int .i64 yk, .int .i64 yi, .int .i64 ya, .slice yz yn yc, .bool ym, .string yd] 102)) (W.heap.size + 1) 102 #[.string yp, .string yp, .int .i64 yk, .int .i64 yi, .int .i64 ya, .slice yz yn yc, .bool ym, .string yd] := by
    have := heap_alloc_last (W.alloc (.cells #[.string xp, .string xp, .int .i64 xk, .int .i64 xi, .int .i64 xa, .slice xz xn xc, .bool xm, .string xd] 102)) (.cells #[.string yp, .string yp, .int .i64 yk, .int .i64 yi, .int .i64 ya, .slice yz yn yc, .bool ym, .string yd] 102)
    rwa [World.size_alloc] at this
  have kp : ∀ w', Grew ((W.alloc (.cells #[.string xp, .string xp, .int .i64 xk, .int .i64 xi, .int .i64 xa, .slice xz xn xc, .bool xm, .string xd] 102)).alloc (.cells #[.string yp, .string yp, .int .i64 yk, .int .i64 yi, .int .i64 ya, .slice yz yn yc, .bool ym, .string yd] 102)) w' → w'.cell? ⟨W.heap.size, 0, none⟩ = some (.string xp) ∧ w'.cell? ⟨W.heap.size, 1, none⟩ = some (.string xp) ∧ w'.cell? ⟨W.heap.size, 2, none⟩ = some (.int .i64 xk) ∧ w'.cell? ⟨W.heap.size, 3, none⟩ = some (.int .i64 xi) ∧ w'.cell? ⟨W.heap.size, 4, none⟩ = some (.int .i64 xa) ∧ w'.cell? ⟨W.heap.size, 5, none⟩ = some (.slice xz xn xc) ∧ w'.cell? ⟨W.heap.size, 6, none⟩ = some (.bool xm) ∧ w'.cell? ⟨W.heap.size, 7, none⟩ = some (.string xd) ∧ w'.cell? ⟨W.heap.size + 1, 0, none⟩ = some (.string yp) ∧ w'.cell? ⟨W.heap.size + 1, 1, none⟩ = some (.string yp) ∧ w'.cell? ⟨W.heap.size + 1, 2, none⟩ = some (.int .i64 yk) ∧ w'.cell? ⟨W.heap.size + 1, 3, none⟩ = some (.int .i64 yi) ∧ w'.cell? ⟨W.heap.size + 1, 4, none⟩ = some (.int .i64 ya) ∧ w'.cell? ⟨W.heap.size + 1, 5, none⟩ = some (.slice yz yn yc) ∧ w'.cell? ⟨W.heap.size + 1, 6, none⟩ = some (.bool ym) ∧ w'.cell? ⟨W.heap.size + 1, 7, none⟩ = some (.string yd) := fun w' hg => by
    have hB := hg.below
    have d1 := b1.below hB
    have d2 := b2.below hB
    exact ⟨d1.cell 0, d1.cell 1, d1.cell 2, d1.cell 3, d1.cell 4, d1.cell 5, d1.cell 6, d1.cell 7, d2.cell 0, d2.cell 1, d2.cell 2, d2.cell 3, d2.cell 4, d2.cell 5, d2.cell 6, d2.cell 7⟩
  have KP : Hid _ := kp
  have HG0 : Grew W ((W.alloc (.cells #[.string xp, .string xp, .int .i64 xk, .int .i64 xi, .int .i64 xa, .slice xz xn xc, .bool xm, .string xd] 102)).alloc (.cells #[.string yp, .string yp, .int .i64 yk, .int .i64 yi, .int .i64 ya, .slice yz yn yc, .bool ym, .string yd] 102)) := ((Grew.refl W).alloc _).alloc _
  clear kp b1 b2
  go_enter Tryz.func79, Tryz.ntmps79
  go_wp2_with fail
  go_region_held3 (fun w' => w'.cell? ⟨W.heap.size, 0, none⟩ = some (.string xp) ∧ w'.cell? ⟨W.heap.size, 1, none⟩ = some (.string xp) ∧ w'.cell? ⟨W.heap.size, 2, none⟩ = some (.int .i64 xk) ∧ w'.cell? ⟨W.heap.size, 3, none⟩ = some (.int .i64 xi) ∧ w'.cell? ⟨W.heap.size, 4, none⟩ = some (.int .i64 xa) ∧ w'.cell? ⟨W.heap.size, 5, none⟩ = some (.slice xz xn xc) ∧ w'.cell? ⟨W.heap.size, 6, none⟩ = some (.bool xm) ∧ w'.cell? ⟨W.heap.size, 7, none⟩ = some (.string xd) ∧ w'.cell? ⟨W.heap.size + 1, 0, none⟩ = some (.string yp) ∧ w'.cell? ⟨W.heap.size + 1, 1, none⟩ = some (.string yp) ∧ w'.cell? ⟨W.heap.size + 1, 2, none⟩ = some (.int .i64 yk) ∧ w'.cell? ⟨W.heap.size + 1, 3, none⟩ = some (.int .i64 yi) ∧ w'.cell? ⟨W.heap.size + 1, 4, none⟩ = some (.int .i64 ya) ∧ w'.cell? ⟨W.heap.size + 1, 5, none⟩ = some (.slice yz yn yc) ∧ w'.cell? ⟨W.heap.size + 1, 6, none⟩ = some (.bool ym) ∧ w'.cell? ⟨W.heap.size + 1, 7, none⟩ = some (.string yd)) (first | (refine KP.out _ ?_; repeat (first | exact Grew.refl _ | apply Grew.alloc | apply Grew.drew))) (first
    | (go_at_call 189; refine (implAt _ _).mono ?_; rintro e w' ⟨rfl, rfl⟩)
    | (go_at_call 67; refine (cc _).mono ?_; rintro e w' ⟨rfl, rfl⟩))
  all_goals go_wp2_with fail
  all_goals go_ret
  all_goals refine ⟨rfl, HG0.trans ?_⟩
  all_goals repeat (first | exact Grew.refl _ | apply Grew.alloc | apply Grew.drew)
instance : Inhabited DemV := ⟨⟨zeroR, none, 0, 0⟩⟩
def cmpDm (x y : DemV) : Int := Lib.compareBytes x.x.path.data.toList y.x.path.data.toList
theorem ltDm (x y : DemV) : ltOf cmpDm x y = lessB x.x.path y.x.path := by
  unfold ltOf cmpDm
  rw [lessB_eq, Bool.eq_iff_iff, decide_eq_true_eq, decide_eq_true_eq, cmpB]
theorem swoDm : SWO (ltOf cmpDm) where
  irrefl x := by rw [ltDm]; exact lessB_irrefl x.x.path
  trans x y z h1 h2 := by rw [ltDm] at *; exact lessB_trans h1 h2
  ntrans x y z h1 h2 := by rw [ltDm] at *; exact lessB_neg h1 h2
/-- What a sort leaves. -/
structure SortedD (l l' : List DemV) : Prop where
  perm : l'.Perm l
  rises : l'.Pairwise fun x y => lessB y.x.path x.x.path = false
theorem implSortDm {B : Nat} {w : World} {v : Value} {l : List DemV} (h : OwnDemVs B w v l) (hl : l.length ≤ 1000000) :
    Calls Tryz.prog 78 #[v, .func (.func 79) #[] #[]] w fun e w' => e = .returned (.tuple #[]) ∧ ∃ l', SortedD l l' ∧ OwnDemVs B w' v l' ∧ w.grownBy w' v.ownBlock := by
  by_cases h0 : l = []
  · subst h0
    obtain ⟨a, cap, rfl, _⟩ := h.value
    refine (AnyF.slices_SortFunc_none { Tryz.sortDem with } a cap _ w).mono ?_
    rintro e w' ⟨rfl, rfl⟩
    exact ⟨rfl, [], ⟨List.Perm.refl _, List.Pairwise.nil⟩, h, grown_refl _ _⟩
  · have hpos : 0 < l.length := by
      cases l with
      | nil => exact absurd rfl h0
      | cons a r => simp
    rcases h.2 with ⟨_, hz⟩ | ⟨g, cap, cur, rfl, hB, hg, hn1, hn2, hn3, hn4⟩
    · omega
    have hk : ∀ x : DemV, (DemVsCells x).length = 8 := fun _ => rfl
    have hH : HoldsK DemVsCells 8 w g 0 l.toArray := holdsK_of_block hk (by omega) hg hn4
    have eg : ∀ args w, (callFunc 79 args).run Tryz.prog w = .ok (.enter 79 args) w := enters_of Tryz.func79 (by kernel_rfl) rfl
    have hcmp : CmpLays Tryz.prog 79 #[] DemVsCells 8 cmpDm g 0 l.toArray.size w := by
      intro m os dk _ x y
      obtain ⟨⟨xp, xk, xi, xa, xs, xm, xd⟩, xz, xn, xc⟩ := x
      obtain ⟨⟨yp, yk, yi, ya, ys, ym, yd⟩, yz, yn, yc⟩ := y
      exact implCmpDm xp xk xi xa xz xn xc xm xd yp yk yi ya yz yn yc ym yd _
    have hcon := AnyQ.slices_SortFunc Tryz.sortDem 8 Tryz.isAgg102 Tryz.sizeOf102 DemVsCells hk (fun x v hv => by
      simp [DemVsCells] at hv
      rcases hv with rfl | rfl | rfl | rfl | rfl | rfl | rfl <;> rfl) cmpDm swoDm 79 #[] g 0 cap l.toArray w eg hcmp hH (Array.getElem?_eq_some_iff.1 hg).1 (by simp; omega)
    have e1 : l.length = l.toArray.size := by simp
    rw [e1]
    refine Calls.mono hcon ?_
    rintro e w' ⟨rfl, d', n, os, hp, hso, rfl⟩
    have hsize : d'.toList.length = l.length := by rw [Array.length_toList, hp.1]; simp
    refine ⟨rfl, d'.toList, ⟨perm_of hp, ?_⟩, ?_, grownBy_sortedK d'⟩
    · refine (sorted_of hp hso).imp ?_
      intro a b hab
      rw [ltDm] at hab
      exact hab
    · have := ownsRow_sortedK (n := n) (os := os) hk (by omega) hsize hB hg hn1 hn2 hn3
      unfold OwnDemVs DemVsRow
      rw [hsize]
      simpa using this
/-- A demand as a value. -/
def dv (d : DemV) : Value := dVal d.x d.cv
/-- All of a demand that its value shows: its choices lie elsewhere. -/
def Shown (d e : DemV) : Prop := d.x.path = e.x.path ∧ d.x.kind = e.x.kind ∧ d.x.min' = e.x.min' ∧ d.x.max' = e.x.max' ∧ d.x.must = e.x.must ∧ d.x.default' = e.x.default' ∧ d.a = e.a ∧ d.n = e.n ∧ d.c = e.c
theorem dv_shown {d e : DemV} (h : dv d = dv e) : Shown d e := by
  unfold dv dVal DemV.cv at h
  simp only [Value.agg.injEq, Array.mk.injEq, List.cons.injEq, Value.string.injEq, Value.int.injEq, Value.slice.injEq, Value.bool.injEq, true_and, and_true] at h
  obtain ⟨h1, _, h2, h3, h4, ⟨h5, h6, h7⟩, h8, h9⟩ := h
  exact ⟨h1, h2, h3, h4, h8, h9, h5, h6, h7⟩
theorem heldD_some {v : Value} {y : DataW Value × List MemPlace} (h : heldD v = some y) : ∃ d : DemV, v = dv d ∧ y = (.held (dv d), []) := by
  unfold heldD at h
  split at h
  · rename_i hq
    obtain ⟨r, a, n, c, rfl⟩ := hq
    cases h
    exact ⟨⟨r, a, n, c⟩, rfl, rfl⟩
  · cases h
theorem heldD_dv (d : DemV) : heldD (dv d) = some (.held (dv d), []) := heldD_mk d.x d.a d.n d.c
theorem RepD.has {D : DataW Value} {f : ByteArray → Option Value} (h : RepD D f) (p : ByteArray) : has D (textKey p) = (f p).isSome := by
  cases hf : f p with
  | none => rw [(h p).2 hf]; rfl
  | some s => rw [has_true_of_atKey ((h p).1 s hf)]; rfl
theorem RepD.some {D : DataW Value} {f : ByteArray → Option Value} (h : RepD D f) {p : ByteArray} {v : Value} (ha : ∀ z, D.atKey (textKey p) z = .held v) : f p = Option.some v := by
  cases hf : f p with
  | none => have := (h p).2 hf; rw [has_true_of_atKey ha] at this; cases this
  | some t =>
    have h1 := (h p).1 t hf (.held .nilFunc)
    rw [ha] at h1
    simp only [DataW.held.injEq] at h1
    rw [h1]
/-- The step of a range over a map of demands. -/
theorem wpList_nextD (w : World) {ops : Array Oper} {rest : List Oper} {o : Oper} {a : Act} {Q : Exit → Act → World → Prop}
    (hg : o.guard = none) (it : Operand) (hop : o.op = Op.next it false) (b r n : Nat) (D : DataW Value) (left : Lit → Bool) (cnt : Nat) (hit : a.eval it = .pointer (some ⟨r, 0, none⟩)) (h : w.ranges Tryz.prog 9 heldD b r n D left cnt)
    (hDone : cnt = 0 → (∀ kl, left kl = false) → wpList Tryz.prog ops Q rest (a.put o.dst (.tuple #[.bool false])) w)
    (hMore : ∀ (x : ByteArray) (d : DemV) (w' : World) (cnt' : Nat), left (textKey x) = true → (∀ zd, D.atKey (textKey x) zd = .held (dv d)) → keyOf Tryz.prog 9 (.string x) = some (textKey x) → w'.ranges Tryz.prog 9 heldD b r n D (fun z => left z && !z.sameKey (textKey x)) cnt' → cnt' < cnt →
      w.grownBy w' (some r) → w'.heap.size = w.heap.size → (Instr.entry (.pointer (some ⟨r, 0, none⟩))).run Tryz.prog w' = .ok (.tuple #[.string x, dv d]) w' → wpList Tryz.prog ops Q rest (a.put o.dst (.tuple #[.bool true, .string x, dv d])) w') :
    wpList Tryz.prog ops Q (o :: rest) a w :=
  wpList_next_ranges w hg it hop 9 law9 heldD Value.string dv (fun key kl hkey => by obtain ⟨x, rfl, _⟩ := key_inv hkey; exact ⟨x, rfl⟩) (fun v y hv => by obtain ⟨c, rfl, _⟩ := heldD_some hv; exact ⟨c, rfl⟩)
    b r n D left cnt hit h hDone (fun x c kl y w' cnt' hkey hlk hv hat hrg hlt hgr hsz hen => by
      obtain ⟨x', ex, rfl⟩ := key_inv hkey
      cases ex
      rw [heldD_dv] at hv
      cases hv
      exact hMore x c w' cnt' hlk hat hkey hrg hlt hgr hsz hen)
/-- f's demands stand at their own paths, and one value is one demand's as far as it shows. -/
def AtOwn (f : ByteArray → Option Value) : Prop := ∀ p d, f p = some (dv d) → d.x.path = p
/-- What has been told so far. -/
structure ToldD (f : ByteArray → Option Value) (acc : List DemV) (left : Lit → Bool) : Prop where
  of : ∀ d ∈ acc, f d.x.path = some (dv d) ∧ left (textKey d.x.path) = false
  all : ∀ p v, f p = some v → left (textKey p) = false → ∃ d ∈ acc, d.x.path = p ∧ dv d = v
  apart : acc.Pairwise fun x y => x.x.path ≠ y.x.path
theorem ToldD.start {D : DataW Value} {f : ByteArray → Option Value} (h : RepD D f) : ToldD f [] (has D) := by
  refine ⟨fun d hd => (by cases hd), fun p v hp hl => ?_, List.Pairwise.nil⟩
  rw [h.has, hp] at hl
  cases hl
theorem ToldD.step {f : ByteArray → Option Value} {acc : List DemV} {left : Lit → Bool} {x : ByteArray} {c : DemV} (h : ToldD f acc left) (ho : AtOwn f) (hx : f x = some (dv c)) (hl : left (textKey x) = true) : ToldD f (acc ++ [c]) (fun z => left z && !z.sameKey (textKey x)) := by
  have hp := ho x c hx
  subst hp
  refine ⟨fun d hd => ?_, fun p v hv hq => ?_, ?_⟩
  · rw [List.mem_append, List.mem_singleton] at hd
    simp only [same_text]
    rcases hd with hd | rfl
    · have := h.of d hd
      exact ⟨this.1, by rw [this.2]; rfl⟩
    · exact ⟨hx, by simp⟩
  · simp only [same_text] at hq
    by_cases e : p = c.x.path
    · subst e
      rw [hx] at hv
      cases hv
      exact ⟨c, by simp, rfl, rfl⟩
    · obtain ⟨d, h1, h2⟩ := h.all p v hv (by simpa [e] using hq)
      exact ⟨d, by simp [h1], h2⟩
  · rw [List.pairwise_append]
    refine ⟨h.apart, by simp, fun a ha b hb e => ?_⟩
    simp at hb
    subst hb
    have := (h.of a ha).2
    rw [e, hl] at this
    cases this
/-- A map's demands by their paths. -/
structure InOrd (f : ByteArray → Option Value) (L : List DemV) : Prop where
  of : ∀ d ∈ L, f d.x.path = some (dv d)
  all : ∀ p v, f p = some v → ∃ d ∈ L, d.x.path = p ∧ dv d = v
  rises : L.Pairwise fun x y => lessB x.x.path y.x.path = true
theorem ToldD.end {f : ByteArray → Option Value} {acc l : List DemV} {left : Lit → Bool} (h : ToldD f acc left) (hl : ∀ k, left k = false) (hs : SortedD acc l) : InOrd f l := by
  have hn : l.Pairwise fun x y => x.x.path ≠ y.x.path := (hs.perm.pairwise_iff (fun {_ _} h => Ne.symm h)).2 h.apart
  refine ⟨fun d hd => (h.of d (hs.perm.mem_iff.1 hd)).1, fun p v hv => ?_, ?_⟩
  · obtain ⟨d, h1, h2⟩ := h.all p v hv (hl _)
    exact ⟨d, hs.perm.mem_iff.2 h1, h2⟩
  · rw [List.pairwise_iff_getElem]
    intro i j hi hj hij
    rcases lessB_total (List.pairwise_iff_getElem.1 hn i j hi hj hij) with q | q
    · exact q
    · rw [List.pairwise_iff_getElem.1 hs.rises i j hi hj hij] at q; cases q
theorem DemVsAt.newAt (w : World) (xp : ByteArray) (xk xi xa : Int) (xs : List ByteArray) (xz : Option Addr) (xn xc : Nat) (xm : Bool) (xd : ByteArray) (g : Nat) (hg : w.heap.size = g) : DemVsAt (fun b => b = g) (w.alloc (.cells #[.string xp, .string xp, .int .i64 xk, .int .i64 xi, .int .i64 xa, .slice xz xn xc, .bool xm, .string xd] 102)) (.slice (some ⟨g, 0, none⟩) 1 1) [⟨⟨xp, xk, xi, xa, xs, xm, xd⟩, xz, xn, xc⟩] := by
  subst hg
  refine ⟨by simp [maxLen], _, 1, rfl, fun _ => ⟨w.heap.size, 0, rfl, rfl, fun i hi => ?_⟩⟩
  have hi0 : i = 0 := by simpa using hi
  subst hi0
  have hb : Blk (w.alloc (.cells #[.string xp, .string xp, .int .i64 xk, .int .i64 xi, .int .i64 xa, .slice xz xn xc, .bool xm, .string xd] 102)) w.heap.size 102 #[.string xp, .string xp, .int .i64 xk, .int .i64 xi, .int .i64 xa, .slice xz xn xc, .bool xm, .string xd] := heap_alloc_last w _
  exact ⟨hb.cell 0, hb.cell 1, hb.cell 2, hb.cell 3, hb.cell 4, hb.cell 5, hb.cell 6, hb.cell 7⟩
theorem dem_one (l : List DemV) : DemVsOne l := fun x _ => rfl
set_option maxRecDepth 100000 in
set_option maxHeartbeats 4000000 in
theorem implInOrderD {w : World} {b n : Nat} {f : ByteArray → Option Value} (h : MapD w b n f) (ho : AtOwn f) (hn : n ≤ 4000) :
    Calls Tryz.prog 50 #[.map (some b)] w fun e w' => (∃ p L, e = .returned p ∧ OwnDemVs w.heap.size w' p L ∧ InOrd f L ∧ L.length ≤ 4000) ∧ Below w.heap.size w w' := by
  have hlt := h.lt
  obtain ⟨D, hown, hrep⟩ := h
  have hsize := hown.size_le
  have HOF : Hid (AtOwn f) := ho
  have HREP : Hid (RepD D f) := hrep
  have HST : Hid (ToldD f [] (has D)) := ToldD.start hrep
  clear ho hrep
  go_enter Tryz.func50, Tryz.ntmps50
  go_wp2_with (first
    | (at_range; refine wpList_range_own _ rfl _ 65 rfl 9 102 law9 Tryz.underlying65 _ b n _ rfl hown ?_; intro w0 hrg0 hg0 hs0)
    | go_in)
  go_frame
  have hb0 : Below w.heap.size w w0 := (Below.refl _ w).grown hg0 (Nat.le_refl _) (fun j hj => by cases hj)
  go_loopw [3] (fun i3 wr => ∃ (left : Lit → Bool) (cnt : Nat) (aa : Option Addr) (ac : Nat) (acc : List DemV), i3 = .slice aa acc.length ac ∧ wr.ranges Tryz.prog 9 heldD b w.heap.size n D left cnt ∧ ToldD f acc left ∧ acc.length + cnt ≤ n ∧ OwnDemVs (w.heap.size + 1) wr (.slice aa acc.length ac) acc ∧ Below w.heap.size w wr) (fun _ wr => wr.rangeLeft b w.heap.size)
  case atStart => exact ⟨_, _, none, 0, [], rfl, hrg0, HST.out, by simpa using hsize, OwnDemVs.nil _ _, hb0⟩
  case round =>
    obtain ⟨left, cnt, aa, ac, acc, rfl, hrg, htold, hac, hoa, hb⟩ := hrel
    have HTO : Hid (ToldD f acc left) := htold
    have HOA : Hid (OwnDemVs (w.heap.size + 1) wr (.slice aa acc.length ac) acc) := hoa
    have hbs := hrg.lt
    have hacn : acc.length ≤ 4000 := by omega
    clear htold hoa hg0 hrg0
    go_wp2_with (first
      | (at_next; refine wpList_nextD _ rfl _ rfl b w.heap.size n _ _ _ rfl hrg ?_ ?_)
      | go_in)
    · intro _ hl0
      have cs := implSortDm HOA.out (by omega)
      go_wp2_with (go_at_call 78; go_must (refine cs.mono ?_; rintro e w2 ⟨rfl, l2, hso, hop, hgr⟩))
      have hl2 := HTO.out.end hl0 hso
      have hlen := hso.perm.length_eq
      go_ret
      exact ⟨⟨_, l2, rfl, OwnDemVs.mono hop (Nat.le_succ _), hl2, by omega⟩, hb.grown hgr hb.size (fun j hj => Nat.le_trans (Nat.le_succ _) (OwnDemVs.block HOA.out j hj))⟩
    · intro x d w2 cnt1 hlx hat hkey hrg1 hlt1 hg1 hs1 hen
      have hcx := HREP.out.some hat
      have HT2 : Hid (ToldD f (acc ++ [d]) (fun z => left z && !z.sameKey (textKey x))) := HTO.out.step HOF.out hcx hlx
      have hb2 : Below w.heap.size w w2 := hb.grown hg1 hb.size (fun j hj => by cases hj; exact Nat.le_refl _)
      have hoa2 : OwnDemVs (w.heap.size + 1) w2 (.slice aa acc.length ac) acc := HOA.out.kept hg1 (.inr (fun e => by
        have := OwnDemVs.block HOA.out w.heap.size e
        omega))
      have HOA2 : Hid (OwnDemVs (w.heap.size + 1) w2 (.slice aa acc.length ac) acc) := hoa2
      have HRG1 : Hid (w2.ranges Tryz.prog 9 heldD b w.heap.size n D (fun z => left z && !z.sameKey (textKey x)) cnt1) := hrg1
      have hw2s : w.heap.size + 1 ≤ w2.heap.size := by have := hrg1.lt; omega
      obtain ⟨⟨xp, xk, xi, xa, xs, xm, xd⟩, xz, xn, xc⟩ := d
      unfold dv dVal DemV.cv at hen ⊢
      dsimp only at hen ⊢
      have hbk : ∀ o, Below w2.heap.size w2 ((w2.alloc (.cells #[.string xp, .string xp, .int .i64 xk, .int .i64 xi, .int .i64 xa, .slice xz xn xc, .bool xm, .string xd] 102)).alloc o) := fun o => ((Below.refl _ w2).alloc (Nat.le_refl _) _).alloc (by simp) _
      clear hat hcx hoa2 hrg1 hs1
      go_wp2_with (at_builtin; go_must (refine wpList_appendDemVs rfl (.tmp 12) (.tmp 14) rfl (w.heap.size + 1) (.slice aa acc.length ac) acc rfl (OwnDemVs.below HOA2.out (hbk _)) _ [⟨⟨xp, xk, xi, xa, xs, xm, xd⟩, xz, xn, xc⟩] rfl (DemVsAt.newAt _ xp xk xi xa xs xz xn xc xm xd _ (by simp)) (by simp <;> omega) (by simp only [World.size_alloc]; omega) (dem_one _) ?_; intro v9 w9 hown9 hB9 hgr9 hnil9; obtain ⟨a9, c9, e9, -⟩ := hown9.value; subst e9))
      have hnb : ∀ j, (Value.slice aa acc.length ac).ownBlock = some j → w.heap.size + 1 ≤ j := OwnDemVs.block HOA2.out
      have hrg9 : w9.ranges Tryz.prog 9 heldD b w.heap.size n D (fun z => left z && !z.sameKey (textKey x)) cnt1 := ((HRG1.out.alloc _).alloc _).kept hgr9 (fun e => by have := hnb b e.symm; omega) (fun e => by have := hnb _ e.symm; omega)
      refine ⟨⟨_, cnt1, a9, c9, acc ++ [⟨⟨xp, xk, xi, xa, xs, xm, xd⟩, xz, xn, xc⟩], by simp, hrg9, HT2.out, by simp; omega, hown9, ?_⟩, ?_⟩
      · exact ((hb2.alloc hb2.size _).alloc (by simp; omega) _).grown hgr9 (by simp; omega) (fun j hj => Nat.le_trans (Nat.le_succ _) (hnb j hj))
      · rw [hrg9.left_eq, hrg.left_eq]; exact hlt1
end Go.Proofs.YtphocibgfdihoaaGreatDoor

namespace Go.Proofs.YtphocibgfdihoaaGreatDoor
open Go.ChangeShapes Go.WideShapes Go.ChangeAt Go.RowKit Go.Maps
set_option linter.unusedVariables false
set_option linter.unusedSimpArgs false

theorem book_own {l : List Rule} {cv : Nat → Value} : ∀ n, AtOwn (bookK l cv n)
  | 0 => fun p d h => by cases h
  | n + 1 => fun p d h => by
    unfold bookK at h
    split at h
    · rename_i r hr
      by_cases e : p = r.path
      · rw [if_pos e] at h
        simp only [Option.some.injEq] at h
        unfold dv dVal at h
        simp only [Value.agg.injEq, Array.mk.injEq, List.cons.injEq, Value.string.injEq] at h
        exact h.1.symm.trans e.symm
      · rw [if_neg e] at h
        exact book_own n p d h
    · exact book_own n p d h
theorem dv_must {d : DemV} {r : Rule} {v : Value} (h : dv d = dVal r v) : d.x.path = r.path ∧ d.x.must = r.must := by
  unfold dv dVal at h
  simp only [Value.agg.injEq, Array.mk.injEq, List.cons.injEq, Value.string.injEq, Value.bool.injEq] at h
  exact ⟨h.1, h.2.2.2.2.2.2.1⟩
theorem lost_same {l : List Rule} {cv : Nat → Value} {L : List DemV} (hA : rulesB l = true) (h : InOrd (bookK l cv l.length) L) (O : List Setting) : (L.filter (fun d => lostB O d.x)).map (fun d => d.x.path) = sortB (lostP l O) := by
  have hap := (rules_all hA).2
  have hu : ∀ j (hj : j < l.length) i (hi : i < l.length), i ≠ j → l[i].path ≠ l[j].path := fun j hj i hi hne e => by
    have := (hap j hj).2.2.1 i hi hne
    rw [e] at this
    unfold withinB at this
    simp at this
  refine rises_eq ?_ (sortB_rises _) (fun x => ?_)
  · unfold Rises
    rw [List.pairwise_map]
    exact h.rises.filter _
  · rw [sortB_mem]
    unfold lostP
    simp only [List.mem_map, List.mem_filter]
    constructor
    · rintro ⟨d, ⟨hd, hl⟩, rfl⟩
      have h1 := h.of d hd
      rw [book_rule hA] at h1
      cases hk : ruleO l d.x.path with
      | none => rw [hk] at h1; cases h1
      | some k =>
        have hkl := rule_lt hk
        rw [hk] at h1
        simp only [List.getElem?_eq_getElem hkl, Option.map_some, Option.some.injEq] at h1
        obtain ⟨e1, e2⟩ := dv_must h1.symm
        refine ⟨l[k], ⟨List.getElem_mem hkl, ?_⟩, e1.symm⟩
        unfold lostB at hl ⊢
        rw [← e1, ← e2]
        exact hl
    · rintro ⟨r, ⟨hr, hl⟩, rfl⟩
      obtain ⟨k, hkl, rfl⟩ := List.getElem_of_mem hr
      have h1 : bookK l cv l.length l[k].path = some (dVal l[k] (cv k)) := bookK_some hkl rfl (fun i hi hne => hu k hkl i hi hne) _ hkl
      obtain ⟨d, hd, e0, ev⟩ := h.all _ _ h1
      obtain ⟨e1, e2⟩ := dv_must ev
      refine ⟨d, ⟨hd, ?_⟩, e0⟩
      unfold lostB at hl ⊢
      rw [e1, e2]
      exact hl
theorem look_has (O : List Setting) (p : ByteArray) : (lookS O p).isSome = hasB (O.map Setting.path) p := by
  rw [Bool.eq_iff_iff, hasB_mem]
  unfold lookS
  rw [List.find?_isSome]
  simp only [List.mem_map]
  constructor
  · rintro ⟨s, hs, he⟩
    rw [beq_bytes, decide_eq_true_eq] at he
    exact ⟨s, hs, he⟩
  · rintro ⟨s, hs, he⟩
    exact ⟨s, hs, by rw [beq_bytes, decide_eq_true_eq]; exact he⟩
set_option maxRecDepth 100000 in
set_option maxHeartbeats 16000000 in
theorem implCode {S : Nat → Prop} {l0 : List Rule} {w : World} {bd bm nd : Nat} {cv : Nat → Value} (hS : ∀ b, S b → b < w.heap.size) (hmd : MapD w bd nd (bookK l0 cv l0.length)) (hcv : ∀ k (hk : k < l0.length), TxtsAt S w (cv k) l0[k].choices) (hA : rulesB l0 = true) (sp st sf : ByteArray) (hp : sp.size ≤ 1048576) (ht : st.size ≤ 65536) :
    Calls Tryz.prog 49 #[.agg #[.map (some bd), .map (some bm)], .agg #[.string sp, .string st, .string sf]] w fun e w' => e = .returned (.int .i64 (setCode l0 ⟨sp, st, sf⟩)) ∧ Below w.heap.size w w' := by
  have hbd := hmd.lt
  have hbA0 : Below w.heap.size w ((w.alloc (.cells #[.map (some bd), .map (some bm)] 69)).alloc (.cells #[.string sp, .string st, .string sf] 76)) := ((Below.refl _ w).alloc (Nat.le_refl _) _).alloc (by simp) _
  have kA0 : Blk ((w.alloc (.cells #[.map (some bd), .map (some bm)] 69)).alloc (.cells #[.string sp, .string st, .string sf] 76)) w.heap.size 69 #[.map (some bd), .map (some bm)] := Blk.below (show Blk (w.alloc (.cells #[.map (some bd), .map (some bm)] 69)) w.heap.size 69 _ from heap_alloc_last w _) ((Below.refl _ _).alloc (Nat.le_refl _) _)
  have kB0 : Blk ((w.alloc (.cells #[.map (some bd), .map (some bm)] 69)).alloc (.cells #[.string sp, .string st, .string sf] 76)) (w.heap.size + 1) 76 #[.string sp, .string st, .string sf] := by
    have := heap_alloc_last (w.alloc (.cells #[.map (some bd), .map (some bm)] 69)) (.cells #[.string sp, .string st, .string sf] 76)
    rwa [World.size_alloc] at this
  have hsA0 : ((w.alloc (.cells #[.map (some bd), .map (some bm)] 69)).alloc (.cells #[.string sp, .string st, .string sf] 76)).heap.size = w.heap.size + 2 := by simp
  have hbr := book_rule hA cv sp
  have hlk := fun (W : World) (hW : Below w.heap.size w W) => (hmd.below hW).look hp
  rw [hbr] at hlk
  have hcode : setCode l0 ⟨sp, st, sf⟩ = codeK l0 st (ruleO l0 sp) := rfl
  rw [hcode]
  cases hK : ruleO l0 sp with
  | none =>
    rw [hK] at hlk
    dsimp only at hlk
    unfold dVal zeroR at hlk
    simp only [Option.getD_none, Option.isSome_none] at hlk
    have hlA := hlk _ hbA0
    show Calls _ _ _ _ (fun e w' => e = .returned (.int .i64 7) ∧ _)
    clear hcv hbr hlk hK hA hS hmd hcode
    go_enter Tryz.func49, Tryz.ntmps49
    go_upto_region 1 with fail
    obtain ⟨wA, hwA⟩ : ∃ wA, (w.alloc (.cells #[.map (some bd), .map (some bm)] 69)).alloc (.cells #[.string sp, .string st, .string sf] 76) = wA := ⟨_, rfl⟩
    rw [hwA] at hbA0 kA0 kB0 hsA0 hlA ⊢
    have e0 := kA0.cell 0
    have e1 := kB0.cell 0
    simp at e0 e1
    clear hwA kA0 kB0
    go_wp2_with fail
    go_ret
    exact ⟨rfl, hbA0.alloc hbA0.size _⟩
  | some k =>
    rw [hK] at hlk
    have hkl := rule_lt hK
    have hck := hcv k hkl
    obtain ⟨za, zc, hzv⟩ := hck.shape
    dsimp only at hlk
    rw [List.getElem?_eq_getElem hkl] at hlk
    have hli : codeK l0 st (some k) = (fitP l0[k] st).2 := by unfold codeK; simp only [List.getElem?_eq_getElem hkl]
    rw [hli]
    have hfit := fun (W : World) (hW : Below w.heap.size w W) => implFit l0[k] (cv k) W (fun b hb => Nat.lt_of_lt_of_le (hS b hb) hW.size) (hck.keep (cells_below hS hW)) st ht
    obtain ⟨x, hx⟩ : ∃ x, l0[k] = x := ⟨_, rfl⟩
    rw [hx] at hlk hzv hfit ⊢
    rw [hzv] at hlk hfit
    obtain ⟨xp, xk, xi, xa, xc, xm, xd⟩ := x
    simp only [Option.map_some, Option.getD_some, Option.isSome_some] at hlk
    unfold dVal at hlk hfit
    dsimp only at hlk hfit
    have hlA := hlk _ hbA0
    obtain ⟨FV, hFV⟩ : ∃ FV, fitP ⟨xp, xk, xi, xa, xc, xm, xd⟩ st = FV := ⟨_, rfl⟩
    rw [hFV] at hfit ⊢
    obtain ⟨f1, f2⟩ := FV
    dsimp only at hfit ⊢
    have HFT : Hid (∀ (W : World) (hW : Below w.heap.size w W), Calls Tryz.prog 51 #[.agg #[.string xp, .string xp, .int .i64 xk, .int .i64 xi, .int .i64 xa, .slice za xc.length zc, .bool xm, .string xd], .string st] W fun e w' => e = .returned (.tuple #[.int .i64 f1, .int .i64 f2]) ∧ Below W.heap.size W w') := hfit
    clear hcv hbr hlk hK hA hS hmd hcode hck hli hx hzv hfit hFV
    go_enter Tryz.func49, Tryz.ntmps49
    go_upto_region 1 with fail
    obtain ⟨wA, hwA⟩ : ∃ wA, (w.alloc (.cells #[.map (some bd), .map (some bm)] 69)).alloc (.cells #[.string sp, .string st, .string sf] 76) = wA := ⟨_, rfl⟩
    rw [hwA] at hbA0 kA0 kB0 hsA0 hlA ⊢
    have e0 := kA0.cell 0
    have e1 := kB0.cell 0
    simp at e0 e1
    have bAB : Below wA.heap.size wA (wA.alloc (.cells #[.string xp, .string xp, .int .i64 xk, .int .i64 xi, .int .i64 xa, .slice za xc.length zc, .bool xm, .string xd] 102)) := (Below.refl _ wA).alloc (Nat.le_refl _) _
    have kC0 : Blk (wA.alloc (.cells #[.string xp, .string xp, .int .i64 xk, .int .i64 xi, .int .i64 xa, .slice za xc.length zc, .bool xm, .string xd] 102)) wA.heap.size 102 #[.string xp, .string xp, .int .i64 xk, .int .i64 xi, .int .i64 xa, .slice za xc.length zc, .bool xm, .string xd] := heap_alloc_last wA _
    have kB1 := kB0.below bAB
    have hbB := good_below hbA0 bAB
    rw [hsA0] at kC0
    clear hwA
    go_upto_region 4 with fail
    try rw [hsA0]
    obtain ⟨wB, hwB⟩ : ∃ wB, wA.alloc (.cells #[.string xp, .string xp, .int .i64 xk, .int .i64 xi, .int .i64 xa, .slice za xc.length zc, .bool xm, .string xd] 102) = wB := ⟨_, rfl⟩
    rw [hwB] at bAB kC0 kB1 hbB ⊢
    clear hwB bAB kA0 kB0 hbA0 hlA e0 e1 hsA0
    have q0 := kC0.cell 0
    have q1 := kC0.cell 1
    have q2 := kC0.cell 2
    have q3 := kC0.cell 3
    have q4 := kC0.cell 4
    have q5 := kC0.cell 5
    have q6 := kC0.cell 6
    have q7 := kC0.cell 7
    have j1 := kB1.cell 1
    simp at q0 q1 q2 q3 q4 q5 q6 q7 j1
    have cf := HFT.out wB hbB
    clear kC0 kB1
    go_wp2_with (go_at_call 51; go_must (refine cf.mono ?_; rintro e w7 ⟨rfl, hb7⟩))
    go_ret
    exact ⟨rfl, good_below hbB hb7⟩
theorem take_lost {L : List DemV} {O : List Setting} {j : Nat} (hj : j < L.length) : ((L.take (j + 1)).filter (fun d => lostB O d.x)).map (fun d => nameFault d.x.path) = ((L.take j).filter (fun d => lostB O d.x)).map (fun d => nameFault d.x.path) ++ (if lostB O L[j].x then [nameFault L[j].x.path] else []) := by
  rw [List.take_succ_eq_append_getElem hj, List.filter_append, List.map_append]
  congr 1
  cases hq : lostB O L[j].x <;> simp [hq]
set_option maxRecDepth 100000 in
set_option maxHeartbeats 16000000 in
theorem implFaults {S : Nat → Prop} {l0 : List Rule} {O : List Setting} {w : World} {bd bm nd nm : Nat} {cv : Nat → Value} (hS : ∀ b, S b → b < w.heap.size) (hmd : MapD w bd nd (bookK l0 cv l0.length)) (hms : MapS w bm nm O) (hcv : ∀ k (hk : k < l0.length), TxtsAt S w (cv k) l0[k].choices) (hA : rulesB l0 = true) (hO : ∀ s ∈ O, s.text.size ≤ 200) (hF : Fair O) (hR : SRises O) (hol : O.length ≤ 2000) (hnd : nd ≤ 100) (hnm : nm ≤ 2000) (hok : ∀ x ∈ l0, RulesOK 1048576 x) :
    Calls Tryz.prog 23 #[.agg #[.map (some bd), .map (some bm)]] w fun e w' => (∃ p, e = .returned p ∧ OwnFaults w.heap.size w' p (faultsF l0 O)) ∧ Below w.heap.size w w' := by
  have hbd := hmd.lt
  have hbm := hms.lt
  have hbA0 : Below w.heap.size w (w.alloc (.cells #[.map (some bd), .map (some bm)] 69)) := (Below.refl _ w).alloc (Nat.le_refl _) _
  have kA0 : Blk (w.alloc (.cells #[.map (some bd), .map (some bm)] 69)) w.heap.size 69 #[.map (some bd), .map (some bm)] := heap_alloc_last w _
  have ci := implInOrder (hms.below hbA0) hR (by omega)
  have HMD : Hid (MapD w bd nd (bookK l0 cv l0.length)) := hmd
  have HMS : Hid (MapS w bm nm O) := hms
  have HCV : Hid (∀ k (hk : k < l0.length), TxtsAt S w (cv k) l0[k].choices) := hcv
  have HA : Hid (rulesB l0 = true) := hA
  have HS : Hid (∀ b, S b → b < w.heap.size) := hS
  have HW : Hid (∀ s ∈ O, s.text.size ≤ 200) := hO
  have HFA : Hid (Fair O) := hF
  have hol' : (O.length : Int) ≤ 2000 := by omega
  obtain ⟨PL, hPL⟩ : ∃ PL, faultsF l0 O = PL := ⟨_, rfl⟩
  rw [hPL]
  have HPL : Hid (faultsF l0 O = PL) := hPL
  have cD := fun (W : World) (hW : Below w.heap.size w W) => implInOrderD (HMD.out.below hW) (book_own _) (by omega)
  have hLz : ∀ L, InOrd (bookK l0 cv l0.length) L → ∀ d ∈ L, d.x.path.size ≤ 1048576 := fun L hL d hd => by
    have h1 := hL.of d hd
    rw [book_rule HA.out] at h1
    cases hk : ruleO l0 d.x.path with
    | none => rw [hk] at h1; cases h1
    | some k =>
      have hkl := rule_lt hk
      rw [hk] at h1
      simp only [List.getElem?_eq_getElem hkl, Option.map_some, Option.some.injEq] at h1
      obtain ⟨e1, e2⟩ := dv_must h1.symm
      rw [e1]
      have := hok l0[k] (List.getElem_mem hkl)
      unfold RulesOK at this
      omega
  have HLZ : Hid (∀ L, InOrd (bookK l0 cv l0.length) L → ∀ d ∈ L, d.x.path.size ≤ 1048576) := hLz
  have HLOST : Hid (∀ L, InOrd (bookK l0 cv l0.length) L → (L.filter (fun d => lostB O d.x)).map (fun d => d.x.path) = sortB (lostP l0 O)) := fun L hL => lost_same HA.out hL O
  clear hmd hms hcv hA hS hO hF hR hPL hLz hok
  go_enter Tryz.func23, Tryz.ntmps23
  go_upto_region 2 with fail
  obtain ⟨wA, hwA⟩ : ∃ wA, w.alloc (.cells #[.map (some bd), .map (some bm)] 69) = wA := ⟨_, rfl⟩
  rw [hwA] at hbA0 kA0 ci ⊢
  have e1 := kA0.cell 1
  simp at e1
  clear hwA
  go_wp2_with (go_at_call 32; go_must (refine ci.mono ?_; rintro e w2 ⟨⟨p, rfl, hop⟩, hb2⟩; have hb2' := good_below hbA0 hb2; have kA2 := kA0.below hb2; obtain ⟨pa, pc, hpv, -, hpc⟩ := hop.value; subst hpv))
  have HPC : Hid (0 < O.length → ∃ g, pa = some ⟨g, 0, none⟩ ∧ wA.heap.size ≤ g ∧ g < w2.heap.size ∧ ∀ j (hj : j < O.length), w2.cell? ⟨g, j * 3, none⟩ = some (.string O[j].path) ∧ w2.cell? ⟨g, j * 3 + 1, none⟩ = some (.string O[j].text) ∧ w2.cell? ⟨g, j * 3 + 2, none⟩ = some (.string O[j].from')) := hpc
  have HB2 : Hid (Below w.heap.size w w2) := hb2'
  have HK2 : Hid (Blk w2 w.heap.size 69 #[.map (some bd), .map (some bm)]) := kA2
  have hlt2 : w.heap.size < w2.heap.size := kA2.lt
  clear hop hpc hb2 hb2' kA2 kA0 ci e1 hbA0
  go_loopw [3, 15] (fun i3 i15 wr => ∃ (k : Nat) (fa : Option Addr) (fc : Nat) (out : List Fault), i15 = .int .i64 (k : Int) ∧ i3 = .slice fa out.length fc ∧ k ≤ O.length ∧ out = (O.take k).filterMap (setFault l0) ∧ OwnFaults w2.heap.size wr (.slice fa out.length fc) out ∧ Below w2.heap.size w2 wr) (fun _ i15 _ => O.length - (intOf i15).toNat)
  case atStart => exact ⟨0, none, 0, [], rfl, rfl, by omega, rfl, OwnFaults.nil _ _, Below.refl _ _⟩
  case round =>
    obtain ⟨k, fa, fc, out, rfl, rfl, hk, hout, hown, hb⟩ := hrel
    have HOW : Hid (OwnFaults w2.heap.size wr (.slice fa out.length fc) out) := hown
    have HOUT : Hid (out = (O.take k).filterMap (setFault l0)) := hout
    have HBR : Hid (Below w2.heap.size w2 wr) := hb
    have hbs := hb.size
    have holn : out.length ≤ 2000 := by
      have := filterMap_len (setFault l0) (O.take k)
      rw [← hout, List.length_take] at this
      omega
    clear hown hout
    by_cases hkn : k < O.length
    · have hkn' : (k : Int) < (O.length : Int) := by omega
      obtain ⟨g, rfl, -, hg, hcell⟩ := HPC.out (by omega)
      obtain ⟨c0, c1, c2⟩ := hcell k hkn
      have hfz := HFA.out O[k] (List.getElem_mem hkn)
      have hwz := HW.out O[k] (List.getElem_mem hkn)
      have hfk := take_fault (l := l0) hkn
      rw [← HOUT.out] at hfk
      obtain ⟨s, hs⟩ : ∃ s, O[k] = s := ⟨_, rfl⟩
      rw [hs] at c0 c1 c2 hfz hwz hfk
      obtain ⟨sp, st, sf⟩ := s
      dsimp only at c0 c1 c2 hfz hwz
      have d0 := (hb.cell (p := ⟨g, k * 3, none⟩) hg).trans c0
      have d1 := (hb.cell (p := ⟨g, k * 3 + 1, none⟩) hg).trans c1
      have d2 := (hb.cell (p := ⟨g, k * 3 + 2, none⟩) hg).trans c2
      have hz1 := hfz.1
      have hz3 := hfz.2.2
      have hbk : Blk (wr.alloc (.cells #[.string sp, .string st, .string sf] 76)) wr.heap.size 76 #[.string sp, .string st, .string sf] := heap_alloc_last wr _
      have hbA : Below wr.heap.size wr (wr.alloc (.cells #[.string sp, .string st, .string sf] 76)) := (Below.refl _ wr).alloc (Nat.le_refl _) _
      obtain ⟨gx, hgx⟩ : ∃ gx, wr.heap.size = gx := ⟨_, rfl⟩
      rw [hgx] at hbk
      have hfF : setFault l0 ⟨sp, st, sf⟩ = if (setCode l0 ⟨sp, st, sf⟩ == 0) = true then none else some ⟨setCode l0 ⟨sp, st, sf⟩, sp, sf⟩ := rfl
      have cC := fun (W : World) (hW : Below w.heap.size w W) => implCode (bm := bm) (fun b h => Nat.lt_of_lt_of_le (HS.out b h) hW.size) (HMD.out.below hW) (fun j hj => (HCV.out j hj).keep (cells_below HS.out hW)) HA.out sp st sf hz1 (by omega)
      obtain ⟨c, hcc⟩ : ∃ c, setCode l0 ⟨sp, st, sf⟩ = c := ⟨_, rfl⟩
      rw [hcc] at hfF cC
      rw [hfF] at hfk
      have HFK : Hid ((O.take (k + 1)).filterMap (setFault l0) = out ++ (if (c == 0) = true then none else some (⟨c, sp, sf⟩ : Fault)).toList) := hfk
      clear hs hcell c0 c1 c2 hfz hfF hcc hfk
      go_upto_region 5 with fail
      obtain ⟨wB, hwB⟩ : ∃ wB, wr.alloc (.cells #[.string sp, .string st, .string sf] 76) = wB := ⟨_, rfl⟩
      rw [hwB] at hbk hbA ⊢
      have hbB2 := good_below HBR.out hbA
      have hbB := good_below HB2.out hbB2
      have kB := HK2.out.below hbB2
      have q0 := kB.cell 0
      have q1 := kB.cell 1
      have j0 := hbk.cell 0
      have j1 := hbk.cell 1
      have j2 := hbk.cell 2
      simp at q0 q1 j0 j1 j2
      have cc := cC wB hbB
      have HKX : Hid (Blk wB gx 76 #[.string sp, .string st, .string sf]) := hbk
      have HBA : Hid (Below wr.heap.size wr wB) := hbA
      clear hwB d0 d1 d2 hb kB hbk hbA cC hbB
      go_upto_region 6 with (go_at_call 49; go_must (refine cc.mono ?_; rintro e w3 ⟨rfl, hb3⟩))
      have kX3 := HKX.out.below hb3
      have hbr3 := good_below HBA.out hb3
      have HBR3 : Hid (Below wr.heap.size wr w3) := hbr3
      have HKX3 : Hid (Blk w3 gx 76 #[.string sp, .string st, .string sf]) := kX3
      have hs3 := hbr3.size
      clear cc q0 q1 j0 j1 j2 hb3 kX3 hbr3
      cases hc : (c == 0)
      · have hfk := HFK.out
        rw [hc, if_neg (by simp)] at hfk
        have HFK2 : Hid ((O.take (k + 1)).filterMap (setFault l0) = out ++ [⟨c, sp, sf⟩]) := hfk
        have cp := fun w => implCloneT sp hz1 w
        have cf := fun w => implCloneT sf hz3 w
        clear hfk HFK
        go_upto_region 7 with fail
        have kp : ∀ w', Below w3.heap.size w3.drew w' → w'.cell? ⟨gx, 0, none⟩ = some (.string sp) ∧ w'.cell? ⟨gx, 2, none⟩ = some (.string sf) := fun w' hB => by
          have hB' : Below w3.heap.size w3 w' := ((Below.refl _ w3).drew).trans hB
          have b1 := Blk.below HKX3.out hB'
          exact ⟨b1.cell 0, b1.cell 2⟩
        have KP : Hid (∀ w', Below w3.heap.size w3.drew w' → w'.cell? ⟨gx, 0, none⟩ = some (.string sp) ∧ w'.cell? ⟨gx, 2, none⟩ = some (.string sf)) := kp
        have e0 := HKX3.out.cell 0
        have e2 := HKX3.out.cell 2
        simp at e0 e2
        have HAD : Hid (Below w3.heap.size w3 w3.drew) := (Below.refl _ w3).drew
        have hne : some gx ≠ (Value.slice fa out.length fc).ownBlock := fun e => by
          have h1 := (World.ownsRow.lt HOW.out _ e.symm).2
          omega
        clear kp hgx
        go_region_held3 (fun w' => w'.cell? ⟨gx, 0, none⟩ = some (.string sp) ∧ w'.cell? ⟨gx, 2, none⟩ = some (.string sf)) (first | go_keep | exact ⟨hgr8.cell kq.1 hne, hgr8.cell kq.2 hne⟩ | exact kq | exact KP.out _ hb56 | exact KP.out _ hb5 | exact KP.out _ (Below.refl _ _)) (first
          | (go_at_call 25; have hchk := hb5; refine (cf _).mono ?_; rintro e w7 ⟨rfl, hb6⟩; have hb56 := good_below hb5 hb6; have kq := KP.out _ (hb56.alloc hb56.size (.cells #[.int .i64 c, .string sp, .string sf] 31)); have hbr7 := good_below HBR3.out (good_below HAD.out hb56); have how7 := OwnFaults.below HOW.out hbr7; have hs7 := hbr7.size)
          | (go_at_call 25; refine (cp _).mono ?_; rintro e w5 ⟨rfl, hb5⟩)
          | (refine step_appendFaults rfl (.tmp 24) (.tmp 34) rfl w2.heap.size (.slice fa out.length fc) out (by simp [Act.eval]) (OwnFaults.below how7 ((Below.refl _ w7).alloc (Nat.le_refl _) _)) (.slice (some ⟨w7.heap.size, 0, none⟩) 1 1) [⟨c, sp, sf⟩] (by simp [Act.eval]) (FaultsAt.new w7 c sp sf) (by simp <;> omega) (by simp only [World.size_alloc]; omega) ?_; intro va vn vc w8 hown8 hB8 hgr8 hnil8; obtain ⟨a8, c8, e8, -⟩ := hown8.value; have hl8 : (out ++ [(⟨c, sp, sf⟩ : Fault)]).length = out.length + 1 := (by simp); rw [hl8] at e8; simp only [Value.slice.injEq] at e8; obtain ⟨rfl, rfl, rfl⟩ := e8))
        all_goals
          go_wp2_with fail
          have hbw7 := good_below HBR.out hbr7
          exact ⟨⟨k + 1, va, vc, out ++ [⟨c, sp, sf⟩], by go_num, by simp, by omega, HFK2.out.symm, by simpa using hown8, (hbw7.alloc hbw7.size _).trans hB8⟩, by simp [intOf]; omega⟩
      · have hfk := HFK.out
        rw [hc, if_pos rfl] at hfk
        have hfk2 : (O.take (k + 1)).filterMap (setFault l0) = out := by simpa using hfk
        have HFK2 : Hid ((O.take (k + 1)).filterMap (setFault l0) = out) := hfk2
        have hc0 : c = 0 := by simpa using hc
        subst hc0
        clear hfk hfk2 HFK hgx
        go_wp2_with fail
        exact ⟨⟨k + 1, fa, fc, out, by go_num, rfl, by omega, HFK2.out.symm, OwnFaults.below HOW.out HBR3.out, good_below HBR.out HBR3.out⟩, by simp [intOf]; omega⟩
    · obtain rfl : k = O.length := by omega
      have hkn' : ¬ ((O.length : Int) < (O.length : Int)) := by omega
      have hout := HOUT.out
      rw [List.take_length] at hout
      have HOUT2 : Hid (out = O.filterMap (setFault l0)) := hout
      have hbw := good_below HB2.out hb
      have cd := cD wr hbw
      have kR := HK2.out.below hb
      have q0 := kR.cell 0
      simp at q0
      clear hout HOUT kR cD
      obtain ⟨w4, hw4⟩ : ∃ w4, w4 = wr := ⟨_, rfl⟩
      subst hw4
      go_wp2_with (go_at_call 50; go_must (refine cd.mono ?_; rintro e w5 ⟨⟨p, L, rfl, hop, hin, hLl⟩, hb5⟩; obtain ⟨la, lc, hlv, -⟩ := hop.value; subst hlv))
      have HIN : Hid (InOrd (bookK l0 cv l0.length) L) := hin
      have HFL : Hid (faultsF l0 O = out ++ (L.filter (fun d => lostB O d.x)).map (fun d => nameFault d.x.path)) := by
        have h1 := HLOST.out L hin
        unfold Hid faultsF
        rw [← h1, HOUT2.out, List.map_map]
        rfl
      have HDV : Hid (OwnDemVs w4.heap.size w5 (.slice la L.length lc) L) := hop
      have HF5 : Hid (OwnFaults w2.heap.size w5 (.slice fa out.length fc) out) := OwnFaults.below HOW.out hb5
      have HB5 : Hid (Below w2.heap.size w2 w5) := good_below hb hb5
      have hLl' : (L.length : Int) ≤ 4000 := by omega
      clear hop hin hb5 hb HOW q0 cd
      go_loopw [3, 41] (fun i3 i41 wr => ∃ (j : Nat) (ga : Option Addr) (gc : Nat) (acc : List Fault), i41 = .int .i64 (j : Int) ∧ i3 = .slice ga acc.length gc ∧ j ≤ L.length ∧ acc = out ++ ((L.take j).filter (fun d => lostB O d.x)).map (fun d => nameFault d.x.path) ∧ OwnFaults w2.heap.size wr (.slice ga acc.length gc) acc ∧ OwnDemVs w4.heap.size wr (.slice la L.length lc) L ∧ Below w2.heap.size w2 wr) (fun _ i41 _ => L.length - (intOf i41).toNat)
      case atStart => exact ⟨0, fa, fc, out, rfl, rfl, by omega, by simp, HF5.out, HDV.out, HB5.out⟩
      case round =>
        obtain ⟨j, ga, gc, acc, rfl, rfl, hj, hacc, hofa, hod, hb⟩ := hrel
        have HACC : Hid (acc = out ++ ((L.take j).filter (fun d => lostB O d.x)).map (fun d => nameFault d.x.path)) := hacc
        have hal : acc.length ≤ 6000 := by
          rw [hacc]
          have := List.length_filter_le (fun d : DemV => lostB O d.x) (L.take j)
          simp only [List.length_append, List.length_map, List.length_take] at this ⊢
          omega
        have hbs5 := hb.size
        have HBR5 : Hid (Below w2.heap.size w2 wr) := hb
        have HFZ : Hid (OwnFaults w2.heap.size wr (.slice ga acc.length gc) acc) := hofa
        have HDZ : Hid (OwnDemVs w4.heap.size wr (.slice la L.length lc) L) := hod
        clear hacc hofa hod
        by_cases hjn : j < L.length
        · have hjn' : (j : Int) < (L.length : Int) := by omega
          obtain ⟨_, _, htv, -, htc⟩ := HDZ.out.value
          simp only [Value.slice.injEq] at htv
          obtain ⟨rfl, -, rfl⟩ := htv
          obtain ⟨g, rfl, -, hg, hcell⟩ := htc (by omega)
          obtain ⟨d0, d1, d2, d3, d4, d5, d6, d7⟩ := hcell j hjn
          have htk := take_lost (O := O) hjn
          have hz := HLZ.out L HIN.out L[j] (List.getElem_mem hjn)
          have hlb : lostB O L[j].x = (L[j].x.must && !(lookS O L[j].x.path).isSome) := by unfold lostB; rw [look_has]
          rw [hlb] at htk
          obtain ⟨x, hx⟩ : ∃ x, L[j] = x := ⟨_, rfl⟩
          rw [hx] at d0 d1 d2 d3 d4 d5 d6 d7 htk hz
          obtain ⟨⟨xp, xk, xi, xa, xs, xm, xd⟩, xz, xn, xc⟩ := x
          unfold DemV.cv at d5
          dsimp only at d0 d1 d2 d3 d4 d5 d6 d7 htk hz
          have bA : Below wr.heap.size wr (wr.alloc (.cells #[.string xp, .string xp, .int .i64 xk, .int .i64 xi, .int .i64 xa, .slice xz xn xc, .bool xm, .string xd] 102)) := (Below.refl _ wr).alloc (Nat.le_refl _) _
          have kX : Blk (wr.alloc (.cells #[.string xp, .string xp, .int .i64 xk, .int .i64 xi, .int .i64 xa, .slice xz xn xc, .bool xm, .string xd] 102)) wr.heap.size 102 #[.string xp, .string xp, .int .i64 xk, .int .i64 xi, .int .i64 xa, .slice xz xn xc, .bool xm, .string xd] := heap_alloc_last wr _
          obtain ⟨gx, hgx⟩ : ∃ gx, wr.heap.size = gx := ⟨_, rfl⟩
          rw [hgx] at kX
          have htk2 : out ++ ((L.take (j + 1)).filter (fun d => lostB O d.x)).map (fun d => nameFault d.x.path) = acc ++ (if (xm && !(lookS O xp).isSome) = true then [nameFault xp] else []) := by
            rw [htk, HACC.out, List.append_assoc]
          have hLS := HMS.out
          obtain ⟨IS, hIS⟩ : ∃ IS, (lookS O xp).isSome = IS := ⟨_, rfl⟩
          rw [hIS] at htk2
          have HIS : Hid ((lookS O xp).isSome = IS) := hIS
          have HTK : Hid (out ++ ((L.take (j + 1)).filter (fun d => lostB O d.x)).map (fun d => nameFault d.x.path) = acc ++ (if (xm && !IS) = true then [nameFault xp] else [])) := htk2
          clear hcell htc hx htk htk2 hlb hIS hLS
          go_upto_region 12 with fail
          obtain ⟨wB, hwB⟩ : ∃ wB, wr.alloc (.cells #[.string xp, .string xp, .int .i64 xk, .int .i64 xi, .int .i64 xa, .slice xz xn xc, .bool xm, .string xd] 102) = wB := ⟨_, rfl⟩
          rw [hwB] at bA kX ⊢
          have hb2B := good_below HBR5.out bA
          have hbB := good_below HB2.out hb2B
          have kB := HK2.out.below hb2B
          have q1 := kB.cell 1
          have j0 := kX.cell 0
          simp at q1 j0
          have hlB := (HMS.out.below hbB).lookOk hz
          rw [HIS.out] at hlB
          obtain ⟨s1, s2, s3, hss⟩ : ∃ s1 s2 s3, setOf O xp = ⟨s1, s2, s3⟩ := ⟨_, _, _, rfl⟩
          rw [hss] at hlB
          dsimp only at hlB
          have bB : Below wB.heap.size wB (wB.alloc (.cells #[.string s1, .string s2, .string s3] 76)) := (Below.refl _ wB).alloc (Nat.le_refl _) _
          have kX2 := kX.below bB
          have bA2 := good_below bA bB
          clear hwB kB d0 d1 d2 d3 d4 d5 d6 d7 hb hss kX bA hb2B hbB
          go_upto_region 13 with fail
          obtain ⟨wC, hwC⟩ : ∃ wC, wB.alloc (.cells #[.string s1, .string s2, .string s3] 76) = wC := ⟨_, rfl⟩
          rw [hwC] at bB kX2 bA2 ⊢
          have y0 := kX2.cell 0
          have y6 := kX2.cell 6
          simp at y0 y6
          have HKX : Hid (Blk wC gx 102 #[.string xp, .string xp, .int .i64 xk, .int .i64 xi, .int .i64 xa, .slice xz xn xc, .bool xm, .string xd]) := kX2
          have HBC : Hid (Below wr.heap.size wr wC) := bA2
          have cp := fun w => implCloneT xp hz w
          clear hwC bB kX2 bA2 hlB q1 j0
          cases hgo : (xm && !IS)
          · have htk := HTK.out
            rw [hgo, if_neg (by simp), List.append_nil] at htk
            have HTK2 : Hid (out ++ ((L.take (j + 1)).filter (fun d => lostB O d.x)).map (fun d => nameFault d.x.path) = acc) := htk
            clear htk HTK hgx
            cases xm
            · clear hgo
              go_wp2_with fail
              exact ⟨⟨j + 1, ga, gc, acc, by go_num, rfl, by omega, HTK2.out.symm, OwnFaults.below HFZ.out HBC.out, OwnDemVs.below HDZ.out HBC.out, good_below HBR5.out HBC.out⟩, by simp [intOf]; omega⟩
            · cases IS
              · simp at hgo
              · clear hgo
                go_wp2_with fail
                exact ⟨⟨j + 1, ga, gc, acc, by go_num, rfl, by omega, HTK2.out.symm, OwnFaults.below HFZ.out HBC.out, OwnDemVs.below HDZ.out HBC.out, good_below HBR5.out HBC.out⟩, by simp [intOf]; omega⟩
          · have htk := HTK.out
            rw [hgo, if_pos rfl] at htk
            have HTK2 : Hid (out ++ ((L.take (j + 1)).filter (fun d => lostB O d.x)).map (fun d => nameFault d.x.path) = acc ++ [⟨5, xp, ⟨#[]⟩⟩]) := htk
            simp only [Bool.and_eq_true, Bool.not_eq_true'] at hgo
            obtain ⟨rfl, rfl⟩ := hgo
            clear htk HTK hgx
            go_wp2_with (first
              | (go_at_call 25; go_must (refine (cp _).mono ?_; rintro e w7 ⟨rfl, hb7⟩; have hbr7 := good_below HBC.out hb7; have hof7 := OwnFaults.below HFZ.out hbr7; have hod7 := OwnDemVs.below HDZ.out hbr7; have hs7 := hbr7.size; have hbw7 := good_below HBR5.out hbr7))
              | (at_builtin; go_must (refine wpList_appendFaults rfl (.tmp 61) (.tmp 67) rfl w2.heap.size (.slice ga acc.length gc) acc rfl (OwnFaults.below hof7 ((Below.refl _ w7).alloc (Nat.le_refl _) _)) _ [⟨5, xp, ⟨#[]⟩⟩] rfl (FaultsAt.newAt _ 5 xp ⟨#[]⟩ _ (by simp)) (by simp <;> omega) (by simp only [World.size_alloc]; omega) ?_; intro v9 w9 hown9 hB9 hgr9 hnil9; obtain ⟨a9, c9, e9, -⟩ := hown9.value; have hl9 : (acc ++ [(⟨5, xp, ⟨#[]⟩⟩ : Fault)]).length = acc.length + 1 := (by simp); rw [hl9] at e9; subst e9)))
            have bZ : Below w7.heap.size w7 (w7.alloc (.cells #[.int .i64 5, .string xp, .string ⟨#[]⟩] 31)) := (Below.refl _ w7).alloc (Nat.le_refl _) _
            exact ⟨⟨j + 1, a9, c9, acc ++ [⟨5, xp, ⟨#[]⟩⟩], by go_num, by simp, by omega, HTK2.out.symm, by simpa using hown9, OwnDemVs.kept (OwnDemVs.below hod7 bZ) hgr9 (rows_apart (OwnDemVs.below hod7 bZ) (OwnFaults.below hof7 bZ) (by decide)), (hbw7.alloc hbw7.size _).trans hB9⟩, by simp [intOf]; omega⟩
        · obtain rfl : j = L.length := by omega
          have hjn' : ¬ ((L.length : Int) < (L.length : Int)) := by omega
          have hacc := HACC.out
          rw [List.take_length, ← HFL.out, HPL.out] at hacc
          subst hacc
          go_wp2_with fail
          go_ret
          exact ⟨⟨_, rfl, OwnFaults.mono HFZ.out HB2.out.size⟩, good_below HB2.out HBR5.out⟩
set_option maxRecDepth 100000 in
set_option maxHeartbeats 16000000 in
theorem implValidate : ValidateC 7 (Lib.Utf8Tabs 1 2) validL validC := by
  intro S l0 l1 v0 v1 w hS h0 hl0 hok0 h1 hl1 hok1 hT
  obtain ⟨a0, cap0, hv0⟩ := h0.shape
  obtain ⟨a1, cap1, hv1⟩ := h1.shape
  unfold validC
  have cb := implBook hS h0 hl0 hok0 h1 hl1 hok1 hT
  have bad : ∀ c : Int, bookC l0 l1 = c → (c = 1 ∨ c = 2) → Calls Tryz.prog 22 #[v0, v1] w fun e w' => e = .returned (.tuple #[.agg #[.map none, .map none], .int .i64 c]) ∧ Below w.heap.size w w' := fun c hc hcc => by
    rw [hc] at cb
    exact cb.mono (fun e w' ⟨⟨sv, he, hsv⟩, hb⟩ => by
      rcases hsv with ⟨-, rfl⟩ | ⟨h0, -⟩
      · exact ⟨he, hb⟩
      · rw [hc] at h0
        rcases hcc with rfl | rfl <;> cases h0)
  rcases bookC_cases l0 l1 with hc | hc | ⟨hc, hA, hB⟩
  · have hv : validL l0 l1 = [] := by unfold validL; rw [hc, if_neg (by decide)]
    have cz := bad 2 hc (.inr rfl)
    rw [hc, hv]
    subst hv0 hv1
    clear h0 h1 hok0 hok1 hS hT hc hv cb bad
    go_enter Tryz.func7, Tryz.ntmps7
    go_wp2_with (go_at_call 22; go_must (refine cz.mono ?_; rintro e w1 ⟨rfl, hb1⟩))
    go_ret2
    exact ⟨⟨_, rfl, OwnFaults.nil _ _⟩, hb1.alloc hb1.size _⟩
  · have hv : validL l0 l1 = [] := by unfold validL; rw [hc, if_neg (by decide)]
    have cz := bad 1 hc (.inl rfl)
    rw [hc, hv]
    subst hv0 hv1
    clear h0 h1 hok0 hok1 hS hT hc hv cb bad
    go_enter Tryz.func7, Tryz.ntmps7
    go_wp2_with (go_at_call 22; go_must (refine cz.mono ?_; rintro e w1 ⟨rfl, hb1⟩))
    go_ret2
    exact ⟨⟨_, rfl, OwnFaults.nil _ _⟩, hb1.alloc hb1.size _⟩
  have hv : validL l0 l1 = faultsF l0 (laidF (overP l1)) := by unfold validL; rw [hc, if_pos rfl]
  rw [hc] at cb
  have cz : Calls Tryz.prog 22 #[v0, v1] w fun e w' => (∃ bd bm, e = .returned (.tuple #[.agg #[.map (some bd), .map (some bm)], .int .i64 0]) ∧ ∀ W, Below w'.heap.size w' W → Calls Tryz.prog 23 #[.agg #[.map (some bd), .map (some bm)]] W fun e W' => (∃ p, e = .returned p ∧ OwnFaults W.heap.size W' p (faultsF l0 (laidF (overP l1)))) ∧ Below W.heap.size W W') ∧ Below w.heap.size w w' := cb.mono (fun e w' ⟨⟨sv, he, hsv⟩, hb⟩ => by
    rcases hsv with ⟨h0, -⟩ | ⟨-, bd, bm, nd, nm, cv, rfl, q1, q2, q3, q4, q5, -⟩
    · exact absurd hc h0
    · exact ⟨⟨bd, bm, he, fun W hW => implFaults (S := S) (fun b hb2 => Nat.lt_of_lt_of_le (hS b hb2) (Nat.le_trans hb.size hW.size)) (q1.below hW) (q2.below hW) (fun k hk => (q3 k hk).keep (cells_below (fun b hb2 => Nat.lt_of_lt_of_le (hS b hb2) hb.size) hW)) hA (laid_word hB) (laid_fair hok1) (laid_rises _) (laid_len hB) q4 q5 hok0⟩, hb⟩)
  rw [hc, hv]
  obtain ⟨PL, hPL⟩ : ∃ PL, faultsF l0 (laidF (overP l1)) = PL := ⟨_, rfl⟩
  rw [hPL] at cz ⊢
  subst hv0 hv1
  clear h0 h1 hok0 hok1 hS hT hc hv cb bad hPL hA hB
  go_enter Tryz.func7, Tryz.ntmps7
  go_wp2_with (first
    | (go_at_call 22; go_must (refine cz.mono ?_; rintro e w1 ⟨⟨bd, bm, rfl, hcf⟩, hb1⟩; have bA := (Below.refl _ w1).alloc (Nat.le_refl _) (.cells #[.map (some bd), .map (some bm)] 69); have cf := hcf _ bA; have hbA := good_below hb1 bA; clear hcf))
    | (go_at_call 23; go_must (refine cf.mono ?_; rintro e w2 ⟨⟨p, rfl, hop⟩, hb2⟩)))
  go_ret2
  exact ⟨⟨_, rfl, OwnFaults.mono hop hbA.size⟩, good_below hbA hb2⟩
end Go.Proofs.YtphocibgfdihoaaGreatDoor

namespace Go.Proofs.YtphocibgfdihoaaGreatDoor
open Go.ChangeShapes Go.WideShapes Go.ChangeAt Go.RowKit
set_option linter.unusedVariables false
set_option linter.unusedSimpArgs false

/-- What RulesOf gives. -/
def GoodR (l : List Rule) : Prop := rulesB l = true ∧ (∀ x ∈ l, RulesOK 1048576 x) ∧ l.length ≤ 7 ∧ ∀ x ∈ l, x.path.size ≤ 30
def fixR : Rule := ⟨⟨#[97, 46, 98]⟩, 1, 0, 100, [], false, ⟨#[]⟩⟩
theorem fix_ok : rulesB [fixR] = true := by
  refine rules_yes (by simp) (fun i hi => ?_)
  have hi0 : i = 0 := by simpa using hi
  subst hi0
  refine ⟨by kernel_rfl, fun c hc => ?_, fun k hk hne => ?_, by kernel_rfl⟩
  · simp [fixR] at hc
  · simp at hk; omega
theorem DrawnR.short {B b0 cb : Nat} {w : World} {v : Value} {l : List RuleV} (h : DrawnR B b0 cb w v l) : ∀ x ∈ l.map (·.x), x.path.size ≤ 30 := by
  intro x hx
  obtain ⟨y, hy, rfl⟩ := List.mem_map.1 hx
  exact (h.2.1 y hy).1
theorem DrawnR.below {B b0 cb : Nat} {w w' : World} {v : Value} {l : List RuleV} (h : DrawnR B b0 cb w v l) (hb : Below w.heap.size w w') : DrawnR B b0 cb w' v l := ⟨h.1.below hb, h.2.1, h.2.2.1.below hb, h.2.2.2⟩
set_option maxRecDepth 100000 in
set_option maxHeartbeats 4000000 in
theorem drawRulesOf (a : Option Addr) (len cap : Nat) (w : World) (hl : len ≤ 1048576) (hc : ∀ i, i < len → ∃ cb co, a = some ⟨cb, co, none⟩ ∧ cb < w.heap.size ∧ ∃ b : Nat, b < 256 ∧ w.cell? ⟨cb, co + i, none⟩ = some (.int .u8 b)) :
    Calls Tryz.prog 4 #[.slice a len cap] w fun e w' => (∃ (v : Value) (l : List Rule), e = .returned v ∧ RulesAt (fun b => w.heap.size ≤ b ∧ b < w'.heap.size) w' v l ∧ GoodR l) ∧ Below w.heap.size w w' := by
  have c0 := drawSource a len cap w hl hc
  have c1 := fun (A' : Nat) (hA' : A' ≤ 60000) (W : World) (hs : Src w.heap.size w.heap.size a len cap A' w W) => drawRules hA' hl hs
  have H1 : Hid _ := c1
  clear c1 hc
  go_enter Tryz.func4, Tryz.ntmps4
  go_wp2_with (go_at_call 12; go_must (refine c0.mono ?_; rintro e w1 ⟨rfl, hs1, hz1⟩))
  go_loopw [4] (fun i4 wr => ∃ (k : Nat), i4 = .int .i64 (k : Int) ∧ k ≤ 4 ∧ Src w.heap.size w.heap.size a len cap (2000 * k) w wr) (fun i4 _ => 4 - (intOf i4).toNat)
  case atStart => exact ⟨0, rfl, by omega, hs1⟩
  case round =>
    obtain ⟨k, rfl, hk, hs⟩ := hrel
    have hbw := hs.below
    have hwr := hbw.size
    by_cases hk4 : k < 4
    · have hk4' : (k : Int) < 4 := by omega
      have cd := H1.out (2000 * k) (by omega) wr hs
      have hgl := hs.lt
      go_upto_region 6 with (go_at_call 13; go_must (refine cd.mono ?_; rintro e w2 ⟨v2, l2, rfl, hd2, hs2, ho2⟩; obtain ⟨va, vc, hv2⟩ := hd2.1.value; subst hv2))
      have hat := hd2.at w.heap.size (by omega) (by omega)
      have cs := specRules (w := w2) (fun b hb => hb.2) hat hd2.ok
      obtain ⟨OK, hOK⟩ : ∃ OK, rulesB (l2.map (·.x)) = OK := ⟨_, rfl⟩
      rw [hOK] at cs
      have HOK : Hid (rulesB (l2.map (·.x)) = OK) := hOK
      have HD2 : Hid (DrawnR (wr.heap.size + 3) wr.heap.size (wr.heap.size + 1) w2 (.slice va l2.length vc) l2) := hd2
      clear hat hOK hd2 cd ho2
      cases OK
      · go_wp2_with (go_at_call 14; go_must (refine cs.mono ?_; rintro e w3 ⟨rfl, hb3⟩))
        exact ⟨⟨k + 1, by go_num, by omega, (hs2.bel hb3).mono (by omega)⟩, by simp [intOf]; omega⟩
      · go_wp2_with (go_at_call 14; go_must (refine cs.mono ?_; rintro e w3 ⟨rfl, hb3⟩))
        go_ret
        have hd3 := HD2.out.below hb3
        exact ⟨⟨_, l2.map (fun y : RuleV => y.x), rfl, hd3.at w.heap.size (by omega) (by omega), HOK.out, hd3.ok, by simpa using hd3.2.2.2, hd3.short⟩, (hs2.bel hb3).below⟩
    · have hk4' : ¬ ((k : Int) < 4) := by omega
      have hy := RuleVsAt.newAt wr ⟨fixR, .slice none 0 0⟩ wr.heap.size rfl
      have HY : Hid _ := hy
      have HB1 : Hid (Below w.heap.size w (wr.alloc (.cells #[.string ⟨#[97, 46, 98]⟩, .int .i64 1, .int .i64 0, .int .i64 100, .slice none 0 0, .bool false, .string ⟨#[]⟩] 37))) := hbw.alloc hwr _
      clear hy
      go_wp2_with fail
      go_ret
      refine ⟨⟨_, rfl, [fixR], ⟨by simp [maxLen], _, 1, rfl, fun _ => ⟨wr.heap.size, 0, rfl, ⟨by omega, by simp⟩, fun i hi => ?_⟩⟩, fix_ok, fun x hx => ?_, by simp, fun x hx => ?_⟩, HB1.out⟩
      · have hi0 : i = 0 := by simpa using hi
        subst hi0
        obtain ⟨_, a1, cap1, hv1, hc1⟩ := HY.out
        simp only [Value.slice.injEq] at hv1
        obtain ⟨rfl, -, rfl⟩ := hv1
        obtain ⟨bb, off, e1, -, hcell⟩ := hc1 (by simp)
        simp only [Option.some.injEq, Addr.mk.injEq, and_true] at e1
        obtain ⟨rfl, rfl⟩ := e1
        obtain ⟨q0, q1, q2, q3, q4, q5, q6⟩ := hcell 0 (by simp)
        exact ⟨q0, q1, q2, q3, q5, q6, _, q4, by simp [fixR], none, 0, rfl, fun h0 => by simp [fixR] at h0⟩
      · rw [List.mem_singleton] at hx
        subst hx
        exact ⟨by decide, by decide, by simp [fixR], fun t ht => by simp [fixR] at ht⟩
      · rw [List.mem_singleton] at hx
        subst hx
        decide

set_option maxRecDepth 100000 in
set_option maxHeartbeats 400000 in
theorem lawHas {S : Nat → Prop} {ss : List ByteArray} {v : Value} {w : World} (h : TxtsAt S w v ss) (hl : ss.length ≤ 1000000) (t : ByteArray) :
    Calls Tryz.prog 11 #[v, .string t] w fun e w' => e = .returned (.bool (hasB ss t)) ∧ w' = w := by
  obtain ⟨_, a, cap, rfl, hc⟩ := h
  have HC : Hid _ := hc
  have hl' : (ss.length : Int) ≤ 1000000 := by omega
  clear hc
  go_enter Tryz.func11, Tryz.ntmps11
  go_wp2
  go_loop [5] (fun i => ∃ k : Nat, k ≤ ss.length ∧ i = .int .i64 (k : Int) ∧ (ss.take k).any (fun x => x.toList == t.toList) = false) (fun i => ss.length - (intOf i).toNat)
  case atStart => exact ⟨0, by omega, rfl, rfl⟩
  case round =>
    obtain ⟨k, hk, rfl, h0⟩ := hrel
    have H0 : Hid ((ss.take k).any (fun x => x.toList == t.toList) = false) := h0
    clear h0
    by_cases hkn : k < ss.length
    · have hkn' : (k : Int) < (ss.length : Int) := by omega
      obtain ⟨g, off, rfl, _, hcell0⟩ := HC.out (by omega)
      have hcell := hcell0 k hkn
      clear hcell0
      obtain ⟨x, hx⟩ : ∃ x, ss[k] = x := ⟨_, rfl⟩
      rw [hx] at hcell
      have HX : Hid (ss[k] = x) := hx
      clear hx
      go_wp2
      · have h1 : (x.toList == t.toList) = true := by assumption
        go_ret
        refine ⟨?_, rfl⟩
        have : hasB ss t = true := any_hit ss _ k hkn (by rw [HX.out]; exact h1)
        rw [this]; rfl
      · have h1 : (x.toList == t.toList) = false := by assumption
        go_round
        case rel => exact ⟨k + 1, by omega, by go_num, any_take_succ ss _ k hkn H0 (by rw [HX.out]; exact h1)⟩
        case measure => simp [intOf]; omega
    · have hkn' : ¬ ((k : Int) < (ss.length : Int)) := by omega
      go_wp2
      go_ret
      refine ⟨?_, rfl⟩
      have : hasB ss t = false := by
        have h1 := H0.out
        rw [List.take_of_length_le (by omega)] at h1
        exact h1
      rw [this]; rfl

/-! The paths of what is merged are right. -/
theorem laySteps_path (nm : ByteArray) : ∀ (es : List Entry) (out : List Setting), (∀ e ∈ es, pathB nameOK e.path = true) → (∀ o ∈ out, pathB nameOK o.path = true) → ∀ o ∈ es.foldl (layStep nm) out, pathB nameOK o.path = true
  | [], out, _, h => h
  | e :: es, out, he, h => by
    rw [List.foldl_cons]
    exact laySteps_path nm es _ (fun y hy => he y (List.mem_cons_of_mem _ hy)) (layStep_mem (P := fun o => pathB nameOK o.path = true) h (he e (List.mem_cons_self ..)))
theorem laidFold_path : ∀ (l : List Layer) (out : List Setting), (∀ x ∈ l, ∀ e ∈ x.entries, pathB nameOK e.path = true) → (∀ o ∈ out, pathB nameOK o.path = true) → ∀ o ∈ l.foldl layLayer out, pathB nameOK o.path = true
  | [], out, _, h => h
  | x :: l, out, hx, h => by
    rw [List.foldl_cons]
    exact laidFold_path l _ (fun y hy => hx y (List.mem_cons_of_mem _ hy)) (laySteps_path x.name x.entries out (hx x (List.mem_cons_self ..)) h)
theorem layers_path {l : List Layer} (h : layersB nameOK l = true) : ∀ x ∈ l, ∀ e ∈ x.entries, pathB nameOK e.path = true := by
  have h20 : l.length ≤ 20 := (layers_fine h).1
  rw [layers_split nameOK l h20] at h
  simp only [Bool.and_eq_true, Bool.not_eq_true'] at h
  intro x hx e he
  have hx2 := List.all_eq_true.1 h.1 x hx
  simp only [Bool.and_eq_true, decide_eq_true_eq] at hx2
  have he2 := hx2.2
  rw [entries_split] at he2
  simp only [Bool.and_eq_true] at he2
  exact List.all_eq_true.1 he2.2.1 e.path (List.mem_map_of_mem he)
theorem laid_path {l : List Layer} (h : layersB nameOK l = true) : ∀ o ∈ laidF (overP l), pathB nameOK o.path = true :=
  laidFold_path (overP l) [] (fun x hx => layers_path h x (overP_mem hx)) (fun o ho => by cases ho)
theorem laid_none : laidF (overP []) = [] := by
  have : overP ([] : List Layer) = [] := by
    cases h : overP ([] : List Layer) with
    | nil => rfl
    | cons x l => exact absurd (overP_mem (l := []) (x := x) (by rw [h]; exact List.mem_cons_self ..)) (by simp)
  rw [this]; rfl
theorem layers_none : layersB nameOK [] = true := by kernel_rfl
/-- What both watches answer. -/
theorem watch_same {m : List Layer} (h : layersB nameOK m = true) {ps : List ByteArray} (hp : ps = (laidF (overP m)).map Setting.path) : watchL m m ps = [] ∧ watchC m m ps = 0 := by
  have h20 := (layers_fine h).1
  have hlen := laid_len h
  have hl : longW m m ps = false := by
    have : ps.length ≤ 2000 := by rw [hp, List.length_map]; exact hlen
    unfold longW
    rw [decide_eq_false (by omega), decide_eq_false (by omega)]
    rfl
  have hr : rightW m m ps = true := by
    unfold rightW
    rw [h, Bool.true_and, Bool.true_and, hp, List.all_eq_true]
    intro p hpp
    obtain ⟨s, hs, rfl⟩ := List.mem_map.1 hpp
    exact laid_path h s hs
  unfold watchL watchC
  rw [hl, hr]
  exact ⟨changes_same _ _, rfl⟩
theorem watch_come {m : List Layer} (h : layersB nameOK m = true) {ps : List ByteArray} (hp : ps = (laidF (overP m)).map Setting.path) : watchL [] m ps = (laidF (overP m)).filterMap comeOf ∧ watchC [] m ps = 0 := by
  have h20 := (layers_fine h).1
  have hlen := laid_len h
  have hl : longW [] m ps = false := by
    have : ps.length ≤ 2000 := by rw [hp, List.length_map]; exact hlen
    unfold longW
    rw [decide_eq_false (by simp), decide_eq_false (by omega), decide_eq_false (by omega)]
    rfl
  have hr : rightW [] m ps = true := by
    unfold rightW
    rw [h, layers_none, Bool.true_and, Bool.true_and, hp, List.all_eq_true]
    intro p hpp
    obtain ⟨s, hs, rfl⟩ := List.mem_map.1 hpp
    exact laid_path h s hs
  unfold watchL watchC
  rw [hl, hr, if_neg (by simp), if_pos rfl, if_neg (by simp), if_pos rfl, laid_none, hp]
  exact ⟨changes_come (laid_rises _), rfl⟩
/-- What a validation and a lookup answer. -/
theorem valid_right {l : List Rule} {m : List Layer} (h : rulesB l = true) (h2 : layersB nameOK m = true) (hl : l.length ≤ 7) : validL l m = faultsF l (laidF (overP m)) ∧ validC l m = 0 := by
  have h20 := (layers_fine h2).1
  have hb : bookC l m = 0 := by
    unfold bookC
    rw [if_neg (by omega), h, h2]
    rfl
  unfold validL validC
  rw [hb]
  exact ⟨if_pos rfl, rfl⟩
theorem look_right {l : List Rule} {m : List Layer} (h : rulesB l = true) (h2 : layersB nameOK m = true) (hl : l.length ≤ 7) (hs : ∀ x ∈ l, x.path.size ≤ 30) {i : Nat} (hi : i < l.length) : lookA l m l[i].path = ruleA l[i] (lookS (laidF (overP m)) l[i].path) := by
  refine look_rule h h2 hi ?_
  have h20 := (layers_fine h2).1
  have := hs l[i] (List.getElem_mem hi)
  unfold longL
  rw [decide_eq_false (by omega), decide_eq_false (by omega), decide_eq_false (by omega)]
  rfl
end Go.Proofs.YtphocibgfdihoaaGreatDoor

namespace Go.Proofs.YtphocibgfdihoaaGreatDoor
open Go.ChangeShapes Go.WideShapes Go.ChangeAt Go.RowKit
set_option linter.unusedVariables false
set_option linter.unusedSimpArgs false

def FltRow (w : World) (a : Option Addr) (l : List Fault) : Prop := 0 < l.length → ∃ g, a = some ⟨g, 0, none⟩ ∧ g < w.heap.size ∧ ∀ j (hj : j < l.length), w.cell? ⟨g, j * 3, none⟩ = some (.int .i64 l[j].code) ∧ w.cell? ⟨g, j * 3 + 1, none⟩ = some (.string l[j].path) ∧ w.cell? ⟨g, j * 3 + 2, none⟩ = some (.string l[j].from')
theorem FltRow.below {w w' : World} {a : Option Addr} {l : List Fault} (h : FltRow w a l) (hb : Below w.heap.size w w') : FltRow w' a l := fun h0 => by
  obtain ⟨g, ha, hg, hc⟩ := h h0
  refine ⟨g, ha, Nat.lt_of_lt_of_le hg hb.size, fun j hj => ?_⟩
  obtain ⟨c0, c1, c2⟩ := hc j hj
  exact ⟨(hb.cell (p := ⟨g, j * 3, none⟩) hg).trans c0, (hb.cell (p := ⟨g, j * 3 + 1, none⟩) hg).trans c1, (hb.cell (p := ⟨g, j * 3 + 2, none⟩) hg).trans c2⟩
theorem OwnFaults.fltRow {B : Nat} {w : World} {v : Value} {l : List Fault} (h : OwnFaults B w v l) : ∃ a c, v = .slice a l.length c ∧ FltRow w a l := by
  obtain ⟨a, c, hv, _, hc⟩ := h.value
  refine ⟨a, c, hv, fun h0 => ?_⟩
  obtain ⟨g, ha, _, hg, hcell⟩ := hc h0
  exact ⟨g, ha, hg, hcell⟩
def StRow (w : World) (a : Option Addr) (l : List Setting) : Prop := 0 < l.length → ∃ g, a = some ⟨g, 0, none⟩ ∧ g < w.heap.size ∧ ∀ j (hj : j < l.length), w.cell? ⟨g, j * 3, none⟩ = some (.string l[j].path) ∧ w.cell? ⟨g, j * 3 + 1, none⟩ = some (.string l[j].text) ∧ w.cell? ⟨g, j * 3 + 2, none⟩ = some (.string l[j].from')
theorem StRow.below {w w' : World} {a : Option Addr} {l : List Setting} (h : StRow w a l) (hb : Below w.heap.size w w') : StRow w' a l := fun h0 => by
  obtain ⟨g, ha, hg, hc⟩ := h h0
  refine ⟨g, ha, Nat.lt_of_lt_of_le hg hb.size, fun j hj => ?_⟩
  obtain ⟨c0, c1, c2⟩ := hc j hj
  exact ⟨(hb.cell (p := ⟨g, j * 3, none⟩) hg).trans c0, (hb.cell (p := ⟨g, j * 3 + 1, none⟩) hg).trans c1, (hb.cell (p := ⟨g, j * 3 + 2, none⟩) hg).trans c2⟩
theorem OwnSettings.stRow {B : Nat} {w : World} {v : Value} {l : List Setting} (h : OwnSettings B w v l) : ∃ a c, v = .slice a l.length c ∧ StRow w a l := by
  obtain ⟨a, c, hv, _, hc⟩ := h.value
  refine ⟨a, c, hv, fun h0 => ?_⟩
  obtain ⟨g, ha, _, hg, hcell⟩ := hc h0
  exact ⟨g, ha, hg, hcell⟩
def ChRow (w : World) (a : Option Addr) (l : List Change) : Prop := 0 < l.length → ∃ g, a = some ⟨g, 0, none⟩ ∧ g < w.heap.size ∧ ∀ j (hj : j < l.length), w.cell? ⟨g, j * 3, none⟩ = some (.string l[j].path) ∧ w.cell? ⟨g, j * 3 + 1, none⟩ = some (.string l[j].old) ∧ w.cell? ⟨g, j * 3 + 2, none⟩ = some (.string l[j].new')
theorem ChRow.below {w w' : World} {a : Option Addr} {l : List Change} (h : ChRow w a l) (hb : Below w.heap.size w w') : ChRow w' a l := fun h0 => by
  obtain ⟨g, ha, hg, hc⟩ := h h0
  refine ⟨g, ha, Nat.lt_of_lt_of_le hg hb.size, fun j hj => ?_⟩
  obtain ⟨c0, c1, c2⟩ := hc j hj
  exact ⟨(hb.cell (p := ⟨g, j * 3, none⟩) hg).trans c0, (hb.cell (p := ⟨g, j * 3 + 1, none⟩) hg).trans c1, (hb.cell (p := ⟨g, j * 3 + 2, none⟩) hg).trans c2⟩
theorem OwnChanges.chRow {B : Nat} {w : World} {v : Value} {l : List Change} (h : OwnChanges B w v l) : ∃ a c, v = .slice a l.length c ∧ ChRow w a l := by
  obtain ⟨a, c, hv, _, hc⟩ := h.value
  refine ⟨a, c, hv, fun h0 => ?_⟩
  obtain ⟨g, ha, _, hg, hcell⟩ := hc h0
  exact ⟨g, ha, hg, hcell⟩
def RlRow (w : World) (a : Option Addr) (l : List Rule) : Prop := 0 < l.length → ∃ g off, a = some ⟨g, off, none⟩ ∧ g < w.heap.size ∧ ∀ j (hj : j < l.length), w.cell? ⟨g, off + j * 7, none⟩ = some (.string l[j].path) ∧ w.cell? ⟨g, off + j * 7 + 6, none⟩ = some (.string l[j].default')
theorem RlRow.below {w w' : World} {a : Option Addr} {l : List Rule} (h : RlRow w a l) (hb : Below w.heap.size w w') : RlRow w' a l := fun h0 => by
  obtain ⟨g, off, ha, hg, hc⟩ := h h0
  refine ⟨g, off, ha, Nat.lt_of_lt_of_le hg hb.size, fun j hj => ?_⟩
  obtain ⟨c0, c1⟩ := hc j hj
  exact ⟨(hb.cell (p := ⟨g, off + j * 7, none⟩) hg).trans c0, (hb.cell (p := ⟨g, off + j * 7 + 6, none⟩) hg).trans c1⟩
theorem RulesAt.rlRow {S : Nat → Prop} {w : World} {a : Option Addr} {n c : Nat} {l : List Rule} (h : RulesAt S w (.slice a n c) l) (hS : ∀ b, S b → b < w.heap.size) : RlRow w a l := fun h0 => by
  obtain ⟨_, a', c', hv, hc⟩ := h
  simp only [Value.slice.injEq] at hv
  obtain ⟨rfl, -, -⟩ := hv
  obtain ⟨g, off, ha, hg, hcell⟩ := hc h0
  refine ⟨g, off, ha, hS g hg, fun j hj => ?_⟩
  obtain ⟨c0, _, _, _, _, c6, _⟩ := hcell j hj
  exact ⟨c0, c6⟩
/-- Among the first k settings: none of this path, or one that stands there. -/
def SetIn (O : List Setting) (p : ByteArray) (k : Nat) (t f : ByteArray) (is : Bool) : Prop := (is = false ∧ t = ⟨#[]⟩ ∧ f = ⟨#[]⟩ ∧ ∀ i (hi : i < O.length), i < k → (O[i].path.toList == p.toList) = false) ∨ (is = true ∧ ∃ i, ∃ hi : i < O.length, i < k ∧ (O[i].path.toList == p.toList) = true ∧ t = O[i].text ∧ f = O[i].from')
theorem SetIn.skip {O : List Setting} {p : ByteArray} {k : Nat} {t f : ByteArray} {is : Bool} (h : SetIn O p k t f is) (hk : k < O.length) (hn : (O[k].path.toList == p.toList) = false) : SetIn O p (k + 1) t f is := by
  rcases h with ⟨h1, h2, h3, h4⟩ | ⟨h1, i, hi, hik, h2⟩
  · refine .inl ⟨h1, h2, h3, fun i hi hik => ?_⟩
    by_cases e : i < k
    · exact h4 i hi e
    · obtain rfl : i = k := by omega
      exact hn
  · exact .inr ⟨h1, i, hi, by omega, h2⟩
theorem SetIn.hit {O : List Setting} {p : ByteArray} {k : Nat} (hk : k < O.length) (hn : (O[k].path.toList == p.toList) = true) : SetIn O p (k + 1) O[k].text O[k].from' true := .inr ⟨rfl, k, hk, by omega, hn, rfl, rfl⟩
theorem SetIn.done {O : List Setting} (hr : SRises O) {p : ByteArray} {t f : ByteArray} {is : Bool} (h : SetIn O p O.length t f is) : (is = false ∧ lookS O p = none) ∨ (is = true ∧ ∃ s, lookS O p = some s ∧ t = s.text ∧ f = s.from') := by
  rcases h with ⟨h1, h2, h3, h4⟩ | ⟨h1, i, hi, hik, h2, h3, h4⟩
  · exact .inl ⟨h1, lookS_miss (fun i hi => h4 i hi hi)⟩
  · refine .inr ⟨h1, O[i], ?_, h3, h4⟩
    rw [beq_bytes, decide_eq_true_eq] at h2
    exact (rises_of hr p O[i]).2 ⟨List.getElem_mem hi, h2⟩
theorem fold_step {p : ByteArray} (FS : List Fault) (k : Nat) (hk : k < FS.length) : (FS.take (k + 1)).foldl (faultStep p) 0 = faultStep p ((FS.take k).foldl (faultStep p) 0) FS[k] := by
  rw [List.take_succ_eq_append_getElem hk, List.foldl_append]
  rfl
theorem filled_step (O : List Setting) (k : Nat) (hk : k < O.length) : filledN (O.take (k + 1)) = filledN (O.take k) + (if (O[k].text.toList == []) = true then 0 else 1) := by
  unfold filledN
  rw [List.take_succ_eq_append_getElem hk, List.filter_append, List.length_append]
  congr 1
  rw [List.filter_cons]
  cases hx : O[k].text.toList == []
  · rw [if_pos (by simp [hx]), if_neg (by simp)]; rfl
  · rw [if_neg (by simp [hx]), if_pos rfl]; rfl
theorem filled_le (O : List Setting) (k : Nat) : filledN (O.take k) ≤ O.length := by
  unfold filledN
  have h1 := List.length_filter_le (fun s : Setting => !(s.text.toList == [])) (O.take k)
  have h2 : (O.take k).length ≤ O.length := by rw [List.length_take]; omega
  omega
/-- What a lookup answers at a rule's own path, against what is set and its last fault. -/
theorem rule_some {l : List Rule} (h : rulesB l = true) {O : List Setting} (hr : SRises O) {i : Nat} (hi : i < l.length) {s : Setting} (hs : lookS O l[i].path = some s) : (ruleA l[i] (some s)).2.2.2 = lastF (faultsF l O) l[i].path ∧ (((ruleA l[i] (some s)).2.2.2 == 0) = true → (ruleA l[i] (some s)).1 = s.text ∧ (ruleA l[i] (some s)).2.2.1 = s.from') := by
  have hp := (look_path hs).1
  rw [fault_of hr hs, code_rule h hi hp]
  have e : ruleA l[i] (some s) = if ((fitP l[i] s.text).2 == 0) = true then (s.text, (fitP l[i] s.text).1, s.from', 0) else noneA (fitP l[i] s.text).2 := rfl
  rw [e]
  cases hc : (fitP l[i] s.text).2 == 0
  · rw [if_neg (by simp)]
    refine ⟨rfl, fun h => ?_⟩
    unfold noneA at h
    dsimp only at h
    rw [hc] at h; cases h
  · rw [if_pos rfl]
    refine ⟨?_, fun _ => ⟨rfl, rfl⟩⟩
    have := eq_of_beq hc
    rw [this]
end Go.Proofs.YtphocibgfdihoaaGreatDoor
