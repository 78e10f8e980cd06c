/-
  Drawn texts, entries, layers: what spec's source of draws gives. No statement of the seat is proved here.
-/
import Derived.Test.YtnlakebhkfbpfaaGreatDoorD0
import Derived.Test.YtnlakebhkfbpfaaGreatDoorH3
import Derived.Laws.ResultCell
namespace Go.Proofs.YtnlakebhkfbpfaaGreatDoor
open Go.ChangeShapes Go.WideShapes Go.ChangeAt Go.RowKit
set_option linter.unusedVariables false
set_option linter.unusedSimpArgs false

theorem results_cell1 {fn : Func} {p : Tmp} {ty : TypeId} (h : fn.results = #[.cell p ty]) (tmps : Array Value) (P : Program) (w : World) :
    (results fn tmps).run P w = ((asAddr (tmps.getD p undef)).run P w).andThen fun a w₁ => (loadVar ty a).run P w₁ := by
  simp only [results, h]
  simp [Sem.run_bind, Result.andThen]
theorem Blk.only {g b : Nat} {ty : TypeId} {cs : Array Value} {w w' : World} (h : Blk w b ty cs) (ho : Only g w w') (hg : b ≠ g) : Blk w' b ty cs := (ho.2 b h.lt hg).trans h
theorem Src.set' {B g : Nat} {a : Option Addr} {len cap A : Nat} {w0 w : World} (h : Src B g a len cap A w0 w) {x : Nat} (hx : x ≠ g) (hB : B ≤ x) (i : Nat) (v : Value) : Src B g a len cap A w0 (w.setCell ⟨x, i, none⟩ v) := by
  obtain ⟨p, sd, h1, h2, h3⟩ := h.blk
  exact ⟨⟨p, sd, (Below.heap_setCell w ⟨x, i, none⟩ v g (fun e => hx e.symm)).trans h1, h2, h3⟩, h.ge, h.below.setCell hB _, h.code⟩
theorem Only.set' {g : Nat} {w w1 : World} (h : Only g w w1) {x : Nat} (hx : w.heap.size ≤ x) (i : Nat) (v : Value) : Only g w (w1.setCell ⟨x, i, none⟩ v) :=
  ⟨by rw [World.size_setCell]; exact h.1, fun k hk hg => (Below.heap_setCell w1 ⟨x, i, none⟩ v k (by show k ≠ x; omega)).trans (h.2 k hk hg)⟩
theorem Src.grown {B g : Nat} {a : Option Addr} {len cap A : Nat} {w0 w w' : World} {C : Nat} (h : Src B g a len cap A w0 w) (hb : Below C w w') (hC : g < C) (hBC : B ≤ C) : Src B g a len cap A w0 w' := by
  obtain ⟨p, sd, h1, h2, h3⟩ := h.blk
  exact ⟨⟨p, sd, (hb.block g hC).trans h1, h2, h3⟩, h.ge, h.below.trans (hb.mono hBC), h.code⟩
theorem Only.grown {g : Nat} {w w1 w2 : World} (h : Only g w w1) (hb : Below w.heap.size w1 w2) : Only g w w2 :=
  ⟨Nat.le_trans h.1 hb.size, fun k hk hg => (hb.block k hk).trans (h.2 k hk hg)⟩
theorem Src.lt {B g : Nat} {a : Option Addr} {len cap A : Nat} {w0 w : World} (h : Src B g a len cap A w0 w) : g < w.heap.size := by
  obtain ⟨_, _, hb, _⟩ := h.blk; exact hb.lt
theorem OwnEntrys.only {B g : Nat} {w w' : World} {v : Value} {l : List Entry} (h : OwnEntrys B w v l) (ho : Only g w w') (hg : g < B) : OwnEntrys B w' v l := by
  rcases h.2 with ⟨h1, h2⟩ | ⟨b, cap, cur, h1, hB, hb, h3⟩
  · exact ⟨h.1, .inl ⟨h1, h2⟩⟩
  · exact ⟨h.1, .inr ⟨b, cap, cur, h1, hB, (ho.2 b (Array.getElem?_eq_some_iff.1 hb).1 (by omega)).trans hb, h3⟩⟩
/-- A drawn entry. -/
def EntD (e : Entry) : Prop := e.path.size ≤ 30 ∧ e.text.size ≤ 300
set_option maxRecDepth 100000 in
set_option maxHeartbeats 1000000 in
theorem drawPaths (w : World) : Calls Tryz.prog 42 #[] w fun e w' => e = .returned (.slice (some ⟨w.heap.size, 0, none⟩) 10 10) ∧ Texts w' w.heap.size 10 ∧ Below w.heap.size w w' ∧ w.heap.size < w'.heap.size := by
  go_enter Tryz.func42, Tryz.ntmps42
  go_wp2_with fail
  go_ret
  exact ⟨rfl, texts_new w _ 10 rfl (by decide), (Below.refl _ w).alloc (Nat.le_refl _) _, by simp⟩
set_option maxRecDepth 100000 in
set_option maxHeartbeats 1000000 in
theorem drawSet {B g : Nat} {a : Option Addr} {len cap A : Nat} {w0 w : World} (hA : A ≤ 90000) (hl : len ≤ 1048576) (h : Src B g a len cap A w0 w) :
    Calls Tryz.prog 43 #[.pointer (some ⟨g, 0, none⟩)] w fun e w' => ∃ t : ByteArray, shortT t = true ∧ e = .returned (.string t) ∧ Src B g a len cap (A + 3) w0 w' ∧ Only g w w' := by
  have hg := h.lt
  have c := fun (vs : Array Value) (hn : vs.size = 18) hv => drawPick (B := B) (g := g) (a := a) (len := len) (cap := cap) (A := A) (w0 := w0) (w := w.alloc (.cells vs 9)) w.heap.size 18 (by omega) (by omega) (by omega) hl (h.bel ((Below.refl _ w).alloc (Nat.le_refl _) _)) (texts_new w vs 18 hn hv) (by simp) (by omega)
  clear h
  go_enter Tryz.func43, Tryz.ntmps43
  go_wp2_with (go_at_call 23; go_must (refine (c _ rfl (by decide)).mono ?_; rintro e w1 ⟨t, ht, rfl, hs1, ho1⟩))
  go_ret
  exact ⟨t, ht, rfl, hs1, ((Only.refl g w).bel ((Below.refl _ w).alloc (Nat.le_refl _) _)).trans ho1⟩
theorem three_entries (w : World) (B : Nat) (hB : B ≤ w.heap.size) (p0 t0 p1 t1 p2 t2 : ByteArray) : OwnEntrys B (w.alloc (.cells #[.string p0, .string t0, .string p1, .string t1, .string p2, .string t2] 35)) (.slice (some ⟨w.heap.size, 0, none⟩) 3 3) [⟨p0, t0⟩, ⟨p1, t1⟩, ⟨p2, t2⟩] :=
  ⟨rfl, .inr ⟨w.heap.size, 3, #[.string p0, .string t0, .string p1, .string t1, .string p2, .string t2], rfl, hB, heap_alloc_last w _, by simp, by simp [maxLen], rfl, rfl⟩⟩
/-- What a drawn layer is. -/
def LayD (nm : ByteArray) (r : Nat) (es : List Entry) : Prop := r ≤ 3 ∧ es.length ≤ 20 ∧ ∀ e ∈ es, EntD e
set_option maxRecDepth 100000 in
set_option maxHeartbeats 4000000 in
theorem drawGood {B g : Nat} {a : Option Addr} {len cap A : Nat} {w0 w : World} (nm : ByteArray) (hA : A ≤ 90000) (hl : len ≤ 1048576) (h : Src B g a len cap A w0 w) :
    Calls Tryz.prog 21 #[.pointer (some ⟨g, 0, none⟩), .string nm] w fun e w' => ∃ (r : Nat) (nv : Value) (es : List Entry), e = .returned (.agg #[.string nm, .int .i64 (r : Int), nv]) ∧ LayD nm r es ∧ OwnEntrys w.heap.size w' nv es ∧ Src B g a len cap (A + 10) w0 w' ∧ Only g w w' := by
  have hg := h.lt
  have hBw : B ≤ w.heap.size := Nat.le_trans h.ge (Nat.le_of_lt hg)
  have b0 : Below w.heap.size w (w.alloc (.cells #[.string ⟨#[]⟩, .int .i64 0, .slice none 0 0] 30)) := (Below.refl _ w).alloc (Nat.le_refl _) _
  have k0 : Blk (w.alloc (.cells #[.string ⟨#[]⟩, .int .i64 0, .slice none 0 0] 30)) w.heap.size 30 #[.string ⟨#[]⟩, .int .i64 0, .slice none 0 0] := heap_alloc_last w _
  have cn := drawNext 4 (by omega) (by omega) hl (h.bel b0)
  have cp := fun (W : World) (hs : Src B g a len cap (A + 3) w0 W) (vs : Array Value) (hn : vs.size = 2) hv => drawPick (B := B) (g := g) (a := a) (len := len) (cap := cap) (A := A + 3) (w0 := w0) (w := W.alloc (.cells vs 9)) W.heap.size 2 (by omega) (by omega) (by omega) hl (hs.bel ((Below.refl _ W).alloc (Nat.le_refl _) _)) (texts_new W vs 2 hn hv) (by simp) (by have := hs.lt; omega)
  have HK0 : Hid (Blk (w.alloc (.cells #[.string ⟨#[]⟩, .int .i64 0, .slice none 0 0] 30)) w.heap.size 30 #[.string ⟨#[]⟩, .int .i64 0, .slice none 0 0]) := k0
  clear k0 h
  go_enter Tryz.func21, Tryz.ntmps21
  go_wp2_with (first
    | (go_at_call 23; go_must (refine (cp w1 hs1 _ rfl (by decide)).mono ?_; rintro e w2 ⟨t, ht, rfl, hs2, ho2⟩; have ho12 : Only g w1 w2 := ((Only.refl g w1).bel ((Below.refl _ w1).alloc (Nat.le_refl _) _)).trans ho2; have k2 := (HK0.out.only ho1 (by omega)).only ho12 (by omega); have b2 : Below w2.heap.size w2 (w2.alloc (.cells #[.string ⟨#[110, 101, 116, 46, 112, 111, 114, 116]⟩, .string t, .string ⟨#[208, 191, 209, 131, 209, 130, 209, 140, 46, 208, 186]⟩, .string ⟨#[121, 101, 115]⟩, .string ⟨#[108, 111, 103, 46, 107, 101, 101, 112]⟩, .string ⟨#[53, 115]⟩] 35)) := (Below.refl _ w2).alloc (Nat.le_refl _) _; have k3 := k2.below b2; have f0 := k3.fro 0; have f1 := k3.fro 1; have f2 := k3.fro 2; have r0 := k3.cell 0; have r1 := k3.cell 1; have r2 := k3.cell 2; simp at r0 r1 r2))
    | (go_at_call 19; go_must (refine cn.mono ?_; rintro e w1 ⟨b, hb, rfl, hs1, ho1⟩)))
  have s1 := ((k3.set 0 (.string nm)).set 1 (.int .i64 (b : Int))).set 2 (.slice (some ⟨w2.heap.size, 0, none⟩) 3 3)
  have u0 := s1.cell 0
  have u1 := s1.cell 1
  have u2 := s1.cell 2
  simp at u0 u1 u2
  have ho02 : Only g w w2 := (((Only.refl g w).bel b0).trans ho1).trans ho12
  have hw2 : w.heap.size ≤ w2.heap.size := ho02.1
  have kept := fun (W : World) (i : Nat) (u : Value) (q : OwnEntrys (w.heap.size + 1) W (.slice (some ⟨w2.heap.size, 0, none⟩) 3 3) [⟨⟨#[110, 101, 116, 46, 112, 111, 114, 116]⟩, t⟩, ⟨⟨#[208, 191, 209, 131, 209, 130, 209, 140, 46, 208, 186]⟩, ⟨#[121, 101, 115]⟩⟩, ⟨⟨#[108, 111, 103, 46, 107, 101, 101, 112]⟩, ⟨#[53, 115]⟩⟩]) => q.only (g := w.heap.size) ((Only.refl w.heap.size W).set i u) (by omega)
  have hlt2 : w.heap.size + 1 ≤ w2.heap.size := by have h1 := ho12.1; have h2 := ho1.1; simp only [World.size_alloc] at h2; omega
  have hoe2 := three_entries w2 (w.heap.size + 1) hlt2 ⟨#[110, 101, 116, 46, 112, 111, 114, 116]⟩ t ⟨#[208, 191, 209, 131, 209, 130, 209, 140, 46, 208, 186]⟩ ⟨#[121, 101, 115]⟩ ⟨#[108, 111, 103, 46, 107, 101, 101, 112]⟩ ⟨#[53, 115]⟩
  have hs3 := (((hs2.bel b2).set' (x := w.heap.size) (by omega) hBw 0 (.string nm)).set' (x := w.heap.size) (by omega) hBw 1 (.int .i64 (b : Int))).set' (x := w.heap.size) (by omega) hBw 2 (.slice (some ⟨w2.heap.size, 0, none⟩) 3 3)
  (try simp only [Exit.inBlock, Exit.then])
  refine bodyPost_ret (v := .agg #[.string nm, .int .i64 (b : Int), .slice (some ⟨w2.heap.size, 0, none⟩) 3 3]) (by rw [results_cell1 Tryz.results21]; simp [go_sem, u0, u1, u2]) rfl ?_
  refine ⟨b, _, _, rfl, ⟨by omega, by simp, fun e he => ?_⟩, OwnEntrys.mono (kept _ _ _ (kept _ _ _ (kept _ _ _ hoe2))) (Nat.le_succ _), hs3.mono (by omega), ((ho02.bel b2).set' (Nat.le_refl _) _ _ |>.set' (Nat.le_refl _) _ _).set' (Nat.le_refl _) _ _⟩
  have htz := short_size ht
  simp only [List.mem_cons, List.mem_nil_iff, or_false] at he
  rcases he with rfl | rfl | rfl
  · exact ⟨by dsimp only; decide, by dsimp only; omega⟩
  · exact ⟨by decide, by decide⟩
  · exact ⟨by decide, by decide⟩
theorem Blk.below' {w w' : World} {g B : Nat} {ty : TypeId} {cs : Array Value} (h : Blk w g ty cs) (hb : Below B w w') (hg : g < B) : Blk w' g ty cs := (hb.block g hg).trans h
theorem Blk.kept' {w : World} {b : Nat} {ty : TypeId} {cs : Array Value} (h : Blk w b ty cs) {g : Nat} (i : Nat) (u : Value) (hg : b ≠ g) : Blk (w.setCell ⟨g, i, none⟩ u) b ty cs := (Below.heap_setCell w ⟨g, i, none⟩ u b hg).trans h
theorem EntrysAt.newAt (w : World) (x y : ByteArray) (g : Nat) (hg : w.heap.size = g) : EntrysAt (fun b => b = g) (w.alloc (.cells #[.string x, .string y] 35)) (.slice (some ⟨g, 0, none⟩) 1 1) [⟨x, y⟩] := by
  subst hg; exact EntrysAt.new w x y
set_option maxRecDepth 100000 in
set_option maxHeartbeats 8000000 in
theorem drawLayer {B g : Nat} {a : Option Addr} {len cap A : Nat} {w0 w : World} (nm : ByteArray) (hA : A ≤ 80000) (hl : len ≤ 1048576) (h : Src B g a len cap A w0 w) :
    Calls Tryz.prog 22 #[.pointer (some ⟨g, 0, none⟩), .string nm] w fun e w' => ∃ (r : Nat) (nv : Value) (es : List Entry), e = .returned (.agg #[.string nm, .int .i64 (r : Int), nv]) ∧ LayD nm r es ∧ OwnEntrys w.heap.size w' nv es ∧ Src B g a len cap (A + 100) w0 w' ∧ Only g w w' := by
  have hg := h.lt
  have hBw : B ≤ w.heap.size := Nat.le_trans h.ge (Nat.le_of_lt hg)
  have b0 : Below w.heap.size w (w.alloc (.cells #[.string ⟨#[]⟩, .int .i64 0, .slice none 0 0] 30)) := (Below.refl _ w).alloc (Nat.le_refl _) _
  have k0 : Blk (w.alloc (.cells #[.string ⟨#[]⟩, .int .i64 0, .slice none 0 0] 30)) w.heap.size 30 #[.string ⟨#[]⟩, .int .i64 0, .slice none 0 0] := heap_alloc_last w _
  have cn := drawNext 4 (by omega) (by omega) hl (h.bel b0)
  have c19 := fun (n A' : Nat) (hn : n ≤ 100) (hA' : A' ≤ 100000) (W : World) (hs : Src B g a len cap A' w0 W) => drawNext (n := n) (by omega) hA' hl hs
  have c41 := fun (A' : Nat) (W : World) (hs : Src B g a len cap A' w0 W) => drawSize (n := 6) (by omega) hl hs
  have c23 := fun (A' lb : Nat) (hA' : A' ≤ 100000) (W : World) (hs : Src B g a len cap A' w0 W) (ht : Texts W lb 10) (hlb : lb < W.heap.size) (hgl : lb ≠ g) => drawPick lb 10 (by omega) (by omega) hA' hl hs ht hlb hgl
  have c43 := fun (A' : Nat) (hA' : A' ≤ 90000) (W : World) (hs : Src B g a len cap A' w0 W) => drawSet hA' hl hs
  have H19 : Hid _ := c19
  have H41 : Hid _ := c41
  have H23 : Hid _ := c23
  have H43 : Hid _ := c43
  have HK0 : Hid (Blk (w.alloc (.cells #[.string ⟨#[]⟩, .int .i64 0, .slice none 0 0] 30)) w.heap.size 30 #[.string ⟨#[]⟩, .int .i64 0, .slice none 0 0]) := k0
  clear k0 h c19 c41 c23 c43
  go_enter Tryz.func22, Tryz.ntmps22
  go_upto_region 2 with (go_at_call 19; go_must (refine cn.mono ?_; rintro e w1 ⟨r, hr, rfl, hs1, ho1⟩))
  have k1 := HK0.out.only ho1 (by omega)
  have b1 : Below w1.heap.size w1 (w1.alloc (.cells #[.string nm, .int .i64 (r : Int), .slice none 0 0] 30)) := (Below.refl _ w1).alloc (Nat.le_refl _) _
  have kL : Blk (w1.alloc (.cells #[.string nm, .int .i64 (r : Int), .slice none 0 0] 30)) w1.heap.size 30 #[.string nm, .int .i64 (r : Int), .slice none 0 0] := heap_alloc_last w1 _
  have hs2 := hs1.bel b1
  have k2 := k1.below b1
  have ho2 : Only g w (w1.alloc (.cells #[.string nm, .int .i64 (r : Int), .slice none 0 0] 30)) := (((Only.refl g w).bel b0).trans ho1).bel b1
  have hlt1 : w.heap.size < w1.heap.size := k1.lt
  have hsz : w1.heap.size + 1 = (w1.alloc (.cells #[.string nm, .int .i64 (r : Int), .slice none 0 0] 30)).heap.size := by simp
  have hr3 : r ≤ 3 := by omega
  obtain ⟨W1, hW1⟩ : ∃ W1, w1.alloc (.cells #[.string nm, .int .i64 (r : Int), .slice none 0 0] 30) = W1 := ⟨_, rfl⟩
  rw [hW1] at kL hs2 k2 ho2 hsz ⊢
  obtain ⟨b5, hb5⟩ : ∃ b5, w1.heap.size = b5 := ⟨_, rfl⟩
  rw [hb5] at kL hlt1 hsz ⊢
  have cz := H41.out (A + 3) W1 hs2
  have HKL : Hid (Blk W1 b5 30 #[.string nm, .int .i64 (r : Int), .slice none 0 0]) := kL
  have HK2 : Hid (Blk W1 w.heap.size 30 #[.string ⟨#[]⟩, .int .i64 0, .slice none 0 0]) := k2
  have HO2 : Hid (Only g w W1) := ho2
  clear hW1 hb5 b1 b0 k1 kL k2 ho1 hs1 cn HK0 ho2
  go_wp2_with (first
    | (go_at_call 41; go_must (refine cz.mono ?_; rintro e w3 ⟨z, hz, rfl, rfl⟩; have cy := H19.out (z + 2) (A + 3) (by omega) (by omega) _ hs2))
    | (go_at_call 19; go_must (refine cy.mono ?_; rintro e w4 ⟨y, hy, rfl, hs4, ho4⟩)))
  have hy7 : y ≤ 7 := by omega
  have hgB : g < b5 + 1 := by omega
  have HK4 : Hid (Blk w4 b5 30 #[.string nm, .int .i64 (r : Int), .slice none 0 0]) := HKL.out.only ho4 (by omega)
  have HO4 : Hid (Only g w w4) := HO2.out.trans ho4
  have HKR : Hid (Blk w4 w.heap.size 30 #[.string ⟨#[]⟩, .int .i64 0, .slice none 0 0]) := HK2.out.only ho4 (by omega)
  clear cz cy ho4 hs2 HKL HK2 HO2 hsz
  go_loopw [6] (fun i6 wr => ∃ (i : Nat) (nv : Value) (es : List Entry), i6 = .int .i64 (i : Int) ∧ es.length + i ≤ 7 ∧ Blk wr b5 30 #[.string nm, .int .i64 (r : Int), nv] ∧ Blk wr w.heap.size 30 #[.string ⟨#[]⟩, .int .i64 0, .slice none 0 0] ∧ OwnEntrys (b5 + 1) wr nv es ∧ (∀ e ∈ es, EntD e) ∧ Src B g a len cap (A + 6 + 6 * (8 - i)) w0 wr ∧ Only g w wr) (fun i6 _ => (intOf i6).toNat)
  case atStart => exact ⟨y, .slice none 0 0, [], rfl, by simpa using hy7, HK4.out, HKR.out, OwnEntrys.nil _ _, (fun e he => by cases he), hs4.mono (by omega), HO4.out⟩
  case round =>
    obtain ⟨i, nv, es, rfl, hei, hkl, hkr, hoe, hed, hs, ho⟩ := hrel
    obtain ⟨ea, ec, hnv, -⟩ := hoe.value
    subst hnv
    have HKL : Hid (Blk wr b5 30 #[.string nm, .int .i64 (r : Int), .slice ea es.length ec]) := hkl
    have HKR2 : Hid (Blk wr w.heap.size 30 #[.string ⟨#[]⟩, .int .i64 0, .slice none 0 0]) := hkr
    have HOE : Hid (OwnEntrys (b5 + 1) wr (.slice ea es.length ec) es) := hoe
    have HED : Hid (∀ e ∈ es, EntD e) := hed
    have HO : Hid (Only g w wr) := ho
    have hlr := hkl.lt
    have hel : (es.length : Int) ≤ 7 := by omega
    clear hkl hkr hoe hed ho
    by_cases hi0 : 0 < i
    · have hi0' : (0 : Int) < (i : Int) := by omega
      have cq := drawPaths wr
      go_upto_region 6 with (first
        | (go_at_call 42; go_must (refine cq.mono ?_; rintro e w5 ⟨rfl, ht5, hb5, hlt5⟩; have hs5 := hs.bel hb5; have cp := H23.out (A + 6 + 6 * (8 - i)) wr.heap.size (by omega) w5 hs5 ht5 hlt5 (by omega)))
        | (go_at_call 23; go_must (refine cp.mono ?_; rintro e w6 ⟨p, hp, rfl, hs6, ho6⟩; have cs := H43.out (A + 6 + 6 * (8 - i) + 3) (by omega) w6 hs6))
        | (go_at_call 43; go_must (refine cs.mono ?_; rintro e w7 ⟨t, ht, rfl, hs7, ho7⟩)))
      have ho57 : Only g wr w7 := (((Only.refl g wr).bel hb5).trans ho6).trans ho7
      have bE : Below w7.heap.size w7 (w7.alloc (.cells #[.string p, .string t] 35)) := (Below.refl _ w7).alloc (Nat.le_refl _) _
      have kE : Blk (w7.alloc (.cells #[.string p, .string t] 35)) w7.heap.size 35 #[.string p, .string t] := heap_alloc_last w7 _
      have hoE : Only g wr (w7.alloc (.cells #[.string p, .string t] 35)) := ho57.bel bE
      have hs8 := hs7.bel bE
      have kL8 := HKL.out.only hoE (by omega)
      have kR8 := HKR2.out.only hoE (by omega)
      have oe8 := HOE.out.only hoE hgB
      have hw7 : wr.heap.size ≤ w7.heap.size := ho57.1
      have hoW := HO.out.trans hoE
      obtain ⟨W8, hW8⟩ : ∃ W8, w7.alloc (.cells #[.string p, .string t] 35) = W8 := ⟨_, rfl⟩
      rw [hW8] at kE hoE hs8 kL8 kR8 oe8 hoW ⊢
      obtain ⟨b7, hb7⟩ : ∃ b7, w7.heap.size = b7 := ⟨_, rfl⟩
      rw [hb7] at kE hw7 ⊢
      have hlt8 := kE.lt
      have e0 := kE.cell 0
      have e1 := kE.cell 1
      have q2 := kL8.cell 2
      simp at e0 e1 q2
      obtain ⟨ea', ec', hv', hcc⟩ := oe8.value
      simp only [Value.slice.injEq] at hv'
      obtain ⟨rfl, -, rfl⟩ := hv'
      have HCC : Hid (es.length ≤ maxLen ∧ (0 < es.length → ∃ g, ea = some ⟨g, 0, none⟩ ∧ b5 + 1 ≤ g ∧ g < W8.heap.size ∧ ∀ (j : Nat) (hj : j < es.length), W8.cell? ⟨g, j * 2, none⟩ = some (.string es[j].path) ∧ W8.cell? ⟨g, j * 2 + 1, none⟩ = some (.string es[j].text))) := hcc
      have HKE : Hid (Blk W8 b7 35 #[.string p, .string t]) := kE
      have HKL8 : Hid (Blk W8 b5 30 #[.string nm, .int .i64 (r : Int), .slice ea es.length ec]) := kL8
      have HKR8 : Hid (Blk W8 w.heap.size 30 #[.string ⟨#[]⟩, .int .i64 0, .slice none 0 0]) := kR8
      have HOE8 : Hid (OwnEntrys (b5 + 1) W8 (.slice ea es.length ec) es) := oe8
      have HS8 : Hid (Src B g a len cap (A + 6 + 6 * (8 - i) + 3 + 3) w0 W8) := hs8
      have HO8 : Hid (Only g w W8) := hoW
      have hl8 := kL8.lt
      clear hW8 hb7 bE kE hoE hs8 kL8 kR8 oe8 hoW hcc ho57 ho6 ho7 hs5 hs6 hs7 hb5 ht5 cq cp cs HKL HKR2 HOE HO hs
      go_wp2_with fail
      go_loopw [8, 9] (fun i8 i9 wr => ∃ (k : Nat) (Fb : Bool), i8 = .bool Fb ∧ i9 = .int .i64 (k : Int) ∧ k ≤ es.length ∧ Below W8.heap.size W8 wr) (fun _ i9 _ => es.length - (intOf i9).toNat)
      case atStart => exact ⟨0, true, rfl, rfl, by omega, Below.refl _ _⟩
      case round =>
        obtain ⟨k, Fb, rfl, rfl, hk, hb9⟩ := hrel
        have f0 := (hb9.cell (p := ⟨b7, 0, none⟩) hlt8).trans e0
        have f1 := (hb9.cell (p := ⟨b7, 1, none⟩) hlt8).trans e1
        have f2 := (hb9.cell (p := ⟨b5, 2, none⟩) hl8).trans q2
        by_cases hkn : k < es.length
        · have hkn' : (k : Int) < (es.length : Int) := by omega
          obtain ⟨ge, rfl, _, hge, hcell⟩ := HCC.out.2 (by omega)
          obtain ⟨x1, x2⟩ := hcell k hkn
          have d1 := (hb9.cell (p := ⟨ge, k * 2, none⟩) hge).trans x1
          obtain ⟨zp, hzp⟩ : ∃ zp, es[k].path = zp := ⟨_, rfl⟩
          rw [hzp] at d1
          clear hcell x1 x2 hzp
          cases Fb
          · go_upto_region 10 with fail
            go_quiet (fail)
            go_wp2_with fail
            exact ⟨⟨k + 1, false, rfl, rfl, by omega, bel_drewN hb9 nq⟩, by simp [intOf]; omega⟩
          · cases hcmp : (zp.toList == p.toList)
            · go_upto_region 10 with fail
              go_quiet (fail)
              go_wp2_with fail
              exact ⟨⟨k + 1, true, rfl, rfl, by omega, bel_drewN hb9 nq⟩, by simp [intOf]; omega⟩
            · go_upto_region 10 with fail
              go_quiet (fail)
              go_wp2_with fail
              exact ⟨⟨k + 1, false, rfl, rfl, by omega, bel_drewN hb9 nq⟩, by simp [intOf]; omega⟩
        · obtain rfl : k = es.length := by omega
          have hkn' : ¬ ((es.length : Int) < (es.length : Int)) := by omega
          have kLr := HKL8.out.below hb9
          have kRr := HKR8.out.below hb9
          have oer := OwnEntrys.below HOE8.out hb9
          have hsr := HS8.out.bel hb9
          have hor := HO8.out.bel hb9
          cases Fb
          · go_wp2_with fail
            exact ⟨⟨i - 1, .slice ea es.length ec, es, by go_num, by omega, kLr, kRr, oer, HED.out, hsr.mono (by omega), hor⟩, by simp [intOf]; omega⟩
          · have fr2 := kLr.fro 2
            have bX : Below wr.heap.size wr (wr.alloc (.cells #[.string p, .string t] 35)) := (Below.refl _ wr).alloc (Nat.le_refl _) _
            have HOX : Hid (OwnEntrys (b5 + 1) (wr.alloc (.cells #[.string p, .string t] 35)) (.slice ea es.length ec) es) := OwnEntrys.below oer bX
            have HKX : Hid (Blk (wr.alloc (.cells #[.string p, .string t] 35)) b5 30 #[.string nm, .int .i64 (r : Int), .slice ea es.length ec]) := kLr.below bX
            have HRX : Hid (Blk (wr.alloc (.cells #[.string p, .string t] 35)) w.heap.size 30 #[.string ⟨#[]⟩, .int .i64 0, .slice none 0 0]) := kRr.below bX
            have HSX : Hid (Src B g a len cap (A + 6 + 6 * (8 - i) + 3 + 3) w0 (wr.alloc (.cells #[.string p, .string t] 35))) := hsr.bel bX
            have HOX2 : Hid (Only g w (wr.alloc (.cells #[.string p, .string t] 35))) := hor.bel bX
            have hb5r : b5 + 1 ≤ wr.heap.size := by have := kLr.lt; omega
            clear kLr kRr oer hsr hor bX
            go_wp2_with (at_builtin; go_must (refine wpList_appendEntrys rfl (.tmp 50) (.tmp 52) rfl (b5 + 1) (.slice ea es.length ec) es rfl HOX.out _ [⟨p, t⟩] rfl (EntrysAt.newAt _ p t _ (by simp)) (by simp <;> omega) (by simp only [World.size_alloc]; omega) ?_; intro v9 w9 hown9 hB9 hgr9 hnil9; obtain ⟨a9, c9, e9, -⟩ := hown9.value; have hl9 : (es ++ [(⟨p, t⟩ : Entry)]).length = es.length + 1 := (by simp); rw [hl9] at e9; subst e9; have kx9 := HKX.out.below' hB9 (by omega); have g2 := kx9.fro 2; have g3 := kx9.cell 2; simp at g3))
            have kF := kx9.set 2 (.slice a9 (es.length + 1) c9)
            have kF2 : Blk (w9.setCell ⟨b5, 2, none⟩ (.slice a9 (es.length + 1) c9)) b5 30 #[.string nm, .int .i64 (r : Int), .slice a9 (es.length + 1) c9] := by simpa using kF
            have kR9 := (HRX.out.below' hB9 (by omega)).kept' (g := b5) 2 (.slice a9 (es.length + 1) c9) (by omega)
            have oe9 : OwnEntrys (b5 + 1) (w9.setCell ⟨b5, 2, none⟩ (.slice a9 (es.length + 1) c9)) (.slice a9 (es.length + 1) c9) (es ++ [⟨p, t⟩]) := by
              have := hown9.only (g := b5) ((Only.refl b5 w9).set 2 (.slice a9 (es.length + 1) c9)) (Nat.lt_succ_self _)
              exact this
            have hs9 := (HSX.out.grown hB9 hgB (by omega)).set' (x := b5) (by omega) (by omega) 2 (.slice a9 (es.length + 1) c9)
            have ho9 := (HOX2.out.grown (hB9.mono (by omega))).set' (x := b5) (by omega) 2 (.slice a9 (es.length + 1) c9)
            exact ⟨⟨i - 1, .slice a9 (es.length + 1) c9, es ++ [⟨p, t⟩], by go_num, by simp; omega, kF2, kR9, oe9, fun e he => by
              rcases List.mem_append.1 he with q | q
              · exact HED.out e q
              · rw [List.mem_singleton] at q
                subst q
                exact ⟨short_size hp, by have := short_size ht; dsimp only; omega⟩, hs9.mono (by omega), ho9⟩, by simp [intOf]; omega⟩
    · have hi0' : ¬ ((0 : Int) < (i : Int)) := by omega
      have q0 := HKL.out.cell 0
      have q1 := HKL.out.cell 1
      have q2 := HKL.out.cell 2
      have f0 := HKR2.out.fro 0
      have f1 := HKR2.out.fro 1
      have f2 := HKR2.out.fro 2
      have r0 := HKR2.out.cell 0
      have r1 := HKR2.out.cell 1
      have r2 := HKR2.out.cell 2
      simp at q0 q1 q2 r0 r1 r2
      go_wp2_with fail
      have s1 := ((HKR2.out.set 0 (.string nm)).set 1 (.int .i64 (r : Int))).set 2 (.slice ea es.length ec)
      have u0 := s1.cell 0
      have u1 := s1.cell 1
      have u2 := s1.cell 2
      simp at u0 u1 u2
      have kept := fun (W : World) (j : Nat) (u : Value) (q : OwnEntrys (b5 + 1) W (.slice ea es.length ec) es) => q.only (g := w.heap.size) ((Only.refl w.heap.size W).set j u) (by omega)
      (try simp only [Exit.inBlock, Exit.then])
      refine bodyPost_ret (v := .agg #[.string nm, .int .i64 (r : Int), .slice ea es.length ec]) (by rw [results_cell1 Tryz.results22]; simp [go_sem, u0, u1, u2]) rfl ?_
      refine ⟨r, _, rfl, es, ⟨hr3, by omega, HED.out⟩, OwnEntrys.mono (kept _ _ _ (kept _ _ _ (kept _ _ _ HOE.out))) (by omega), ?_, ((HO.out.set' (Nat.le_refl _) _ _).set' (Nat.le_refl _) _ _).set' (Nat.le_refl _) _ _⟩
      exact ((((hs.set' (x := w.heap.size) (by omega) hBw 0 (.string nm)).set' (x := w.heap.size) (by omega) hBw 1 (.int .i64 (r : Int))).set' (x := w.heap.size) (by omega) hBw 2 (.slice ea es.length ec))).mono (by omega)
end Go.Proofs.YtnlakebhkfbpfaaGreatDoor
