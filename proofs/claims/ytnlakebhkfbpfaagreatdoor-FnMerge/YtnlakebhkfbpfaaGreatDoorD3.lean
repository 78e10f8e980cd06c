/-
  Drawn lists of layers: the walk. No statement of the seat is proved here.
-/
import Derived.Test.YtnlakebhkfbpfaaGreatDoorD2
import Derived.Deep.Cut
import Derived.Deep.CutRange
import Derived.Deep.CutBlock
import Derived.Deep.RegionHeld3
namespace Go.Proofs.YtnlakebhkfbpfaaGreatDoor
open Go.ChangeShapes Go.WideShapes Go.ChangeAt Go.RowKit
set_option linter.unusedVariables false
set_option linter.unusedSimpArgs false

def sizeT (v : Value) : Nat := match v with
  | .string t => t.size
  | _ => 0
/-- Layers that were drawn. -/
def Drawn (B : Nat) (w : World) (v : Value) (l : List LayV) : Prop := OwnLayVs B w v l ∧ ∀ y ∈ l, OwnEntrys B w y.nv y.x.entries ∧ LayN y.x
/-- The layer in hand, and those that stay. -/
def InHand (B b7 b : Nat) (l : List LayV) (v : Value) (w : World) (y : LayV) : Prop := Blk w b7 30 #[.string y.x.name, .int .i64 y.x.rank, y.nv] ∧ LayN y.x ∧ OwnEntrys B w y.nv y.x.entries ∧ OwnLayVs B w v l ∧ ∀ j (hj : j < l.length), j ≠ b → OwnEntrys B w l[j].nv l[j].x.entries
/-- A call of a Go function by its contract, as one step of a region that draws. -/
theorem step_callC {ops : Array Oper} {o : Oper} {a : Act} {w : World} {K : Act → World → Prop} {Q : Exit → Act → World → Prop} {E : Prop} (hg : o.guard = none) (f : FuncId) (args : Array Value) (hrun : (execOp a.eval o).run Tryz.prog w = .ok (.enter f args) w) {Post : Ending → World → Prop} (hc : Calls Tryz.prog f args w Post) (h : ∀ e w', Post e w' → ∃ v, e = .returned v ∧ K (a.put o.dst v) w') :
    if Region.wanted o (yielded ops a.tmps) = true then Oper.wp Tryz.prog o a w K Q else E := by
  have hw : Region.wanted o (yielded ops a.tmps) = true := by simp [Region.wanted, hg]
  rw [if_pos hw]
  unfold Oper.wp
  rw [hrun, Oper.upon_enter]
  refine hc.mono fun e w'' hh => ?_
  obtain ⟨v, rfl, hk⟩ := h e w'' hh
  exact hk
theorem set_grown (w : World) (g i : Nat) (u : Value) : w.grownBy (w.setCell ⟨g, i, none⟩ u) (some g) := by
  have hb := (Below.refl 0 w).setCell (p := ⟨g, i, none⟩) (Nat.zero_le _) u
  exact ⟨hb.os, hb.tape, hb.output, hb.size, fun k _ hk => Below.heap_setCell w ⟨g, i, none⟩ u k (fun e => hk (by rw [e]))⟩
theorem InHand.only {B b7 b g : Nat} {l : List LayV} {v : Value} {w w' : World} {y : LayV} (h : InHand B b7 b l v w y) (ho : Only g w w') (hg : g < B) (hb : b7 ≠ g) : InHand B b7 b l v w' y :=
  ⟨h.1.only ho hb, h.2.1, h.2.2.1.only ho hg, h.2.2.2.1.only ho hg, fun j hj hne => (h.2.2.2.2 j hj hne).only ho hg⟩
theorem InHand.below {B b7 b : Nat} {l : List LayV} {v : Value} {w w' : World} {y : LayV} (h : InHand B b7 b l v w y) (hb : Below w.heap.size w w') : InHand B b7 b l v w' y :=
  ⟨h.1.below hb, h.2.1, OwnEntrys.below h.2.2.1 hb, OwnLayVs.below h.2.2.2.1 hb, fun j hj hne => OwnEntrys.below (h.2.2.2.2 j hj hne) hb⟩
theorem lay_fro {B g n c : Nat} {w : World} {l : List LayV} (h : OwnLayVs B w (.slice (some ⟨g, 0, none⟩) n c) l) (i : Nat) : w.frozen? ⟨g, i, none⟩ = false := by
  rcases h.2 with ⟨h1, _⟩ | ⟨g', cap, cur, h1, hB, hb, _⟩
  · cases h1
  · simp only [Value.slice.injEq, Option.some.injEq, Addr.mk.injEq, and_true] at h1
    obtain ⟨rfl, -, -⟩ := h1
    exact (show Blk w g _ cur from hb).fro i
/-- The layer in hand has another name. -/
theorem InHand.name {B b7 b go n c : Nat} {l : List LayV} {w : World} {nm : ByteArray} {r : Int} {es : List Entry} {nv : Value} (h : InHand B b7 b l (.slice (some ⟨go, 0, none⟩) n c) w ⟨⟨nm, r, es⟩, nv⟩) (hgo : go ≠ b7) (t : ByteArray) (ht : shortT t = true) : InHand B b7 b l (.slice (some ⟨go, 0, none⟩) n c) (w.setCell ⟨b7, 0, none⟩ (.string t)) ⟨⟨t, r, es⟩, nv⟩ := by
  have g1 := set_grown w b7 0 (.string t)
  refine ⟨by simpa using h.1.set 0 (.string t), ⟨ht, h.2.1.2⟩, h.2.2.1.kept g1 (.inr (row_blk h.2.2.1 h.1 (by decide)).symm), h.2.2.2.1.kept g1 (.inr (by simpa [Value.ownBlock] using hgo)), fun j hj hne => (h.2.2.2.2 j hj hne).kept g1 (.inr (row_blk (h.2.2.2.2 j hj hne) h.1 (by decide)).symm)⟩
/-- The layer in hand has one more entry. -/
theorem InHand.more {B b7 b go n c : Nat} {l : List LayV} {w w9 : World} {nm : ByteArray} {r : Int} {es : List Entry} {nv v9 : Value} {e : Entry} (h : InHand B b7 b l (.slice (some ⟨go, 0, none⟩) n c) w ⟨⟨nm, r, es⟩, nv⟩) (hgo : go ≠ b7) (hap : ∀ j (hj : j < l.length), j ≠ b → l[j].nv.ownBlock = none ∨ nv.ownBlock = none ∨ l[j].nv.ownBlock ≠ nv.ownBlock) (hown : OwnEntrys B w9 v9 (es ++ [e])) (hgr : w.grownBy w9 nv.ownBlock) (hel : es.length ≤ 20) (he : EntD e) : InHand B b7 b l (.slice (some ⟨go, 0, none⟩) n c) (w9.setCell ⟨b7, 2, none⟩ v9) ⟨⟨nm, r, es ++ [e]⟩, v9⟩ := by
  have k9 : Blk w9 b7 _ _ := h.1.kept hgr (row_blk h.2.2.1 h.1 (by decide))
  have g1 := set_grown w9 b7 2 v9
  have hrow : OwnLayVs B w9 (.slice (some ⟨go, 0, none⟩) n c) l := h.2.2.2.1.kept hgr (rows_apart h.2.2.2.1 h.2.2.1 (by decide))
  have hent : ∀ j (hj : j < l.length), j ≠ b → OwnEntrys B w9 l[j].nv l[j].x.entries := fun j hj hne => (h.2.2.2.2 j hj hne).kept hgr (by
    rcases hap j hj hne with q | q | q
    · exact .inl q
    · cases hq : l[j].nv.ownBlock with
      | none => exact .inl rfl
      | some z => exact .inr (by rw [q]; simp)
    · exact .inr q)
  obtain ⟨n1, n2, n3, n4, n5⟩ := h.2.1
  refine ⟨by simpa using k9.set 2 v9, ⟨n1, n2, n3, by simp; omega, fun x hx => ?_⟩, hown.kept g1 (.inr (row_blk hown k9 (by decide)).symm), hrow.kept g1 (.inr (by simpa [Value.ownBlock] using hgo)), fun j hj hne => (hent j hj hne).kept g1 (.inr (row_blk (hent j hj hne) k9 (by decide)).symm)⟩
  rcases List.mem_append.1 hx with q | q
  · exact n5 x q
  · rw [List.mem_singleton] at q
    subst q
    exact he
set_option maxRecDepth 100000 in
set_option maxHeartbeats 16000000 in
theorem drawLayers {B g : Nat} {a : Option Addr} {len cap A : Nat} {w0 w : World} (hA : A ≤ 60000) (hl : len ≤ 1048576) (h : Src B g a len cap A w0 w) :
    Calls Tryz.prog 10 #[.pointer (some ⟨g, 0, none⟩)] w fun e w' => ∃ (v : Value) (l : List LayV), e = .returned v ∧ Drawn w.heap.size w' v l ∧ l.length ≤ 4 ∧ Src B g a len cap (A + 2000) w0 w' ∧ Only g w w' := by
  have hg := h.lt
  have hBw : B ≤ w.heap.size := Nat.le_trans h.ge (Nat.le_of_lt hg)
  have hb0 : Below w.heap.size w ((w.alloc (.cells #[] 30)).alloc (.cells #[.string ⟨#[98, 97, 115, 101]⟩, .string ⟨#[115, 105, 116, 101]⟩, .string ⟨#[206, 187]⟩, .string ⟨#[117, 115, 101, 114]⟩, .string ⟨#[102, 108, 97, 103, 115]⟩] 9)) := ((Below.refl _ w).alloc (Nat.le_refl _) _).alloc (by simp) _
  have kN : Blk ((w.alloc (.cells #[] 30)).alloc (.cells #[.string ⟨#[98, 97, 115, 101]⟩, .string ⟨#[115, 105, 116, 101]⟩, .string ⟨#[206, 187]⟩, .string ⟨#[117, 115, 101, 114]⟩, .string ⟨#[102, 108, 97, 103, 115]⟩] 9)) (w.heap.size + 1) 9 #[.string ⟨#[98, 97, 115, 101]⟩, .string ⟨#[115, 105, 116, 101]⟩, .string ⟨#[206, 187]⟩, .string ⟨#[117, 115, 101, 114]⟩, .string ⟨#[102, 108, 97, 103, 115]⟩] := by
    have := heap_alloc_last (w.alloc (.cells #[] 30)) (.cells #[.string ⟨#[98, 97, 115, 101]⟩, .string ⟨#[115, 105, 116, 101]⟩, .string ⟨#[206, 187]⟩, .string ⟨#[117, 115, 101, 114]⟩, .string ⟨#[102, 108, 97, 103, 115]⟩] 9)
    rwa [World.size_alloc] at this
  have ow0 : OwnLays w.heap.size ((w.alloc (.cells #[] 30)).alloc (.cells #[.string ⟨#[98, 97, 115, 101]⟩, .string ⟨#[115, 105, 116, 101]⟩, .string ⟨#[206, 187]⟩, .string ⟨#[117, 115, 101, 114]⟩, .string ⟨#[102, 108, 97, 103, 115]⟩] 9)) (.slice (some ⟨w.heap.size, 0, none⟩) 0 0) [] :=
    ⟨OwnLayVs.below (OwnLayVs.empty w.heap.size w (Nat.le_refl _)) ((Below.refl _ _).alloc (Nat.le_refl _) _), fun y hy => (by cases hy), fun y hy => (by cases hy), List.Pairwise.nil⟩
  have hs0 := h.bel hb0
  have cn := drawNext 5 (by omega) (by omega) hl hs0
  have c19 := fun (n A' : Nat) (hn : n ≤ 100) (hA' : A' ≤ 100000) (W : World) (hs : Src B g a len cap A' w0 W) => drawNext (n := n) (by omega) hA' hl hs
  have c20 := fun (A' : Nat) (hA' : A' ≤ 100000) (W : World) (hs : Src B g a len cap A' w0 W) => drawChance (n := 3) (by omega) hA' hl hs
  have c21 := fun (nm : ByteArray) (A' : Nat) (hA' : A' ≤ 80000) (W : World) (hs : Src B g a len cap A' w0 W) => drawGood nm (by omega) hl hs
  have c22 := fun (nm : ByteArray) (A' : Nat) (hA' : A' ≤ 80000) (W : World) (hs : Src B g a len cap A' w0 W) => drawLayer nm hA' hl hs
  have c23 := fun (A' n : Nat) (hn : 0 < n ∧ n ≤ 100) (hA' : A' ≤ 100000) (W : World) (hs : Src B g a len cap A' w0 W) (vs : Array Value) (hv : vs.size = n) hq => drawPick (B := B) (g := g) (a := a) (len := len) (cap := cap) (A := A') (w0 := w0) (w := W.alloc (.cells vs 9)) W.heap.size n hn.1 (by omega) hA' hl (hs.bel ((Below.refl _ W).alloc (Nat.le_refl _) _)) (texts_new W vs n hv hq) (by simp) (by have := hs.lt; omega)
  have H19 : Hid _ := c19
  have H20 : Hid _ := c20
  have H21 : Hid _ := c21
  have H22 : Hid _ := c22
  have H23 : Hid _ := c23
  have HOW0 : Hid _ := ow0
  have HKN0 : Hid _ := kN
  clear c19 c20 c21 c22 c23 ow0 kN h
  go_enter Tryz.func10, Tryz.ntmps10
  go_wp2_with (go_at_call 19; go_must (refine cn.mono ?_; rintro e w1 ⟨n0, hn0, rfl, hs1, ho1⟩))
  have HOW1 : Hid (OwnLays w.heap.size w1 (.slice (some ⟨w.heap.size, 0, none⟩) 0 0) []) := OwnLays.only HOW0.out ho1 hg
  have HKN1 : Hid (Blk w1 (w.heap.size + 1) 9 #[.string ⟨#[98, 97, 115, 101]⟩, .string ⟨#[115, 105, 116, 101]⟩, .string ⟨#[206, 187]⟩, .string ⟨#[117, 115, 101, 114]⟩, .string ⟨#[102, 108, 97, 103, 115]⟩]) := Blk.only HKN0.out ho1 (by omega)
  have HO1 : Hid (Only g w w1) := ((Only.refl g w).bel hb0).trans ho1
  have hn4 : n0 ≤ 4 := by omega
  clear HOW0 HKN0 hb0 hs0 cn ho1 hn0
  go_loopw [3, 5] (fun i3 i5 wr => ∃ (i : Nat) (l : List LayV), i5 = .int .i64 (i : Int) ∧ OwnLays w.heap.size wr i3 l ∧ l.length + i ≤ 4 ∧ Blk wr (w.heap.size + 1) 9 #[.string ⟨#[98, 97, 115, 101]⟩, .string ⟨#[115, 105, 116, 101]⟩, .string ⟨#[206, 187]⟩, .string ⟨#[117, 115, 101, 114]⟩, .string ⟨#[102, 108, 97, 103, 115]⟩] ∧ Src B g a len cap (A + 3 + 110 * (5 - i)) w0 wr ∧ Only g w wr) (fun _ i5 _ => (intOf i5).toNat)
  case atStart => exact ⟨n0, [], rfl, HOW1.out, by simpa using hn4, HKN1.out, hs1.mono (by omega), HO1.out⟩
  case round =>
    obtain ⟨i, l, rfl, how, hli, hkn, hs, ho⟩ := hrel
    obtain ⟨oa, oc, hv, -⟩ := how.row.value
    subst hv
    have HOW : Hid (OwnLays w.heap.size wr (.slice oa l.length oc) l) := how
    have HKN : Hid (Blk wr (w.heap.size + 1) 9 #[.string ⟨#[98, 97, 115, 101]⟩, .string ⟨#[115, 105, 116, 101]⟩, .string ⟨#[206, 187]⟩, .string ⟨#[117, 115, 101, 114]⟩, .string ⟨#[102, 108, 97, 103, 115]⟩]) := hkn
    have HO : Hid (Only g w wr) := ho
    have hll : (l.length : Int) ≤ 4 := by omega
    clear how hkn ho
    by_cases hi0 : 0 < i
    · have hi0' : (0 : Int) < (i : Int) := by omega
      have hi5' : (i : Int) < 5 := by omega
      have cc := H20.out (A + 3 + 110 * (5 - i)) (by omega) wr hs
      go_upto_if 18 with (go_at_call 20; go_must (refine cc.mono ?_; rintro e w2 ⟨ch, rfl, hs2, ho2⟩))
      have HOW2 : Hid (OwnLays w.heap.size w2 (.slice oa l.length oc) l) := OwnLays.only HOW.out ho2 hg
      have HKN2 : Hid (Blk w2 (w.heap.size + 1) 9 #[.string ⟨#[98, 97, 115, 101]⟩, .string ⟨#[115, 105, 116, 101]⟩, .string ⟨#[206, 187]⟩, .string ⟨#[117, 115, 101, 114]⟩, .string ⟨#[102, 108, 97, 103, 115]⟩]) := Blk.only HKN.out ho2 (by omega)
      have HO2 : Hid (Only g w w2) := HO.out.trans ho2
      obtain ⟨nm, hnm, hnc⟩ := texts_blk (n := 5) HKN2.out rfl (by decide) i (by omega)
      clear HOW HKN HO cc ho2 hs
      cases ch
      · have cl := H22.out nm (A + 3 + 110 * (5 - i) + 3) (by omega) w2 hs2
        go_wp2_with (first
          | (go_at_call 22; go_must (refine cl.mono ?_; rintro e w3 ⟨r, nv, es, rfl, hLD, hoe, hs3, ho3⟩; have bA : Below w3.heap.size w3 (w3.alloc (.cells #[.string nm, .int .i64 (r : Int), nv] 30)) := (Below.refl _ w3).alloc (Nat.le_refl _) _; have HOA : Hid (OwnLays w.heap.size (w3.alloc (.cells #[.string nm, .int .i64 (r : Int), nv] 30)) (.slice oa l.length oc) l) := OwnLays.below (OwnLays.only HOW2.out ho3 hg) bA; have HEA : Hid (OwnEntrys w2.heap.size (w3.alloc (.cells #[.string nm, .int .i64 (r : Int), nv] 30)) nv es) := OwnEntrys.below hoe bA; have HKA : Hid (Blk (w3.alloc (.cells #[.string nm, .int .i64 (r : Int), nv] 30)) (w.heap.size + 1) 9 #[.string ⟨#[98, 97, 115, 101]⟩, .string ⟨#[115, 105, 116, 101]⟩, .string ⟨#[206, 187]⟩, .string ⟨#[117, 115, 101, 114]⟩, .string ⟨#[102, 108, 97, 103, 115]⟩]) := (HKN2.out.only ho3 (by omega)).below bA; have hsA := hs3.bel bA; have hoA := (HO2.out.trans ho3).bel bA; have hszA : w.heap.size ≤ (w3.alloc (.cells #[.string nm, .int .i64 (r : Int), nv] 30)).heap.size := hoA.1; have hn1 := lay_one hoe))
          | (at_builtin; go_must (refine wpList_appendLayVs rfl (.tmp 28) (.tmp 35) rfl w.heap.size (.slice oa l.length oc) l rfl HOA.out.row _ [⟨⟨nm, (r : Int), es⟩, nv⟩] rfl (LayVsAt.newAt _ nm (r : Int) es nv _ (by simp)) (by simp <;> omega) hszA (fun x hx => by rw [List.mem_singleton] at hx; subst hx; exact hn1) ?_; intro v9 w9 hown9 hB9 hgr9 hnil9)))
        have hsn := OwnLays.snoc (y := ⟨⟨nm, (r : Int), es⟩, nv⟩) HOA.out HEA.out HO2.out.1 (ents_lt HOW2.out) ⟨⟨hnm, by show (0 : Int) ≤ (r : Int); omega, by have := hLD.1; show (r : Int) ≤ 3; omega, by have := hLD.2.1; show es.length ≤ 22; omega, hLD.2.2⟩, hLD.2.1⟩ hown9 hgr9
        exact ⟨⟨i - 1, l ++ [⟨⟨nm, (r : Int), es⟩, nv⟩], by go_num, hsn, by simp; omega, HKA.out.kept hgr9 (row_blk HOA.out.row HKA.out (by decide)), (hsA.grown hB9 hg hBw).mono (by omega), hoA.grown hB9⟩, by simp [intOf]; omega⟩
      · have cl := H21.out nm (A + 3 + 110 * (5 - i) + 3) (by omega) w2 hs2
        go_wp2_with (first
          | (go_at_call 21; go_must (refine cl.mono ?_; rintro e w3 ⟨r, nv, es, rfl, hLD, hoe, hs3, ho3⟩; have bA : Below w3.heap.size w3 (w3.alloc (.cells #[.string nm, .int .i64 (r : Int), nv] 30)) := (Below.refl _ w3).alloc (Nat.le_refl _) _; have HOA : Hid (OwnLays w.heap.size (w3.alloc (.cells #[.string nm, .int .i64 (r : Int), nv] 30)) (.slice oa l.length oc) l) := OwnLays.below (OwnLays.only HOW2.out ho3 hg) bA; have HEA : Hid (OwnEntrys w2.heap.size (w3.alloc (.cells #[.string nm, .int .i64 (r : Int), nv] 30)) nv es) := OwnEntrys.below hoe bA; have HKA : Hid (Blk (w3.alloc (.cells #[.string nm, .int .i64 (r : Int), nv] 30)) (w.heap.size + 1) 9 #[.string ⟨#[98, 97, 115, 101]⟩, .string ⟨#[115, 105, 116, 101]⟩, .string ⟨#[206, 187]⟩, .string ⟨#[117, 115, 101, 114]⟩, .string ⟨#[102, 108, 97, 103, 115]⟩]) := (HKN2.out.only ho3 (by omega)).below bA; have hsA := hs3.bel bA; have hoA := (HO2.out.trans ho3).bel bA; have hszA : w.heap.size ≤ (w3.alloc (.cells #[.string nm, .int .i64 (r : Int), nv] 30)).heap.size := hoA.1; have hn1 := lay_one hoe))
          | (at_builtin; go_must (refine wpList_appendLayVs rfl (.tmp 19) (.tmp 26) rfl w.heap.size (.slice oa l.length oc) l rfl HOA.out.row _ [⟨⟨nm, (r : Int), es⟩, nv⟩] rfl (LayVsAt.newAt _ nm (r : Int) es nv _ (by simp)) (by simp <;> omega) hszA (fun x hx => by rw [List.mem_singleton] at hx; subst hx; exact hn1) ?_; intro v9 w9 hown9 hB9 hgr9 hnil9)))
        have hsn := OwnLays.snoc (y := ⟨⟨nm, (r : Int), es⟩, nv⟩) HOA.out HEA.out HO2.out.1 (ents_lt HOW2.out) ⟨⟨hnm, by show (0 : Int) ≤ (r : Int); omega, by have := hLD.1; show (r : Int) ≤ 3; omega, by have := hLD.2.1; show es.length ≤ 22; omega, hLD.2.2⟩, hLD.2.1⟩ hown9 hgr9
        exact ⟨⟨i - 1, l ++ [⟨⟨nm, (r : Int), es⟩, nv⟩], by go_num, hsn, by simp; omega, HKA.out.kept hgr9 (row_blk HOA.out.row HKA.out (by decide)), (hsA.grown hB9 hg hBw).mono (by omega), hoA.grown hB9⟩, by simp [intOf]; omega⟩
    · have hi0' : ¬ ((0 : Int) < (i : Int)) := by omega
      by_cases hl0 : 0 < l.length
      case neg =>
        have hl0' : ¬ ((0 : Int) < (l.length : Int)) := by omega
        go_wp2_with fail
        go_ret
        exact ⟨_, rfl, l, ⟨HOW.out.row, fun y hy => ⟨HOW.out.ent y hy, (HOW.out.ok y hy).1⟩⟩, by omega, hs.mono (by omega), HO.out⟩
      have hl0' : (0 : Int) < (l.length : Int) := by omega
      have cx := H19.out l.length (A + 3 + 110 * (5 - i)) (by omega) (by omega) wr hs
      obtain ⟨w4, hw4⟩ : ∃ w4, w4 = wr := ⟨_, rfl⟩
      subst hw4
      go_upto_region 11 with (go_at_call 19; go_must (refine cx.mono ?_; rintro e w5 ⟨b, hb, rfl, hs5, ho5⟩))
      have hbl : b < l.length := by omega
      have HOW5 : Hid (OwnLays w.heap.size w5 (.slice oa l.length oc) l) := OwnLays.only HOW.out ho5 hg
      have HO5 : Hid (Only g w w5) := HO.out.trans ho5
      obtain ⟨_, _, hva, -, hca⟩ := HOW5.out.row.value
      simp only [Value.slice.injEq] at hva
      obtain ⟨rfl, -, rfl⟩ := hva
      obtain ⟨go, rfl, hgoB, hgo, hcell⟩ := hca (by omega)
      obtain ⟨d0, d1, d2⟩ := hcell b hbl
      have hoy := HOW5.out.ent l[b] (List.getElem_mem hbl)
      have hny := HOW5.out.ok l[b] (List.getElem_mem hbl)
      have hap : ∀ j (hj : j < l.length), j ≠ b → l[j].nv.ownBlock = none ∨ l[b].nv.ownBlock = none ∨ l[j].nv.ownBlock ≠ l[b].nv.ownBlock := fun j hj hne => by
        have hpw := List.pairwise_iff_getElem.1 HOW5.out.apart
        rcases Nat.lt_or_gt_of_ne hne with q | q
        · exact hpw j b hj hbl q
        · rcases hpw b j hbl hj q with r | r | r
          · exact .inr (.inl r)
          · exact .inl r
          · exact .inr (.inr (fun e => r e.symm))
      obtain ⟨y, hy⟩ : ∃ y, l[b] = y := ⟨_, rfl⟩
      rw [hy] at d0 d1 d2 hoy hny hap
      obtain ⟨⟨ynm, yr, yes⟩, ynv⟩ := y
      dsimp only at d0 d1 d2 hoy hny hap
      obtain ⟨ya, yc, hyv, -⟩ := hoy.value
      subst hyv
      have bA : Below w5.heap.size w5 (w5.alloc (.cells #[.string ynm, .int .i64 yr, .slice ya yes.length yc] 30)) := (Below.refl _ w5).alloc (Nat.le_refl _) _
      have kY : Blk (w5.alloc (.cells #[.string ynm, .int .i64 yr, .slice ya yes.length yc] 30)) w5.heap.size 30 #[.string ynm, .int .i64 yr, .slice ya yes.length yc] := heap_alloc_last w5 _
      have HOWA : Hid (OwnLays w.heap.size (w5.alloc (.cells #[.string ynm, .int .i64 yr, .slice ya yes.length yc] 30)) (.slice (some ⟨go, 0, none⟩) l.length oc) l) := OwnLays.below HOW5.out bA
      have hoyA := OwnEntrys.below hoy bA
      have hsA := hs5.bel bA
      have hoA := HO5.out.bel bA
      have cz := H19.out 30 (A + 3 + 110 * (5 - i) + 3) (by omega) (by omega) _ hsA
      have HAP : Hid (∀ j (hj : j < l.length), j ≠ b → l[j].nv.ownBlock = none ∨ (Value.slice ya yes.length yc).ownBlock = none ∨ l[j].nv.ownBlock ≠ (Value.slice ya yes.length yc).ownBlock) := hap
      have HNY : Hid (LayN ⟨ynm, yr, yes⟩ ∧ yes.length ≤ 20) := hny
      have hb5w : w.heap.size ≤ w5.heap.size := HO5.out.1
      obtain ⟨b7, hb7⟩ : ∃ b7, w5.heap.size = b7 := ⟨_, rfl⟩
      have hyl : (yes.length : Int) ≤ 20 := by have := hny.2; omega
      clear hcell hy hoy hny hap bA HOW5 hca
      go_upto_block 2 with (go_at_call 19; go_must (refine cz.mono ?_; rintro e w7 ⟨c, hc, rfl, hs7, ho7⟩))
      rw [hb7] at kY hgo
      try rw [hb7]
      have hgb : b7 ≠ g := by have := hs5.lt; omega
      have k7 := kY.only ho7 hgb
      have HOW7 : Hid (OwnLays w.heap.size w7 (.slice (some ⟨go, 0, none⟩) l.length oc) l) := OwnLays.only HOWA.out ho7 hg
      have hoy7 := hoyA.only ho7 hg
      have HIH : Hid (InHand w.heap.size b7 b l (.slice (some ⟨go, 0, none⟩) l.length oc) w7 ⟨⟨ynm, yr, yes⟩, .slice ya yes.length yc⟩) := ⟨k7, HNY.out.1, hoy7, HOW7.out.row, fun j hj _ => HOW7.out.ent _ (List.getElem_mem hj)⟩
      have HO7 : Hid (Only g w w7) := hoA.trans ho7
      have hgob : go ≠ b7 := by omega
      have HS7 : Hid (Src B g a len cap (A + 3 + 110 * (5 - i) + 3 + 3) w0 w7) := hs7
      have hw7 : w.heap.size ≤ w7.heap.size := HO7.out.1
      have hb7w : w.heap.size ≤ b7 := by omega
      clear k7 hoy7 hs7 kY hoyA hsA hoA cz HOWA HOW7 ho7 ho5 hs5 cx
      go_cut [8] from 50 to 98 (fun s8 wx => ∃ y' : LayV, InHand w.heap.size b7 b l (.slice (some ⟨go, 0, none⟩) l.length oc) wx y' ∧ Src B g a len cap (A + 1900) w0 wx ∧ Only g w wx)
      case first =>
        have hcs : c = 0 ∨ c = 1 ∨ c = 2 ∨ c = 3 ∨ 4 ≤ c := by omega
        rcases hcs with rfl | rfl | rfl | rfl | hc4
        · have cp := H23.out (A + 3 + 110 * (5 - i) + 3 + 3) 3 (by omega) (by omega) w7 HS7.out
          go_wp2_with (go_at_call 23; go_must (refine (cp _ rfl (by decide)).mono ?_; rintro e w8 ⟨t, ht, rfl, hs8, ho8⟩; have ho78 : Only g w7 w8 := ((Only.refl g w7).bel ((Below.refl _ w7).alloc (Nat.le_refl _) _)).trans ho8; have ih8 := HIH.out.only ho78 hg hgb; have f0 := ih8.1.fro 0; have r0 := ih8.1.cell 0; simp at r0))
          go_meet
          exact ⟨_, ih8.name hgob t ht, (hs8.set' hgb (by omega) 0 (.string t)).mono (by omega), (HO7.out.trans ho78).set' hb7w 0 (.string t)⟩
        · have bD : ∀ vs : Array Value, Below w7.heap.size w7 (w7.alloc (.cells vs 9)).drew := fun vs => ((Below.refl _ w7).alloc (Nat.le_refl _) _).drew
          have cp := fun (vs : Array Value) (hv : vs.size = 4) hq => drawPick (w := (w7.alloc (.cells vs 9)).drew) w7.heap.size 4 (by omega) (by omega) (by omega) hl (HS7.out.bel (bD vs)) (show Texts (w7.alloc (.cells vs 9)).drew w7.heap.size 4 from texts_new w7 vs 4 hv hq) (show w7.heap.size < (w7.alloc (.cells vs 9)).heap.size by simp) (by have := HS7.out.lt; omega)
          have r2 := HIH.out.1.cell 2
          have r2b := (HIH.out.1.below (bD #[.string ⟨#[97, 46]⟩, .string ⟨#[]⟩, .string ⟨#[97, 46, 98, 46, 99, 46, 100, 46, 101, 46, 102]⟩, .string ⟨#[110, 101, 116]⟩])).cell 2
          simp at r2 r2b
          go_upto_region 16 with fail
          go_region_law (first
            | (refine step_callC rfl 23 _ (by kernel_rfl) (cp #[.string ⟨#[97, 46]⟩, .string ⟨#[]⟩, .string ⟨#[97, 46, 98, 46, 99, 46, 100, 46, 101, 46, 102]⟩, .string ⟨#[110, 101, 116]⟩] rfl (by decide)) ?_; rintro e w8 ⟨t, ht, rfl, hs8, ho8⟩; refine ⟨_, rfl, ?_⟩; have ho78 : Only g w7 w8 := ((Only.refl g w7).bel (bD _)).trans ho8; have ih8 := HIH.out.only ho78 hg hgb; have bX : Below w8.heap.size w8 (w8.alloc (.cells #[.string t, .string ⟨#[]⟩] 35)) := (Below.refl _ w8).alloc (Nat.le_refl _) _; have ihX := ih8.below bX; have hsX := hs8.bel bX; have hoX := (HO7.out.trans ho78).bel bX; have r8 := ih8.1.cell 2; have rX := ihX.1.cell 2; simp at r8 rX)
            | (refine step_appendEntrys rfl (.tmp 59) (.tmp 64) rfl w.heap.size (.slice ya yes.length yc) yes (by simp [Act.eval]) ihX.2.2.1 (.slice (some ⟨w8.heap.size, 0, none⟩) 1 1) [⟨t, ⟨#[]⟩⟩] (by simp [Act.eval]) (EntrysAt.new w8 t ⟨#[]⟩) (by simp; omega) hoX.1 ?_; intro va vn vc w9 hown9 hB9 hgr9 hnil9; have k9 := ihX.1.kept hgr9 (row_blk ihX.2.2.1 ihX.1 (by decide)); have f9 := k9.fro 2; have r9 := k9.cell 2; simp at r9))
          all_goals
            go_wp2_with fail
            go_meet
            exact ⟨_, ihX.more hgob HAP.out hown9 hgr9 HNY.out.2 ⟨short_size ht, Nat.zero_le _⟩, ((hsX.grown hB9 hg hBw).set' hgb (by omega) 2 (.slice va vn vc)).mono (by omega), (hoX.grown hB9).set' hb7w 2 (.slice va vn vc)⟩
        · have r2 := HIH.out.1.cell 2
          simp at r2
          by_cases hy0 : 0 < yes.length
          case neg =>
            have hy0' : ¬ ((0 : Int) < (yes.length : Int)) := by omega
            go_wp2_with fail
            go_meet
            exact ⟨_, HIH.out, HS7.out.mono (by omega), HO7.out⟩
          have hy0' : (0 : Int) < (yes.length : Int) := by omega
          obtain ⟨_, _, hva, -, hca⟩ := HIH.out.2.2.1.value
          simp only [Value.slice.injEq] at hva
          obtain ⟨rfl, -, rfl⟩ := hva
          obtain ⟨ge, rfl, -, hge, hcell⟩ := hca hy0
          have z0 := (hcell 0 hy0).1
          have z1 := (hcell 0 hy0).2
          simp only [Nat.zero_mul, Nat.zero_add] at z0 z1
          have hed := HNY.out.1.2.2.2.2 yes[0] (List.getElem_mem hy0)
          obtain ⟨ep, hep⟩ : ∃ ep, yes[0] = ep := ⟨_, rfl⟩
          try dsimp only at z0 z1
          rw [hep] at z0 z1 hed
          obtain ⟨xp, xt⟩ := ep
          try dsimp only at z0 z1
          have bX : Below w7.heap.size w7 (w7.alloc (.cells #[.string xp, .string xt] 35)).drew := ((Below.refl _ w7).alloc (Nat.le_refl _) _).drew
          have ihX := HIH.out.below bX
          have hsX := HS7.out.bel bX
          have hoX := HO7.out.bel bX
          have rX := ihX.1.cell 2
          simp at rX
          clear hcell hca hep
          go_upto_region 19 with fail
          go_region_law (refine step_appendEntrys rfl (.tmp 74) (.tmp 79) rfl w.heap.size (.slice (some ⟨ge, 0, none⟩) yes.length yc) yes (by simp [Act.eval]) ihX.2.2.1 (.slice (some ⟨w7.heap.size, 0, none⟩) 1 1) [⟨xp, xt⟩] (by simp [Act.eval]) ((EntrysAt.new w7 xp xt).keep (fun b i _ => rfl)) (by simp; omega) hoX.1 ?_; intro va vn vc w9 hown9 hB9 hgr9 hnil9; have k9 := ihX.1.kept hgr9 (row_blk ihX.2.2.1 ihX.1 (by decide)); have f9 := k9.fro 2; have r9 := k9.cell 2; simp at r9)
          all_goals
            go_wp2_with fail
            go_meet
            exact ⟨_, ihX.more hgob HAP.out hown9 hgr9 HNY.out.2 hed, ((hsX.grown hB9 hg hBw).set' hgb (by omega) 2 (.slice va vn vc)).mono (by omega), (hoX.grown hB9).set' hb7w 2 (.slice va vn vc)⟩
        · go_wp2_with fail
          go_loopw [8] (fun i8 wr => ∃ t : ByteArray, i8 = .string t ∧ t.size ≤ 209 ∧ InHand w.heap.size b7 b l (.slice (some ⟨go, 0, none⟩) l.length oc) wr ⟨⟨ynm, yr, yes⟩, .slice ya yes.length yc⟩ ∧ Src B g a len cap (A + 3 + 110 * (5 - i) + 3 + 3 + 3 * t.size) w0 wr ∧ Only g w wr) (fun i8 _ => 209 - sizeT i8)
          case atStart => exact ⟨_, rfl, by decide, HIH.out, HS7.out.mono (by omega), HO7.out⟩
          case round =>
            obtain ⟨t, rfl, htz, hih, hs9, ho9⟩ := hrel
            have cq := H19.out 20 (A + 3 + 110 * (5 - i) + 3 + 3 + 3 * t.size) (by omega) (by omega) wr hs9
            have HI9 : Hid (InHand w.heap.size b7 b l (.slice (some ⟨go, 0, none⟩) l.length oc) wr ⟨⟨ynm, yr, yes⟩, .slice ya yes.length yc⟩) := hih
            have htz' : (t.size : Int) ≤ 209 := by omega
            clear hih hs9
            go_upto_if 89 with (go_at_call 19; go_must (refine cq.mono ?_; rintro e wn ⟨z, hz, rfl, hsn, hon⟩))
            have ihn := HI9.out.only hon hg hgb
            have HIN : Hid (InHand w.heap.size b7 b l (.slice (some ⟨go, 0, none⟩) l.length oc) wn ⟨⟨ynm, yr, yes⟩, .slice ya yes.length yc⟩) := ihn
            have hon2 := ho9.trans hon
            by_cases hlt : t.size < 190 + z
            · have hlt' : decide ((t.size : Int) < 190 + (z : Int)) = true := by rw [decide_eq_true_eq]; omega
              go_wp2_with fail
              have hsx : (t ++ ⟨#[120]⟩ : ByteArray).size = t.size + 1 := by simp [ByteArray.size_append]; rfl
              refine ⟨⟨.string (t ++ ⟨#[120]⟩), _, _, _, _, _, _, _, _, ⟨t ++ ⟨#[120]⟩, rfl, by rw [hsx]; omega, HIN.out, hsn.mono (by rw [hsx]; omega), hon2⟩, rfl⟩, ?_⟩
              show 209 - (t ++ ⟨#[120]⟩ : ByteArray).size < 209 - t.size
              rw [hsx]; omega
            · have hlt' : decide ((t.size : Int) < 190 + (z : Int)) = false := by rw [decide_eq_false_iff_not]; omega
              have r2 := ihn.1.cell 2
              simp at r2
              have bX : Below wn.heap.size wn (wn.alloc (.cells #[.string ⟨#[108, 111, 110, 103]⟩, .string t] 35)) := (Below.refl _ wn).alloc (Nat.le_refl _) _
              have HIX : Hid (InHand w.heap.size b7 b l (.slice (some ⟨go, 0, none⟩) l.length oc) (wn.alloc (.cells #[.string ⟨#[108, 111, 110, 103]⟩, .string t] 35)) ⟨⟨ynm, yr, yes⟩, .slice ya yes.length yc⟩) := ihn.below bX
              have hsX := hsn.bel bX
              have hoX := hon2.bel bX
              clear ihn bX
              go_wp2_with (at_builtin; go_must (refine wpList_appendEntrys rfl (.tmp 93) (.tmp 96) rfl w.heap.size (.slice ya yes.length yc) yes rfl HIX.out.2.2.1 _ [⟨⟨#[108, 111, 110, 103]⟩, t⟩] rfl (EntrysAt.newAt _ ⟨#[108, 111, 110, 103]⟩ t _ (by simp)) (by simp <;> omega) hoX.1 ?_; intro v9 w9 hown9 hB9 hgr9 hnil9; obtain ⟨a9, c9, e9, -⟩ := hown9.value; have hl9 : (yes ++ [(⟨⟨#[108, 111, 110, 103]⟩, t⟩ : Entry)]).length = yes.length + 1 := (by simp); rw [hl9] at e9; subst e9; have k9 := HIX.out.1.kept hgr9 (row_blk HIX.out.2.2.1 HIX.out.1 (by decide)); have f9 := k9.fro 2; have r9 := k9.cell 2; simp at r9))
              go_meet
              exact ⟨_, HIX.out.more hgob HAP.out hown9 hgr9 HNY.out.2 ⟨by dsimp only; decide, by dsimp only; omega⟩, ((hsX.grown hB9 hg hBw).set' hgb (by omega) 2 (.slice a9 (yes.length + 1) c9)).mono (by omega), (hoX.grown hB9).set' hb7w 2 (.slice a9 (yes.length + 1) c9)⟩
        · have n0 : ((c : Int) == 0) = false := by rw [beq_eq_false_iff_ne]; omega
          have n1 : ((c : Int) == 1) = false := by rw [beq_eq_false_iff_ne]; omega
          have n2 : ((c : Int) == 2) = false := by rw [beq_eq_false_iff_ne]; omega
          have n3 : ((c : Int) == 3) = false := by rw [beq_eq_false_iff_ne]; omega
          go_wp2_with fail
          go_meet
          exact ⟨_, HIH.out, HS7.out.mono (by omega), HO7.out⟩
      case rest =>
        obtain ⟨⟨⟨ynm2, yr2, yes2⟩, ynv2⟩, hih, hs9, ho9⟩ := hcut
        obtain ⟨ya2, yc2, hyv2, -⟩ := hih.2.2.1.value
        dsimp only at hyv2
        subst hyv2
        have q0 := hih.1.cell 0
        have q1 := hih.1.cell 1
        have q2 := hih.1.cell 2
        simp at q0 q1 q2
        have hgL : go < wc.heap.size := (World.ownsRow.lt hih.2.2.2.1 go rfl).2
        obtain ⟨_, _, hva, -, hca⟩ := hih.2.2.2.1.value
        simp only [Value.slice.injEq] at hva
        obtain ⟨e1, -, -⟩ := hva
        obtain ⟨g2, e2, -, -, hcell⟩ := hca (by omega)
        rw [← e1] at e2
        simp only [Option.some.injEq, Addr.mk.injEq, and_true] at e2
        subst e2
        obtain ⟨x0, x1, x2⟩ := hcell b hbl
        have f0 : wc.frozen? ⟨go, b * 3, none⟩ = false := lay_fro hih.2.2.2.1 _
        have f1 : wc.frozen? ⟨go, b * 3 + 1, none⟩ = false := lay_fro hih.2.2.2.1 _
        have f2 : wc.frozen? ⟨go, b * 3 + 2, none⟩ = false := lay_fro hih.2.2.2.1 _
        have HIH2 : Hid (InHand w.heap.size b7 b l (.slice (some ⟨go, 0, none⟩) l.length oc) wc ⟨⟨ynm2, yr2, yes2⟩, .slice ya2 yes2.length yc2⟩) := hih
        have hbl' : (b : Int) < (l.length : Int) := by omega
        clear hcell hca hih e1
        go_wp2_with fail
        go_ret
        have hset := OwnLayVs.set HIH2.out.2.2.2.1 b hbl ⟨⟨ynm2, yr2, yes2⟩, .slice ya2 yes2.length yc2⟩
        have g1 := set_grown wc go (b * 3) (.string ynm2)
        have g2 := set_grown (wc.setCell ⟨go, b * 3, none⟩ (.string ynm2)) go (b * 3 + 1) (.int .i64 yr2)
        have g3 := set_grown ((wc.setCell ⟨go, b * 3, none⟩ (.string ynm2)).setCell ⟨go, b * 3 + 1, none⟩ (.int .i64 yr2)) go (b * 3 + 2) (.slice ya2 yes2.length yc2)
        have kp : ∀ (v : Value) (es : List Entry), OwnEntrys w.heap.size wc v es → OwnEntrys w.heap.size (((wc.setCell ⟨go, b * 3, none⟩ (.string ynm2)).setCell ⟨go, b * 3 + 1, none⟩ (.int .i64 yr2)).setCell ⟨go, b * 3 + 2, none⟩ (.slice ya2 yes2.length yc2)) v es := fun v es hv => by
          have hne : v.ownBlock = none ∨ v.ownBlock ≠ some go := rows_apart hv HIH2.out.2.2.2.1 (by decide)
          exact ((hv.kept g1 hne).kept g2 hne).kept g3 hne
        refine ⟨_, l.set b ⟨⟨ynm2, yr2, yes2⟩, .slice ya2 yes2.length yc2⟩, rfl, ⟨hset, fun y hy => ?_⟩, by simp; omega, ?_, ((ho9.set' hgoB _ _).set' hgoB _ _).set' hgoB _ _⟩
        · obtain ⟨j, hj, rfl⟩ := List.getElem_of_mem hy
          have hj' : j < l.length := by simpa using hj
          rw [List.getElem_set]
          by_cases e : b = j
          · rw [if_pos e]
            exact ⟨kp _ _ HIH2.out.2.2.1, HIH2.out.2.1⟩
          · rw [if_neg e]
            exact ⟨kp _ _ (HIH2.out.2.2.2.2 j hj' (fun q => e q.symm)), (HOW.out.ok _ (List.getElem_mem hj')).1⟩
        · have hgg : go ≠ g := by omega
          exact (((hs9.set' hgg (by omega) _ _).set' hgg (by omega) _ _).set' hgg (by omega) _ _).mono (by omega)
end Go.Proofs.YtnlakebhkfbpfaaGreatDoor
