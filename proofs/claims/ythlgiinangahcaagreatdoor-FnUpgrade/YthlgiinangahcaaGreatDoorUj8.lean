/-
  Drawn lists of needs. Rows of releases of one's own. Drawn stores. spec.StoreOf: some store and some wishes, over what spec.l04Code and spec.l04Choose answer. laws.meets. Upgrades and picks, plain: what is reached stays reached with more wishes; a release that is wished for by its own version is reached; each that is reached has a pick of its name that is not below it. laws.at: some number below the one it is asked for. spec.Choose, impl.Choose, laws.samePicks; plain facts on what is chosen. laws.samePicks of picks that are alike. The law on upgrades that keep what was picked: its walk, over what the two Choose and the two Upgrade answer. The law on upgrades: what it leans on, plain, and both sides put in. No statement of the seat is proved here.
-/
import Derived.Test.YthlgiinangahcaaGreatDoorUj7
import Derived.WalkKit
import Derived.ProofKit
import Derived.OpenShut
import Derived.WalkSpells
import Derived.Below
import Derived.BigQuiet
import Derived.BigRegion
import Derived.Laws.MakeOwn
import Derived.Lib.OthersKept
import Derived.Deep.RegionLaw
import Derived.Deep.WholeRow
import Derived.Deep.QuietTactic
import Derived.Deep.Cut
namespace Go.Proofs.YthlgiinangahcaaGreatDoor
open Go.ChangeShapes Go.WideShapes Go.ChangeAt Go.RowKit
set_option linter.unusedVariables false

theorem OwnI.only {B g : Nat} {w w' : World} {v : Value} {l : List Imp} (h : OwnI B w v l) (ho : Only g w w') (hg : g < B) : OwnI B w' v l := by
  obtain ⟨hl, h⟩ := h
  refine ⟨hl, ?_⟩
  rcases h with h | ⟨x, cap, cur, hv, hB, hx, h1, h2, h3, h4⟩
  · exact .inl h
  · refine .inr ⟨x, cap, cur, hv, hB, ?_, h1, h2, h3, h4⟩
    rw [ho.2 x (Array.getElem?_eq_some_iff.1 hx).1 (by omega)]; exact hx
theorem empty_impD (B : Nat) (w : World) (hB : B ≤ w.heap.size) : OwnI B (w.alloc (.cells #[] 38)) (.slice (some ⟨w.heap.size, 0, none⟩) 0 0) [] :=
  ⟨rfl, .inr ⟨w.heap.size, 0, #[], rfl, hB, heap_alloc_last w _, Nat.le_refl _, Nat.zero_le _, rfl, rfl⟩⟩
theorem wpList_appendI1 {ops : Array Oper} {rest : List Oper} {o : Oper} {a : Act} {w : World} {Q : Exit → Act → World → Prop} (hgd : o.guard = none) (s x : Operand)
    (ho : o.op = .call { callee := .builtin .append, args := #[s, x], argTypes := #[24, 24] })
    (B : Nat) (v : Value) (l : List Imp) (hs : a.eval s = v) (hown : OwnI B w v l) (b : Nat) (c : Nat) (m : Imp) (hx : a.eval x = .slice (some ⟨b, 0, none⟩) 1 c)
    (hblk : Blk w b 38 #[.string m.name, .int .i64 m.mn, .int .i64 m.mx])
    (hsz : l.length ≤ 1000000) (hB : B ≤ w.heap.size)
    (h : ∀ v' w', OwnI B w' v' (l ++ [m]) → Below B w w' → w.grownBy w' v.ownBlock → wpList Tryz.prog ops Q rest (a.put o.dst v') w') : wpList Tryz.prog ops Q (o :: rest) a w := by
  obtain ⟨i, hii, hz0, hz1, hz2⟩ := info57
  refine wpList_append_own w hgd s x 24 ho B 38 i zeroImp 3 32 Tryz.underlying24 hii hz0 hz1 hz2 rfl (by decide) v l.length (impCells l) hs hown ⟨b, 0, none⟩ 1 c (impCells [m]) hx (impCells_length [m]) ?_ (fun u hu => impCells_one hu) ?_ ?_ hB ?_
  · intro j u hj
    rw [addr_at, Nat.zero_add, hblk.cell]
    simpa [impCells, Imp.cells] using hj
  · unfold maxLen; omega
  · omega
  · intro v' w' h1 h2 h3
    refine h v' w' ?_ ((Below.refl _ w).grown h2 hB (OwnI.block hown)) h2
    unfold OwnI
    rw [impCells_append, List.length_append]
    exact h1
theorem Src.grown {B g : Nat} {a : Option Addr} {len cap A : Nat} {w0 w w' : World} {C : Nat} (h : Src B g a len cap A w0 w) (hb : Below C w w') (hC : g < C) (hBC : B ≤ C) : Src B g a len cap A w0 w' := by
  obtain ⟨p, sd, h1, h2, h3⟩ := h.blk
  exact ⟨⟨p, sd, by unfold Blk at *; rw [hb.block g hC]; exact h1, h2, h3⟩, h.ge, h.below.trans (hb.mono hBC), h.code⟩
theorem Only.grown {g : Nat} {w w1 w2 : World} (h : Only g w w1) (hb : Below w.heap.size w1 w2) : Only g w w2 :=
  ⟨Nat.le_trans h.1 hb.size, fun k hk hg => (hb.block k hk).trans (h.2 k hk hg)⟩

set_option maxRecDepth 100000 in
set_option maxHeartbeats 2000000 in
theorem drawNeeds {B g : Nat} {a : Option Addr} {len cap A : Nat} {w0 w : World} (nt : ByteArray) (hA : A ≤ 80000) (hl : len ≤ 1048576) (h : Src B g a len cap A w0 w) :
    Calls Tryz.prog 14 #[.pointer (some ⟨g, 0, none⟩), .string nt, .int .i64 4] w fun e w' => ∃ (v : Value) (l : List Imp), e = .returned v ∧ OwnI w.heap.size w' v l ∧ l.length ≤ 4 ∧ (∀ x ∈ l, NeedOK x) ∧ Src B g a len cap (A + 100) w0 w' ∧ Only g w w' := by
  have hgl : g < w.heap.size := by obtain ⟨_, _, hb, _⟩ := h.blk; exact hb.lt
  have hBw : B ≤ w.heap.size := Nat.le_trans h.ge (Nat.le_of_lt hgl)
  have hb0 : Below w.heap.size w (w.alloc (.cells #[] 38)) := (Below.refl _ w).alloc (Nat.le_refl _) _
  have c1 := drawNext (n := 4) (by omega) (by omega) hl (h.bel hb0)
  have c26 := fun (A' : Nat) (hA' : A' ≤ 90000) (W : World) (hs : Src B g a len cap A' w0 W) => drawNeed nt hA' hl hs
  have HC26 : Hid _ := c26
  have hown0 := empty_impD w.heap.size w (Nat.le_refl _)
  have HO0 : Hid (OwnI w.heap.size (w.alloc (.cells #[] 38)) (.slice (some ⟨w.heap.size, 0, none⟩) 0 0) []) := hown0
  clear hown0 c26 h
  go_enter Tryz.func14, Tryz.ntmps14
  go_wp2_with (go_at_call 22; go_must (refine c1.mono ?_; rintro e w1 ⟨b1, hb1, rfl, hs1, ho1⟩))
  have ho01 : Only g w w1 := ((Only.refl g w).bel hb0).trans ho1
  have hown1 := OwnI.only HO0.out ho1 hgl
  have HO1 : Hid (OwnI w.heap.size w1 (.slice (some ⟨w.heap.size, 0, none⟩) 0 0) []) := hown1
  clear hown1 HO0
  go_loopw [7, 8] (fun i7 i8 wr => ∃ (i : Nat) (l : List Imp), i8 = .int .i64 (i : Int) ∧ OwnI w.heap.size wr i7 l ∧ l.length + i ≤ 4 ∧ (∀ x ∈ l, NeedOK x) ∧ Src B g a len cap (A + 3 + 21 * (4 - i)) w0 wr ∧ Only g w wr) (fun _ i8 _ => (intOf i8).toNat)
  case atStart => exact ⟨b1, [], rfl, HO1.out, by simp; omega, by simp, hs1.mono (by omega), ho01⟩
  case round =>
    obtain ⟨i, l, rfl, hown, hli, hall, hs, ho⟩ := hrel
    have HOW : Hid (OwnI w.heap.size wr u7 l) := hown
    have HALL : Hid _ := hall
    obtain ⟨a7, c7, hv7, _⟩ := hown.value
    subst hv7
    have hl4 : (l.length : Int) ≤ 4 := by omega
    clear hown hall
    by_cases hi0 : 0 < i
    · have hi0' : (0 : Int) < (i : Int) := by omega
      have c2 := HC26.out (A + 3 + 21 * (4 - i)) (by omega) wr hs
      go_upto_region 6 with (go_at_call 26; go_must (refine c2.mono ?_; rintro e w2 ⟨⟨nm, mi, ma⟩, hm, rfl, hs2, ho2⟩))
      have hbA : Below w2.heap.size w2 (w2.alloc (.cells #[.string nm, .int .i64 mi, .int .i64 ma] 38)) := (Below.refl _ w2).alloc (Nat.le_refl _) _
      have hblk : Blk (w2.alloc (.cells #[.string nm, .int .i64 mi, .int .i64 ma] 38)) w2.heap.size 38 #[.string nm, .int .i64 mi, .int .i64 ma] := heap_alloc_last w2 _
      have hs3 := hs2.bel hbA
      have ho3 : Only g w (w2.alloc (.cells #[.string nm, .int .i64 mi, .int .i64 ma] 38)) := (ho.trans ho2).bel hbA
      have how3 := (OwnI.only HOW.out ho2 hgl).below hbA
      have hww : w.heap.size ≤ w2.heap.size := (ho.trans ho2).1
      have hsz3 : w2.heap.size < (w2.alloc (.cells #[.string nm, .int .i64 mi, .int .i64 ma] 38)).heap.size := by simp
      generalize (w2.alloc (.cells #[.string nm, .int .i64 mi, .int .i64 ma] 38)) = W3 at hblk hs3 ho3 how3 hsz3 ⊢
      have e0 := hblk.cell 0
      simp at e0
      have HBL : Hid (Blk W3 w2.heap.size 38 #[.string nm, .int .i64 mi, .int .i64 ma]) := hblk
      have HOW3 : Hid (OwnI w.heap.size W3 (.slice a7 l.length c7) l) := how3
      obtain ⟨a7', c7', hv7', hcc⟩ := how3.value
      simp only [Value.slice.injEq] at hv7'
      obtain ⟨rfl, -, rfl⟩ := hv7'
      have HCC : Hid _ := hcc
      have hl4' : l.length ≤ 4 := by omega
      clear hblk how3 hcc c2 hs2 ho2 hbA HOW
      go_wp2_with fail
      go_loopw [10, 11] (fun i10 i11 wr => ∃ (k : Nat) (Fb : Bool), i10 = .bool Fb ∧ i11 = .int .i64 (k : Int) ∧ k ≤ l.length ∧ Below W3.heap.size W3 wr) (fun _ i11 _ => l.length - (intOf i11).toNat)
      case atStart => exact ⟨0, _, rfl, rfl, by omega, Below.refl _ _⟩
      case round =>
        obtain ⟨k, Fb, rfl, rfl, hk, hb4⟩ := hrel
        have f0 := (hb4.cell (p := ⟨w2.heap.size, 0, none⟩) hsz3).trans e0
        by_cases hkn : k < l.length
        · have hkn' : (k : Int) < (l.length : Int) := by omega
          obtain ⟨g7, rfl, _, hg7, hcell⟩ := HCC.out (by omega)
          obtain ⟨x1, _, _⟩ := hcell k hkn
          have d1 := (hb4.cell (p := ⟨g7, k * 3, none⟩) hg7).trans x1
          obtain ⟨zn, hzn⟩ : ∃ zn, l[k].name = zn := ⟨_, rfl⟩
          rw [hzn] at d1
          clear hcell x1 hzn
          cases Fb
          · go_upto_region 10 with fail
            go_quiet (fail)
            go_wp2_with fail
            exact ⟨⟨k + 1, false, rfl, rfl, by omega, bel_drewN hb4 nq⟩, by simp [intOf]; omega⟩
          · cases hcmp : (zn.toList == nm.toList)
            · go_upto_region 10 with fail
              go_quiet (fail)
              go_wp2_with fail
              exact ⟨⟨k + 1, true, rfl, rfl, by omega, bel_drewN hb4 nq⟩, by simp [intOf]; omega⟩
            · go_upto_region 10 with fail
              go_quiet (fail)
              go_wp2_with fail
              exact ⟨⟨k + 1, false, rfl, rfl, by omega, bel_drewN hb4 nq⟩, by simp [intOf]; omega⟩
        · obtain rfl : k = l.length := by omega
          have hkn' : ¬ ((l.length : Int) < (l.length : Int)) := by omega
          have hblk4 := HBL.out.below hb4
          have how4 := HOW3.out.below hb4
          have hs4 := hs3.bel hb4
          have ho4 := ho3.bel hb4
          cases Fb
          · go_wp2_with fail
            exact ⟨⟨i - 1, l, by simp; omega, how4, by omega, HALL.out, hs4.mono (by omega), ho4⟩, by simp [intOf]; omega⟩
          · have m0 := hblk4.cell 0
            have m1 := hblk4.cell 1
            have m2 := hblk4.cell 2
            simp at m0 m1 m2
            have hbN : Below wr.heap.size wr (wr.alloc (.cells #[.string nm, .int .i64 mi, .int .i64 ma] 38)) := (Below.refl _ wr).alloc (Nat.le_refl _) _
            have hblkN : Blk (wr.alloc (.cells #[.string nm, .int .i64 mi, .int .i64 ma] 38)) wr.heap.size 38 #[.string nm, .int .i64 mi, .int .i64 ma] := heap_alloc_last wr _
            have HOW5 : Hid (OwnI w.heap.size (wr.alloc (.cells #[.string nm, .int .i64 mi, .int .i64 ma] 38)) (.slice a7 l.length c7) l) := how4.below hbN
            have HBN : Hid (Blk (wr.alloc (.cells #[.string nm, .int .i64 mi, .int .i64 ma] 38)) wr.heap.size 38 #[.string nm, .int .i64 mi, .int .i64 ma]) := hblkN
            have hsN := hs4.bel hbN
            have hoN := ho4.bel hbN
            have hszN : w.heap.size ≤ (wr.alloc (.cells #[.string nm, .int .i64 mi, .int .i64 ma] 38)).heap.size := hoN.1
            clear hblkN how4
            go_wp2_with (at_builtin; go_must (refine wpList_appendI1 rfl (.tmp 45) (.tmp 47) rfl w.heap.size (.slice a7 l.length c7) l rfl HOW5.out wr.heap.size 1 ⟨nm, mi, ma⟩ rfl HBN.out (by omega) hszN ?_; intro v9 w9 hown9 hB9 hgr9))
            refine ⟨⟨i - 1, l ++ [⟨nm, mi, ma⟩], by simp; omega, hown9, by simp; omega, fun x hx => ?_, (hsN.grown hB9 hgl hBw).mono (by omega), hoN.grown hB9⟩, by simp [intOf]; omega⟩
            rcases List.mem_append.1 hx with q | q
            · exact HALL.out x q
            · simp at q; subst q; exact hm
    · have hi0' : ¬ ((0 : Int) < (i : Int)) := by omega
      go_wp2_with fail
      go_ret
      exact ⟨_, rfl, l, HOW.out, by omega, HALL.out, hs.mono (by omega), ho⟩
end Go.Proofs.YthlgiinangahcaaGreatDoor

namespace Go.Proofs.YthlgiinangahcaaGreatDoor
open Go.ChangeShapes Go.WideShapes Go.ChangeAt Go.RowKit
set_option linter.unusedVariables false

theorem OwnI.imps' {B : Nat} {w : World} {v : Value} {l : List Imp} (h : OwnI B w v l) (hl : l.length ≤ 1000) : ImpsAt (fun b => B ≤ b ∧ b < w.heap.size) w v l := by
  obtain ⟨a, cap, hv, hc⟩ := h.value
  refine ⟨by simp [maxLen]; omega, a, cap, hv, fun h0 => ?_⟩
  obtain ⟨g, rfl, hB, hg, hcell⟩ := hc h0
  exact ⟨g, 0, rfl, ⟨hB, hg⟩, fun i hi => by simpa using hcell i hi⟩
theorem OwnI.nil (B : Nat) (w : World) : OwnI B w (.slice none 0 0) [] := ⟨rfl, .inl ⟨rfl, rfl⟩⟩
/-- A release and the value that its needs are. -/
structure RelV where
  rel : Rel
  nv : Value
def RelV.cells (x : RelV) : List Value := [.string x.rel.name, .int .i64 x.rel.ver, x.nv]
def relCells (l : List RelV) : List Value := l.flatMap RelV.cells
theorem relCells_length (l : List RelV) : (relCells l).length = l.length * 3 := by
  induction l with
  | nil => rfl
  | cons a t ih => simp only [relCells, List.flatMap_cons, List.length_append, List.length_cons] at ih ⊢; rw [ih]; simp [RelV.cells]; omega
theorem relCells_append (l k : List RelV) : relCells (l ++ k) = relCells l ++ relCells k := by simp [relCells]
theorem relCells_get (l : List RelV) (k j : Nat) (hk : k < l.length) (hj : j < 3) : (relCells l)[k * 3 + j]? = l[k].cells[j]? := by
  induction l generalizing k with
  | nil => simp at hk
  | cons a t ih =>
    simp only [relCells, List.flatMap_cons]
    cases k with
    | zero =>
      rw [List.getElem?_append_left (by simp [RelV.cells]; omega)]
      simp
    | succ k =>
      rw [List.getElem?_append_right (by simp [RelV.cells]; omega)]
      have e1 : (k + 1) * 3 + j - (RelV.cells a).length = k * 3 + j := by simp [RelV.cells]; omega
      rw [e1]
      have := ih k (by simpa using hk)
      unfold relCells at this
      simpa using this
theorem relCells_at (l : List RelV) (k : Nat) (hk : k < l.length) : (relCells l)[k * 3]? = some (.string l[k].rel.name) ∧ (relCells l)[k * 3 + 1]? = some (.int .i64 l[k].rel.ver) ∧ (relCells l)[k * 3 + 2]? = some l[k].nv :=
  ⟨by simpa [RelV.cells] using relCells_get l k 0 hk (by omega), by simpa [RelV.cells] using relCells_get l k 1 hk (by omega), by simpa [RelV.cells] using relCells_get l k 2 hk (by omega)⟩
/-- What is drawn of a release. -/
def RelD (r : Rel) : Prop := r.name.size ≤ 30 ∧ r.needs.length ≤ 4 ∧ ∀ m ∈ r.needs, NeedOK m
/-- A row of releases of one's own, its needs rows of one's own, too. -/
structure OwnR (B : Nat) (w : World) (v : Value) (l : List RelV) : Prop where
  row : w.ownsRow B 32 3 v l.length (relCells l)
  needs : ∀ x ∈ l, OwnI B w x.nv x.rel.needs ∧ RelD x.rel
theorem OwnR.below {B : Nat} {w w' : World} {v : Value} {l : List RelV} (h : OwnR B w v l) (hb : Below w.heap.size w w') : OwnR B w' v l := by
  refine ⟨?_, fun x hx => ⟨(h.needs x hx).1.below hb, (h.needs x hx).2⟩⟩
  obtain ⟨hl, h⟩ := h.row
  refine ⟨hl, ?_⟩
  rcases h with h | ⟨g, cap, cur, hv, hB, hg, h1, h2, h3, h4⟩
  · exact .inl h
  · refine .inr ⟨g, cap, cur, hv, hB, ?_, h1, h2, h3, h4⟩
    rw [hb.block g (Array.getElem?_eq_some_iff.1 hg).1]; exact hg
theorem OwnR.only {B g : Nat} {w w' : World} {v : Value} {l : List RelV} (h : OwnR B w v l) (ho : Only g w w') (hg : g < B) : OwnR B w' v l := by
  refine ⟨?_, fun x hx => ⟨(h.needs x hx).1.only ho hg, (h.needs x hx).2⟩⟩
  obtain ⟨hl, h⟩ := h.row
  refine ⟨hl, ?_⟩
  rcases h with h | ⟨x, cap, cur, hv, hB, hx, h1, h2, h3, h4⟩
  · exact .inl h
  · refine .inr ⟨x, cap, cur, hv, hB, ?_, h1, h2, h3, h4⟩
    rw [ho.2 x (Array.getElem?_eq_some_iff.1 hx).1 (by omega)]; exact hx
theorem OwnR.block {B : Nat} {w : World} {v : Value} {l : List RelV} (h : OwnR B w v l) : ∀ k, v.ownBlock = some k → B ≤ k := by
  intro k hk
  rcases h.row.2 with ⟨rfl, _⟩ | ⟨g, cap, cur, rfl, hB, _⟩
  · simp [Value.ownBlock] at hk
  · simp [Value.ownBlock] at hk; omega
theorem OwnR.value {B : Nat} {w : World} {v : Value} {l : List RelV} (h : OwnR B w v l) :
    ∃ a cap, v = .slice a l.length cap ∧ (0 < l.length → ∃ g, a = some ⟨g, 0, none⟩ ∧ B ≤ g ∧ g < w.heap.size ∧ ∀ j (hj : j < l.length), w.cell? ⟨g, j * 3, none⟩ = some (.string l[j].rel.name) ∧ w.cell? ⟨g, j * 3 + 1, none⟩ = some (.int .i64 l[j].rel.ver) ∧ w.cell? ⟨g, j * 3 + 2, none⟩ = some l[j].nv) := by
  rcases h.row.2 with ⟨rfl, h0⟩ | ⟨g, cap, cur, rfl, hB, hg, h1, h2, h3, h4⟩
  · exact ⟨none, 0, by rw [h0], fun h => by omega⟩
  · refine ⟨_, cap, rfl, fun _ => ⟨g, rfl, hB, (Array.getElem?_eq_some_iff.1 hg).1, fun j hj => ?_⟩⟩
    simp only [World.cell?, hg]
    have h5 := relCells_at l j hj
    rw [← h4, List.getElem?_take, List.getElem?_take, List.getElem?_take, if_pos (by omega), if_pos (by omega), if_pos (by omega)] at h5
    simpa using h5
/-- Needs lie in other blocks than the releases. -/
theorem OwnR.apart {B : Nat} {w : World} {v : Value} {l : List RelV} (h : OwnR B w v l) {B' : Nat} {u : Value} {ns : List Imp} (hn : OwnI B' w u ns) : u.ownBlock = none ∨ u.ownBlock ≠ v.ownBlock := by
  rcases hn.2 with ⟨rfl, _⟩ | ⟨g, cap, cur, rfl, hB, hg, _⟩
  · exact .inl rfl
  · refine .inr fun e => ?_
    rcases h.row.2 with ⟨rfl, _⟩ | ⟨g', cap', cur', rfl, hB', hg', _⟩
    · simp [Value.ownBlock] at e
    · simp [Value.ownBlock] at e
      subst e
      rw [hg] at hg'
      simp at hg'
theorem empty_rel (B : Nat) (w : World) (hB : B ≤ w.heap.size) : OwnR B (w.alloc (.cells #[] 32)) (.slice (some ⟨w.heap.size, 0, none⟩) 0 0) [] :=
  ⟨⟨rfl, .inr ⟨w.heap.size, 0, #[], rfl, hB, heap_alloc_last w _, Nat.le_refl _, Nat.zero_le _, rfl, rfl⟩⟩, by simp⟩
def zeroRel : Value := .agg #[.string ⟨#[]⟩, .int .i64 0, .slice none 0 0]
theorem info32 : ∃ i, Tryz.prog.info? 32 = some i ∧ i.zero = some zeroRel ∧ i.size = 3 ∧ i.bytes = 48 := by
  have hi : (Tryz.prog.info? 32).map (fun i => (i.zero, i.size, i.bytes)) = some (some zeroRel, 3, 48) := by kernel_rfl
  cases h : Tryz.prog.info? 32 with
  | none => rw [h] at hi; simp at hi
  | some i =>
    rw [h] at hi
    simp only [Option.map_some, Option.some.injEq, Prod.mk.injEq] at hi
    exact ⟨i, rfl, hi.1, hi.2.1, hi.2.2⟩
theorem OwnI.one {B : Nat} {w : World} {v : Value} {l : List Imp} (h : OwnI B w v l) : v.oneCell' = true := by
  obtain ⟨a, cap, rfl, _⟩ := h.value
  rfl
theorem relCells_one {B : Nat} {w : World} {l : List RelV} (h : ∀ x ∈ l, OwnI B w x.nv x.rel.needs) {u : Value} (hu : u ∈ relCells l) : u.oneCell' = true := by
  obtain ⟨x, hxl, hx⟩ := List.mem_flatMap.1 hu
  simp only [RelV.cells, List.mem_cons, List.mem_nil_iff, or_false] at hx
  rcases hx with rfl | rfl | rfl
  · rfl
  · rfl
  · exact (h x hxl).one
theorem wpList_appendR1 {ops : Array Oper} {rest : List Oper} {o : Oper} {a : Act} {w : World} {Q : Exit → Act → World → Prop} (hgd : o.guard = none) (s x : Operand)
    (ho : o.op = .call { callee := .builtin .append, args := #[s, x], argTypes := #[23, 23] })
    (B : Nat) (v : Value) (l : List RelV) (hs : a.eval s = v) (hown : OwnR B w v l) (b : Nat) (c : Nat) (m : RelV) (hx : a.eval x = .slice (some ⟨b, 0, none⟩) 1 c)
    (hblk : Blk w b 32 #[.string m.rel.name, .int .i64 m.rel.ver, m.nv]) (hm : OwnI B w m.nv m.rel.needs) (hmd : RelD m.rel)
    (hsz : l.length ≤ 1000000) (hB : B ≤ w.heap.size)
    (h : ∀ v' w', OwnR B w' v' (l ++ [m]) → Below B w w' → w.grownBy w' v.ownBlock → wpList Tryz.prog ops Q rest (a.put o.dst v') w') : wpList Tryz.prog ops Q (o :: rest) a w := by
  obtain ⟨i, hii, hz0, hz1, hz2⟩ := info32
  refine wpList_append_own w hgd s x 23 ho B 32 i zeroRel 3 48 Tryz.underlying23 hii hz0 hz1 hz2 rfl (by decide) v l.length (relCells l) hs hown.row ⟨b, 0, none⟩ 1 c (relCells [m]) hx (relCells_length [m]) ?_ (fun u hu => relCells_one (l := [m]) (B := B) (w := w) (by simpa using hm) hu) ?_ ?_ hB ?_
  · intro j u hj
    rw [addr_at, Nat.zero_add, hblk.cell]
    simpa [relCells, RelV.cells] using hj
  · unfold maxLen; omega
  · omega
  · intro v' w' h1 h2 h3
    refine h v' w' ⟨?_, fun y hy => ?_⟩ ((Below.refl _ w).grown h2 hB (OwnR.block hown)) h2
    · rw [relCells_append, List.length_append]
      exact h1
    · rcases List.mem_append.1 hy with q | q
      · exact ⟨(hown.needs y q).1.kept h2 (hown.apart (hown.needs y q).1), (hown.needs y q).2⟩
      · simp at q
        subst q
        exact ⟨hm.kept h2 (hown.apart hm), hmd⟩
/-- The releases, read. -/
theorem OwnR.rels {B : Nat} {w : World} {v : Value} {l : List RelV} (h : OwnR B w v l) (hl : l.length ≤ 1000) : RelsAt (fun b => B ≤ b ∧ b < w.heap.size) w v (l.map RelV.rel) := by
  obtain ⟨a, cap, hv, hc⟩ := h.value
  refine ⟨by simp [maxLen]; omega, a, cap, by rw [List.length_map]; exact hv, fun h0 => ?_⟩
  rw [List.length_map] at h0
  obtain ⟨g, rfl, hB, hg, hcell⟩ := hc h0
  refine ⟨g, 0, rfl, ⟨hB, hg⟩, fun i hi => ?_⟩
  have hi' : i < l.length := by simpa using hi
  obtain ⟨c1, c2, c3⟩ := hcell i hi'
  simp only [Nat.zero_add, List.getElem_map]
  exact ⟨c1, c2, _, c3, (h.needs _ (List.getElem_mem hi')).1.imps' (by have := (h.needs _ (List.getElem_mem hi')).2.2.1; omega)⟩
end Go.Proofs.YthlgiinangahcaaGreatDoor

namespace Go.Proofs.YthlgiinangahcaaGreatDoor
open Go.ChangeShapes Go.WideShapes Go.ChangeAt Go.RowKit
set_option linter.unusedVariables false

theorem OwnI.mono {B B' : Nat} {w : World} {v : Value} {l : List Imp} (h : OwnI B w v l) (hB : B' ≤ B) : OwnI B' w v l := by
  obtain ⟨hl, h⟩ := h
  refine ⟨hl, ?_⟩
  rcases h with h | ⟨g, cap, cur, hv, hB', hg, h1, h2, h3, h4⟩
  · exact .inl h
  · exact .inr ⟨g, cap, cur, hv, by omega, hg, h1, h2, h3, h4⟩
theorem OwnI.set' {B : Nat} {w : World} {v : Value} {l : List Imp} (h : OwnI B w v l) {x : Nat} (hx : x < B) (i : Nat) (u : Value) : OwnI B (w.setCell ⟨x, i, none⟩ u) v l :=
  h.only ((Only.refl x w).set i u) hx
set_option maxRecDepth 100000 in
set_option maxHeartbeats 4000000 in
theorem drawStore {B g : Nat} {a : Option Addr} {len cap A : Nat} {w0 w : World} (hA : A ≤ 70000) (hl : len ≤ 1048576) (h : Src B g a len cap A w0 w) :
    Calls Tryz.prog 13 #[.pointer (some ⟨g, 0, none⟩)] w fun e w' => ∃ (v : Value) (l : List RelV), e = .returned v ∧ OwnR w.heap.size w' v l ∧ 0 < l.length ∧ l.length ≤ 40 ∧ Src B g a len cap (A + 3000) w0 w' ∧ Only g w w' := by
  have hgl : g < w.heap.size := by obtain ⟨_, _, hb, _⟩ := h.blk; exact hb.lt
  have hBw : B ≤ w.heap.size := Nat.le_trans h.ge (Nat.le_of_lt hgl)
  have hb0 : Below w.heap.size w (w.alloc (.cells #[] 32)) := (Below.refl _ w).alloc (Nat.le_refl _) _
  have hs0 := h.bel hb0
  have c23 := drawSize (n := 16) (by omega) hl hs0
  have c22 := fun (n A' : Nat) (hn : n ≤ 100) (hA' : A' ≤ 100000) (W : World) (hs : Src B g a len cap A' w0 W) => drawNext (n := n) (by omega) hA' hl hs
  have c24 := fun (A' : Nat) (hA' : A' ≤ 100000) (W : World) (hs : Src B g a len cap A' w0 W) (hg : g < W.heap.size) => drawPick W.heap.size 6 (by omega) (by omega) hA' hl (hs.bel ((Below.refl _ W).alloc (Nat.le_refl _) _)) (six_new W) (by simp only [World.size_alloc]; omega) (by omega)
  have c14 := fun (nt : ByteArray) (A' : Nat) (hA' : A' ≤ 80000) (W : World) (hs : Src B g a len cap A' w0 W) => drawNeeds nt hA' hl hs
  have c25 := fun (A' : Nat) (hA' : A' ≤ 100000) (W : World) (hs : Src B g a len cap A' w0 W) => drawChance (n := 3) (by omega) hA' hl hs
  have HC22 : Hid _ := c22
  have HC24 : Hid _ := c24
  have HC14 : Hid _ := c14
  have HC25 : Hid _ := c25
  have hown0 := empty_rel w.heap.size w (Nat.le_refl _)
  have HO0 : Hid (OwnR w.heap.size (w.alloc (.cells #[] 32)) (.slice (some ⟨w.heap.size, 0, none⟩) 0 0) []) := hown0
  clear hown0 c22 c24 c14 c25 h
  go_enter Tryz.func13, Tryz.ntmps13
  go_upto_block 0 with (first
    | (go_at_call 23; go_must (refine c23.mono ?_; rintro e w1 ⟨b1, hb1, rfl, rfl⟩; have c1 := HC22.out (b1 + 6) A (by omega) (by omega) _ hs0))
    | (go_at_call 22; go_must (refine c1.mono ?_; rintro e w2 ⟨b2, hb2, rfl, hs2, ho2⟩)))
  have ho02 : Only g w w2 := ((Only.refl g w).bel hb0).trans ho2
  have hown2 := OwnR.only HO0.out ho2 hgl
  have HO2 : Hid (OwnR w.heap.size w2 (.slice (some ⟨w.heap.size, 0, none⟩) 0 0) []) := hown2
  have hb2' : b2 ≤ 21 := by omega
  clear hown2 HO0 c1 c23 hs0 hb0 ho2
  go_cut [3] from 16 to 64 (fun s3 wx => ∃ l : List RelV, OwnR w.heap.size wx s3 l ∧ 0 < l.length ∧ l.length ≤ 23 ∧ Src B g a len cap (A + 2500) w0 wx ∧ Only g w wx)
  case first =>
    go_wp2_with fail
    go_loopw [3, 4] (fun i3 i4 wr => ∃ (i : Nat) (l : List RelV), i4 = .int .i64 (i : Int) ∧ OwnR w.heap.size wr i3 l ∧ l.length + i ≤ 23 ∧ (l.length = 0 → 0 < i) ∧ Src B g a len cap (A + 3 + 106 * (23 - i)) w0 wr ∧ Only g w wr) (fun _ i4 _ => (intOf i4).toNat)
    case atStart => exact ⟨2 + b2, [], by simp, HO2.out, by simp; omega, by omega, hs2.mono (by omega), ho02⟩
    case round =>
      obtain ⟨i, l, rfl, hown, hli, hne, hs, ho⟩ := hrel
      have HOW : Hid (OwnR w.heap.size wr u3 l) := hown
      obtain ⟨a3, c3, hv3, _⟩ := hown.value
      subst hv3
      have hl4 : (l.length : Int) ≤ 23 := by omega
      clear hown
      by_cases hi0 : 0 < i
      · have hi0' : (0 : Int) < (i : Int) := by omega
        have hgw : g < wr.heap.size := Nat.lt_of_lt_of_le hgl ho.1
        have cp := HC24.out (A + 3 + 106 * (23 - i)) (by omega) wr hs hgw
        have hoS : Only g wr (wr.alloc (.cells #[.string ⟨#[97]⟩, .string ⟨#[98]⟩, .string ⟨#[99]⟩, .string ⟨#[206, 187]⟩, .string ⟨#[105, 111]⟩, .string ⟨#[110, 101, 116]⟩] 9)) := (Only.refl g wr).bel ((Below.refl _ wr).alloc (Nat.le_refl _) _)
        go_upto_region 6 with (first
          | (go_at_call 24; go_must (refine cp.mono ?_; rintro e w3 ⟨t, ht, rfl, hs3, ho3⟩; have cq := HC22.out 7 (A + 3 + 106 * (23 - i) + 3) (by omega) (by omega) w3 hs3))
          | (go_at_call 22; go_must (refine cq.mono ?_; rintro e w4 ⟨b4, hb4, rfl, hs4, ho4⟩)))
        have ho34 : Only g wr w4 := (hoS.trans ho3).trans ho4
        have how4 := OwnR.only HOW.out ho34 hgl
        have HOW4 : Hid (OwnR w.heap.size w4 (.slice a3 l.length c3) l) := how4
        have hbA : Below w4.heap.size w4 (w4.alloc (.cells #[.string t, .int .i64 (1 + (b4 : Int)), .slice none 0 0] 32)) := (Below.refl _ w4).alloc (Nat.le_refl _) _
        have hblk5 : Blk (w4.alloc (.cells #[.string t, .int .i64 (1 + (b4 : Int)), .slice none 0 0] 32)) w4.heap.size 32 #[.string t, .int .i64 (1 + (b4 : Int)), .slice none 0 0] := heap_alloc_last w4 _
        have hs5 := hs4.bel hbA
        have hoA : Only g w4 (w4.alloc (.cells #[.string t, .int .i64 (1 + (b4 : Int)), .slice none 0 0] 32)) := (Only.refl g w4).bel hbA
        have hsz5 : w4.heap.size < (w4.alloc (.cells #[.string t, .int .i64 (1 + (b4 : Int)), .slice none 0 0] 32)).heap.size := by simp
        have hw4 : w.heap.size ≤ w4.heap.size := (ho.trans ho34).1
        have hg4 : w4.heap.size ≠ g := by omega
        clear how4 hbA cp cq hoS ho3 ho4 hs3 hs4 HOW hs
        generalize (w4.alloc (.cells #[.string t, .int .i64 (1 + (b4 : Int)), .slice none 0 0] 32)) = W5 at hblk5 hs5 hoA hsz5 ⊢
        have e0 := hblk5.cell 0
        simp at e0
        have cn := HC14.out t (A + 3 + 106 * (23 - i) + 3 + 3) (by omega) W5 hs5
        have HB5 : Hid (Blk W5 w4.heap.size 32 #[.string t, .int .i64 (1 + (b4 : Int)), .slice none 0 0]) := hblk5
        clear hblk5
        go_upto_region 7 with (go_at_call 14; go_must (refine cn.mono ?_; rintro e w6 ⟨nv, ns, rfl, hni, hnl, hnok, hs6, ho6⟩; have hb6 := Blk.only HB5.out ho6 hg4; have q2 := hb6.cell 2; simp at q2; have qf := hb6.fro 2; have HNI : Hid (OwnI W5.heap.size w6 nv ns) := hni; have HB6 : Hid (Blk w6 w4.heap.size 32 #[.string t, .int .i64 (1 + (b4 : Int)), .slice none 0 0]) := hb6; obtain ⟨nva, nvc, hnv, _⟩ := hni.value; subst hnv; clear hni hb6))
        have hblk7 : Blk (w6.setCell ⟨w4.heap.size, 2, none⟩ (.slice nva ns.length nvc)) w4.heap.size 32 #[.string t, .int .i64 (1 + (b4 : Int)), .slice nva ns.length nvc] := HB6.out.set 2 _
        have ho47 : Only g w4 (w6.setCell ⟨w4.heap.size, 2, none⟩ (.slice nva ns.length nvc)) := (hoA.trans ho6).set' (Nat.le_refl _) _ _
        have how7 := OwnR.only HOW4.out ho47 hgl
        have hni7 := (OwnI.set' HNI.out hsz5 2 (.slice nva ns.length nvc)).mono (Nat.le_trans hw4 (Nat.le_of_lt hsz5))
        have hs7 := hs6.set' hg4 (Nat.le_trans hBw hw4) 2 (.slice nva ns.length nvc)
        have ho7 : Only g w (w6.setCell ⟨w4.heap.size, 2, none⟩ (.slice nva ns.length nvc)) := (ho.trans ho34).trans ho47
        clear ho47 hs6 HB6 HNI HOW4 hoA ho6 cn q2 qf e0 HB5 hs5
        generalize (w6.setCell ⟨w4.heap.size, 2, none⟩ (.slice nva ns.length nvc)) = W7 at hblk7 how7 hni7 hs7 ho7 ⊢
        have HB7 : Hid (Blk W7 w4.heap.size 32 #[.string t, .int .i64 (1 + (b4 : Int)), .slice nva ns.length nvc]) := hblk7
        have HOW7 : Hid (OwnR w.heap.size W7 (.slice a3 l.length c3) l) := how7
        have HNI7 : Hid (OwnI w.heap.size W7 (.slice nva ns.length nvc) ns) := hni7
        have e0 := hblk7.cell 0
        have e1 := hblk7.cell 1
        simp at e0 e1
        have hlt7 := hblk7.lt
        obtain ⟨a3', c3', hv3', hcc⟩ := how7.value
        simp only [Value.slice.injEq] at hv3'
        obtain ⟨rfl, -, rfl⟩ := hv3'
        have HCC : Hid _ := hcc
        clear hblk7 how7 hni7 hcc
        go_wp2_with fail
        go_loopw [6, 7] (fun i6 i7 wr => ∃ (k : Nat) (Fb : Bool), i6 = .bool Fb ∧ i7 = .int .i64 (k : Int) ∧ k ≤ l.length ∧ (k = 0 → Fb = true) ∧ Below W7.heap.size W7 wr) (fun _ i7 _ => l.length - (intOf i7).toNat)
        case atStart => exact ⟨0, true, rfl, rfl, by omega, fun _ => rfl, Below.refl _ _⟩
        case round =>
          obtain ⟨k, Fb, rfl, rfl, hk, hFb, hb8⟩ := hrel
          have f0 := (hb8.cell (p := ⟨w4.heap.size, 0, none⟩) hlt7).trans e0
          have f1 := (hb8.cell (p := ⟨w4.heap.size, 1, none⟩) hlt7).trans e1
          by_cases hkn : k < l.length
          · have hkn' : (k : Int) < (l.length : Int) := by omega
            obtain ⟨g7, rfl, _, hg7, hcell⟩ := HCC.out (by omega)
            obtain ⟨x1, x2, _⟩ := hcell k hkn
            have d1 := (hb8.cell (p := ⟨g7, k * 3, none⟩) hg7).trans x1
            have d2 := (hb8.cell (p := ⟨g7, k * 3 + 1, none⟩) hg7).trans x2
            obtain ⟨zn, hzn⟩ : ∃ zn, l[k].rel.name = zn := ⟨_, rfl⟩
            obtain ⟨zv, hzv⟩ : ∃ zv, l[k].rel.ver = zv := ⟨_, rfl⟩
            rw [hzn] at d1
            rw [hzv] at d2
            clear hcell x1 x2 hzn hzv hFb
            cases Fb
            · go_upto_region 11 with fail
              go_quiet (fail)
              go_wp2_with fail
              exact ⟨⟨k + 1, false, rfl, rfl, by omega, fun h => by omega, bel_drewN hb8 nq⟩, by simp [intOf]; omega⟩
            · cases hcmp : (zn.toList == t.toList)
              · go_upto_region 11 with fail
                go_quiet (fail)
                go_wp2_with fail
                exact ⟨⟨k + 1, true, rfl, rfl, by omega, fun h => by omega, bel_drewN hb8 nq⟩, by simp [intOf]; omega⟩
              · cases hcv : (zv == 1 + (b4 : Int))
                · go_upto_region 11 with fail
                  go_quiet (fail)
                  go_wp2_with fail
                  exact ⟨⟨k + 1, true, rfl, rfl, by omega, fun h => by omega, bel_drewN hb8 nq⟩, by simp [intOf]; omega⟩
                · go_upto_region 11 with fail
                  go_quiet (fail)
                  go_wp2_with fail
                  exact ⟨⟨k + 1, false, rfl, rfl, by omega, fun h => by omega, bel_drewN hb8 nq⟩, by simp [intOf]; omega⟩
          · obtain rfl : k = l.length := by omega
            have hkn' : ¬ ((l.length : Int) < (l.length : Int)) := by omega
            have hblk9 := HB7.out.below hb8
            have how9 := OwnR.below HOW7.out hb8
            have hni9 := OwnI.below HNI7.out hb8
            have hs9 := hs7.bel hb8
            have ho9 := ho7.bel hb8
            cases Fb
            · have hlne : l.length ≠ 0 := fun e => by have := hFb e; cases this
              clear hFb
              go_wp2_with fail
              exact ⟨⟨i - 1, l, by simp; omega, how9, by omega, fun e => absurd e hlne, hs9.mono (by omega), ho9⟩, by simp [intOf]; omega⟩
            · clear hFb
              have m0 := hblk9.cell 0
              have m1 := hblk9.cell 1
              have m2 := hblk9.cell 2
              simp at m0 m1 m2
              have hbN : Below wr.heap.size wr (wr.alloc (.cells #[.string t, .int .i64 (1 + (b4 : Int)), .slice nva ns.length nvc] 32)) := (Below.refl _ wr).alloc (Nat.le_refl _) _
              have hblkN : Blk (wr.alloc (.cells #[.string t, .int .i64 (1 + (b4 : Int)), .slice nva ns.length nvc] 32)) wr.heap.size 32 #[.string t, .int .i64 (1 + (b4 : Int)), .slice nva ns.length nvc] := heap_alloc_last wr _
              have HOW5 : Hid (OwnR w.heap.size (wr.alloc (.cells #[.string t, .int .i64 (1 + (b4 : Int)), .slice nva ns.length nvc] 32)) (.slice a3 l.length c3) l) := how9.below hbN
              have HNI5 : Hid (OwnI w.heap.size (wr.alloc (.cells #[.string t, .int .i64 (1 + (b4 : Int)), .slice nva ns.length nvc] 32)) (.slice nva ns.length nvc) ns) := hni9.below hbN
              have HBN : Hid (Blk (wr.alloc (.cells #[.string t, .int .i64 (1 + (b4 : Int)), .slice nva ns.length nvc] 32)) wr.heap.size 32 #[.string t, .int .i64 (1 + (b4 : Int)), .slice nva ns.length nvc]) := hblkN
              have hsN := hs9.bel hbN
              have hoN := ho9.bel hbN
              have hszN : w.heap.size ≤ (wr.alloc (.cells #[.string t, .int .i64 (1 + (b4 : Int)), .slice nva ns.length nvc] 32)).heap.size := hoN.1
              clear hblkN how9 hni9
              go_wp2_with (at_builtin; go_must (refine wpList_appendR1 rfl (.tmp 61) (.tmp 63) rfl w.heap.size (.slice a3 l.length c3) l rfl HOW5.out wr.heap.size 1 ⟨⟨t, 1 + (b4 : Int), ns⟩, .slice nva ns.length nvc⟩ rfl HBN.out HNI5.out ⟨ht, hnl, hnok⟩ (by omega) hszN ?_; intro v9 w9 hown9 hB9 hgr9))
              exact ⟨⟨i - 1, l ++ [⟨⟨t, 1 + (b4 : Int), ns⟩, .slice nva ns.length nvc⟩], by simp; omega, hown9, by simp; omega, fun e => by simp at e, (hsN.grown hB9 hgl hBw).mono (by omega), hoN.grown hB9⟩, by simp [intOf]; omega⟩
      · have hi0' : ¬ ((0 : Int) < (i : Int)) := by omega
        have hlp : 0 < l.length := by
          rcases Nat.eq_zero_or_pos l.length with e | e
          · have := hne e; omega
          · exact e
        clear hne
        go_wp2_with fail
        go_meet
        exact ⟨l, HOW.out, hlp, by omega, hs.mono (by omega), ho⟩
  case rest =>
    obtain ⟨l0, hown3, hl0, hl23, hs3, ho3⟩ := hcut
    have HO3 : Hid (OwnR w.heap.size wc u3 l0) := hown3
    obtain ⟨a3, c3, hv3, _⟩ := hown3.value
    subst hv3
    clear hown3 HO2 hs2 ho02
    obtain ⟨w3, hw3⟩ : ∃ w3, w3 = wc := ⟨_, rfl⟩
    subst hw3
    have cc := HC25.out (A + 2500) (by omega) w3 hs3
    go_upto_if 67 with (go_at_call 25; go_must (refine cc.mono ?_; rintro e w4 ⟨b4, rfl, hs4, ho4⟩))
    have how4 := OwnR.only HO3.out ho4 hgl
    have HO4 : Hid (OwnR w.heap.size w4 (.slice a3 l0.length c3) l0) := how4
    have ho5 : Only g w w4 := ho3.trans ho4
    clear how4 cc HC22 HC24 HC14 HC25 hs3 ho3 HO3
    cases b4
    · simp only [Bool.not_false]
      go_wp2_with fail
      go_loopw [3, 8] (fun i3 i8 wr => ∃ (k : Nat) (l : List RelV), i8 = .int .i64 (k : Int) ∧ k ≤ 6 ∧ OwnR w.heap.size wr i3 l ∧ 0 < l.length ∧ l.length ≤ 23 + k ∧ Src B g a len cap (A + 2500 + 3) w0 wr ∧ Only g w wr) (fun _ i8 _ => 6 - (intOf i8).toNat)
      case atStart => exact ⟨0, l0, rfl, by omega, HO4.out, hl0, by omega, hs4, ho5⟩
      case round =>
        obtain ⟨k, l, rfl, hk, hown, hlp, hlk, hs, ho⟩ := hrel
        have HOW : Hid (OwnR w.heap.size wr u3 l) := hown
        obtain ⟨a5, c5, hv5, _⟩ := hown.value
        subst hv5
        clear hown
        by_cases hk6 : k < 6
        · have hk6' : (k : Int) < 6 := by omega
          obtain ⟨t, ht, htc⟩ := six_new wr k hk6
          have hbS : Below wr.heap.size wr (wr.alloc (.cells #[.string ⟨#[97]⟩, .string ⟨#[98]⟩, .string ⟨#[99]⟩, .string ⟨#[206, 187]⟩, .string ⟨#[105, 111]⟩, .string ⟨#[110, 101, 116]⟩] 9)) := (Below.refl _ wr).alloc (Nat.le_refl _) _
          have hbN : Below (wr.alloc (.cells #[.string ⟨#[97]⟩, .string ⟨#[98]⟩, .string ⟨#[99]⟩, .string ⟨#[206, 187]⟩, .string ⟨#[105, 111]⟩, .string ⟨#[110, 101, 116]⟩] 9)).heap.size (wr.alloc (.cells #[.string ⟨#[97]⟩, .string ⟨#[98]⟩, .string ⟨#[99]⟩, .string ⟨#[206, 187]⟩, .string ⟨#[105, 111]⟩, .string ⟨#[110, 101, 116]⟩] 9)) ((wr.alloc (.cells #[.string ⟨#[97]⟩, .string ⟨#[98]⟩, .string ⟨#[99]⟩, .string ⟨#[206, 187]⟩, .string ⟨#[105, 111]⟩, .string ⟨#[110, 101, 116]⟩] 9)).alloc (.cells #[.string t, .int .i64 (8 + (k : Int)), .slice none 0 0] 32)) := (Below.refl _ _).alloc (Nat.le_refl _) _
          have hblkN : Blk ((wr.alloc (.cells #[.string ⟨#[97]⟩, .string ⟨#[98]⟩, .string ⟨#[99]⟩, .string ⟨#[206, 187]⟩, .string ⟨#[105, 111]⟩, .string ⟨#[110, 101, 116]⟩] 9)).alloc (.cells #[.string t, .int .i64 (8 + (k : Int)), .slice none 0 0] 32)) (wr.heap.size + 1) 32 #[.string t, .int .i64 (8 + (k : Int)), .slice none 0 0] := by
            have := heap_alloc_last (wr.alloc (.cells #[.string ⟨#[97]⟩, .string ⟨#[98]⟩, .string ⟨#[99]⟩, .string ⟨#[206, 187]⟩, .string ⟨#[105, 111]⟩, .string ⟨#[110, 101, 116]⟩] 9)) (.cells #[.string t, .int .i64 (8 + (k : Int)), .slice none 0 0] 32)
            rwa [World.size_alloc] at this
          have HBN : Hid (Blk ((wr.alloc (.cells #[.string ⟨#[97]⟩, .string ⟨#[98]⟩, .string ⟨#[99]⟩, .string ⟨#[206, 187]⟩, .string ⟨#[105, 111]⟩, .string ⟨#[110, 101, 116]⟩] 9)).alloc (.cells #[.string t, .int .i64 (8 + (k : Int)), .slice none 0 0] 32)) (wr.heap.size + 1) 32 #[.string t, .int .i64 (8 + (k : Int)), .slice none 0 0]) := hblkN
          have HOW5 : Hid (OwnR w.heap.size ((wr.alloc (.cells #[.string ⟨#[97]⟩, .string ⟨#[98]⟩, .string ⟨#[99]⟩, .string ⟨#[206, 187]⟩, .string ⟨#[105, 111]⟩, .string ⟨#[110, 101, 116]⟩] 9)).alloc (.cells #[.string t, .int .i64 (8 + (k : Int)), .slice none 0 0] 32)) (.slice a5 l.length c5) l) := (HOW.out.below hbS).below hbN
          have hsN := (hs.bel hbS).bel hbN
          have hoN := (ho.bel hbS).bel hbN
          have hszN : w.heap.size ≤ ((wr.alloc (.cells #[.string ⟨#[97]⟩, .string ⟨#[98]⟩, .string ⟨#[99]⟩, .string ⟨#[206, 187]⟩, .string ⟨#[105, 111]⟩, .string ⟨#[110, 101, 116]⟩] 9)).alloc (.cells #[.string t, .int .i64 (8 + (k : Int)), .slice none 0 0] 32)).heap.size := hoN.1
          clear hblkN
          go_wp2_with (at_builtin; go_must (refine wpList_appendR1 rfl (.tmp 72) (.tmp 80) rfl w.heap.size (.slice a5 l.length c5) l rfl HOW5.out (wr.heap.size + 1) 1 ⟨⟨t, 8 + (k : Int), []⟩, .slice none 0 0⟩ rfl HBN.out (OwnI.nil _ _) ⟨ht, by simp, by simp⟩ (by omega) hszN ?_; intro v9 w9 hown9 hB9 hgr9))
          exact ⟨⟨k + 1, l ++ [⟨⟨t, 8 + (k : Int), []⟩, .slice none 0 0⟩], rfl, by omega, hown9, by simp, by simp; omega, hsN.grown hB9 hgl hBw, hoN.grown hB9⟩, by simp [intOf]; omega⟩
        · have hk6' : ¬ ((k : Int) < 6) := by omega
          go_wp2_with fail
          go_ret
          first
            | exact ⟨_, rfl, l, HOW.out, hlp, by omega, hs.mono (by omega), ho⟩
            | exact ⟨_, l, rfl, HOW.out, hlp, by omega, hs.mono (by omega), ho⟩
    · go_wp2_with fail
      go_ret
      first
        | exact ⟨_, rfl, l0, HO4.out, hl0, by omega, hs4.mono (by omega), ho5⟩
        | exact ⟨_, l0, rfl, HO4.out, hl0, by omega, hs4.mono (by omega), ho5⟩
end Go.Proofs.YthlgiinangahcaaGreatDoor

namespace Go.Proofs.YthlgiinangahcaaGreatDoor
open Go.ChangeShapes Go.WideShapes Go.ChangeAt Go.RowKit
set_option linter.unusedVariables false

theorem OwnR.mono {B B' : Nat} {w : World} {v : Value} {l : List RelV} (h : OwnR B w v l) (hB : B' ≤ B) : OwnR B' w v l := by
  refine ⟨?_, fun x hx => ⟨(h.needs x hx).1.mono hB, (h.needs x hx).2⟩⟩
  obtain ⟨hl, h⟩ := h.row
  refine ⟨hl, ?_⟩
  rcases h with h | ⟨g, cap, cur, hv, hB', hg, h1, h2, h3, h4⟩
  · exact .inl h
  · exact .inr ⟨g, cap, cur, hv, by omega, hg, h1, h2, h3, h4⟩
set_option maxRecDepth 100000 in
theorem drawSource (a : Option Addr) (len cap : Nat) (w : World) (hl : len ≤ 1048576) (hc : ∀ i, i < len → ∃ cb co, a = some ⟨cb, co, none⟩ ∧ cb < w.heap.size ∧ ∃ b : Nat, b < 256 ∧ w.cell? ⟨cb, co + i, none⟩ = some (.int .u8 b)) :
    Calls Tryz.prog 12 #[.slice a len cap] w fun e w' => e = .returned (.pointer (some ⟨w.heap.size, 0, none⟩)) ∧ Src w.heap.size w.heap.size a len cap 0 w w' ∧ w'.heap.size = w.heap.size + 1 := by
  have HC : Hid _ := hc
  have hl' : (len : Int) ≤ 1048576 := by omega
  clear hc
  go_enter Tryz.func12, Tryz.ntmps12
  go_wp2_with fail
  go_ret
  refine ⟨rfl, ⟨⟨0, len % 1000, ?_, Nat.le_refl _, by omega⟩, Nat.le_refl _, (Below.refl _ w).alloc (Nat.le_refl _) _, HC.out⟩, by simp⟩
  have hq : ((len % 1000 : Nat) : Int) = (len : Int) % 1000 := by omega
  have := heap_alloc_last w (.cells #[.slice a len cap, .int .i64 0, .int .i64 ((len : Int) % 1000)] 61)
  rw [hq]
  exact this
/-- What spec.l04Code answers, whatever it is. -/
def CodeC (C : List Rel → List Imp → Int) : Prop := ∀ (S : Nat → Prop) (l : List Rel) (ws : List Imp) (v u : Value) (w : World), (∀ b, S b → b < w.heap.size) → RelsAt S w v l → ImpsAt S w u ws → Calls Tryz.prog 15 #[v, u] w fun e w' => e = .returned (.int .i64 (C l ws)) ∧ Below w.heap.size w w'
/-- What spec.l04Choose answers where the code is 0: some numbers, a code, some names. -/
def ChoiceD (C : List Rel → List Imp → Int) (D : List Rel → List Imp → Int) : Prop := ∀ (S : Nat → Prop) (l : List Rel) (ws : List Imp) (v u : Value) (w : World), (∀ b, S b → b < w.heap.size) → RelsAt S w v l → ImpsAt S w u ws → C l ws = 0 → Calls Tryz.prog 16 #[v, u] w fun e w' => (∃ p q, e = .returned (.tuple #[p, .int .i64 (D l ws), q])) ∧ Below w.heap.size w w'
/-- What is drawn: a store and wishes of one's own. -/
def Drawn (B : Nat) (w : World) (v u : Value) (l : List RelV) (ws : List Imp) : Prop := OwnR B w v l ∧ 0 < l.length ∧ l.length ≤ 40 ∧ OwnI B w u ws ∧ ws.length ≤ 4 ∧ ∀ x ∈ ws, NeedOK x
theorem Drawn.below {B : Nat} {w w' : World} {v u : Value} {l : List RelV} {ws : List Imp} (h : Drawn B w v u l ws) (hb : Below w.heap.size w w') : Drawn B w' v u l ws :=
  ⟨h.1.below hb, h.2.1, h.2.2.1, h.2.2.2.1.below hb, h.2.2.2.2⟩
theorem Drawn.both {B : Nat} {w : World} {v u : Value} {l : List RelV} {ws : List Imp} (h : Drawn B w v u l ws) : RelsAt (fun b => B ≤ b ∧ b < w.heap.size) w v (l.map RelV.rel) ∧ ImpsAt (fun b => B ≤ b ∧ b < w.heap.size) w u ws :=
  ⟨h.1.rels (by have := h.2.2.1; omega), h.2.2.2.1.imps' (by have := h.2.2.2.2.1; omega)⟩

set_option maxRecDepth 100000 in
set_option maxHeartbeats 4000000 in
theorem drawStoreOf {C D : List Rel → List Imp → Int} (hC : CodeC C) (hD : ChoiceD C D) (a : Option Addr) (len cap : Nat) (w : World) (hl : len ≤ 1048576) (hc : ∀ i, i < len → ∃ cb co, a = some ⟨cb, co, none⟩ ∧ cb < w.heap.size ∧ ∃ b : Nat, b < 256 ∧ w.cell? ⟨cb, co + i, none⟩ = some (.int .u8 b)) :
    Calls Tryz.prog 4 #[.slice a len cap] w fun e w' => (∃ (v u : Value) (l : List RelV) (ws : List Imp), e = .returned (.tuple #[v, u]) ∧ Drawn w.heap.size w' v u l ws) ∧ Below w.heap.size w w' := by
  have c12 := drawSource a len cap w hl hc
  have c13 := fun (A' : Nat) (hA' : A' ≤ 70000) (W : World) (hs : Src w.heap.size w.heap.size a len cap A' w W) => drawStore hA' hl hs
  have c14 := fun (A' : Nat) (hA' : A' ≤ 80000) (W : World) (hs : Src w.heap.size w.heap.size a len cap A' w W) => drawNeeds ⟨#[]⟩ hA' hl hs
  have HC13 : Hid _ := c13
  have HC14 : Hid _ := c14
  have HCC : Hid (CodeC C) := hC
  have HCD : Hid (ChoiceD C D) := hD
  clear c13 c14 hC hD hc
  go_enter Tryz.func4, Tryz.ntmps4
  go_upto_region 4 with (first
    | (go_at_call 12; go_must (refine c12.mono ?_; rintro e w1 ⟨rfl, hs1, hz1⟩; have k13 := HC13.out 0 (by omega) w1 hs1))
    | (go_at_call 13; go_must (refine k13.mono ?_; rintro e w2 ⟨v2, l2, rfl, hr2, hl2, hl40, hs2, ho2⟩; have k14 := HC14.out _ (by omega) w2 hs2))
    | (go_at_call 14; go_must (refine k14.mono ?_; rintro e w3 ⟨u3, ws3, rfl, hi3, hw4, hok3, hs3, ho3⟩)))
  have hdr : Drawn (w.heap.size + 1) w3 v2 u3 l2 ws3 := ⟨(hr2.mono (by omega)).only ho3 (by omega), hl2, hl40, hi3.mono (by have := ho2.1; omega), hw4, hok3⟩
  have HDR : Hid (Drawn (w.heap.size + 1) w3 v2 u3 l2 ws3) := hdr
  clear hdr hr2 hi3 k13 k14 c12 hs1 hs2 ho2 ho3
  go_wp2_with fail
  go_loopw [5, 6, 7] (fun i5 i6 i7 wr => ∃ (k : Nat) (l : List RelV) (ws : List Imp), i7 = .int .i64 (k : Int) ∧ k ≤ 4 ∧ Drawn (w.heap.size + 1) wr i5 i6 l ws ∧ Src w.heap.size w.heap.size a len cap (3100 * (k + 1)) w wr) (fun _ _ i7 _ => 4 - (intOf i7).toNat)
  case atStart => exact ⟨0, l2, ws3, rfl, by omega, HDR.out, hs3.mono (by omega)⟩
  case round =>
    obtain ⟨k, l, ws, rfl, hk, hd, hs⟩ := hrel
    obtain ⟨a5, c5, hv5, _⟩ := hd.1.value
    obtain ⟨a6, c6, hv6, _⟩ := hd.2.2.2.1.value
    subst hv5 hv6
    have HDD : Hid (Drawn (w.heap.size + 1) wr (.slice a5 l.length c5) (.slice a6 ws.length c6) l ws) := hd
    have hbw : Below w.heap.size w wr := hs.below
    have cc := HCC.out _ _ _ _ _ wr (fun b hb => hb.2) hd.both.1 hd.both.2
    have hw5 : (ws.length : Int) ≤ 4 := by have := hd.2.2.2.2.1; omega
    clear hd
    obtain ⟨C0, hC0⟩ : ∃ C0, C (l.map RelV.rel) ws = C0 := ⟨_, rfl⟩
    rw [hC0] at cc
    have HC0 : Hid (C (l.map RelV.rel) ws = C0) := hC0
    clear hC0
    by_cases hk4 : k < 4
    · have hk4' : (k : Int) < 4 := by omega
      go_upto_if 24 with (go_at_call 15; go_must (refine cc.mono ?_; rintro e w5 ⟨rfl, hb5⟩))
      have hd5 := Drawn.below HDD.out hb5
      have HD5 : Hid (Drawn (w.heap.size + 1) w5 (.slice a5 l.length c5) (.slice a6 ws.length c6) l ws) := hd5
      have cd := fun h0 => HCD.out _ _ _ _ _ w5 (fun b hb => hb.2) hd5.both.1 hd5.both.2 h0
      have hbw5 := good_below hbw hb5
      have hs5 := hs.bel hb5
      clear hd5 cc HDD hs
      go_cut [4] from 25 to 40 (fun s4 wx => s4 = .pointer (some ⟨w.heap.size, 0, none⟩) ∧ Below w5.heap.size w5 wx)
      case first =>
        by_cases hz : C0 = 0
        · subst hz
          have cd' := cd HC0.out
          obtain ⟨D0, hD0⟩ : ∃ D0, D (l.map RelV.rel) ws = D0 := ⟨_, rfl⟩
          rw [hD0] at cd'
          clear hD0 cd
          by_cases hdz : D0 = 0
          · subst hdz
            by_cases hw0 : 0 < ws.length
            · have hw0' : (0 : Int) < (ws.length : Int) := by omega
              go_wp2_with (go_at_call 16; go_must (refine cd'.mono ?_; rintro e w6 ⟨⟨p6, q6, rfl⟩, hb6⟩))
              go_ret2
              have hd6 := Drawn.below HD5.out hb6
              exact ⟨⟨_, _, _, _, rfl, hd6.1.mono (by omega), hd6.2.1, hd6.2.2.1, hd6.2.2.2.1.mono (by omega), hd6.2.2.2.2⟩, good_below hbw5 hb6⟩
            · have hw0' : ¬ ((0 : Int) < (ws.length : Int)) := by omega
              go_wp2_with (go_at_call 16; go_must (refine cd'.mono ?_; rintro e w6 ⟨⟨p6, q6, rfl⟩, hb6⟩))
              go_meet
              exact ⟨rfl, hb6⟩
          · have hdz' : (D0 == 0) = false := by simpa using hdz
            go_wp2_with (go_at_call 16; go_must (refine cd'.mono ?_; rintro e w6 ⟨⟨p6, q6, rfl⟩, hb6⟩))
            go_meet
            exact ⟨rfl, hb6⟩
        · have hz' : (C0 == 0) = false := by simpa using hz
          go_wp2_with fail
          go_meet
          exact ⟨rfl, Below.refl _ _⟩
      case rest =>
        obtain ⟨rfl, hb6⟩ := hcut
        have hs6 := hs5.bel hb6
        have k13 := HC13.out (3100 * (k + 1)) (by omega) wc hs6
        clear cd HD5 hs5
        go_wp2_with (first
          | (go_at_call 13; go_must (refine k13.mono ?_; rintro e w7 ⟨v7, l7, rfl, hr7, hl7, hl40', hs7, ho7⟩; have k14 := HC14.out _ (by omega) w7 hs7))
          | (go_at_call 14; go_must (refine k14.mono ?_; rintro e w8 ⟨u8', ws8, rfl, hi8, hw8, hok8, hs8, ho8⟩)))
        have hzz : w.heap.size + 1 ≤ wc.heap.size := by
          obtain ⟨_, _, hb, _⟩ := hs6.blk
          exact hb.lt
        exact ⟨⟨k + 1, l7, ws8, rfl, by omega, ⟨(hr7.mono hzz).only ho8 (by omega), hl7, hl40', hi8.mono (Nat.le_trans hzz ho7.1), hw8, hok8⟩, hs8.mono (by omega)⟩, by simp [intOf]; omega⟩
    · have hk4' : ¬ ((k : Int) < 4) := by omega
      by_cases hz : C0 = 0
      · subst hz
        go_wp2_with (go_at_call 15; go_must (refine cc.mono ?_; rintro e w5 ⟨rfl, hb5⟩))
        go_ret2
        have hd5 := Drawn.below HDD.out hb5
        exact ⟨⟨_, _, _, _, rfl, hd5.1.mono (by omega), hd5.2.1, hd5.2.2.1, hd5.2.2.2.1.mono (by omega), hd5.2.2.2.2⟩, good_below hbw hb5⟩
      · have hz' : (C0 == 0) = false := by simpa using hz
        go_wp2_with (go_at_call 15; go_must (refine cc.mono ?_; rintro e w5 ⟨rfl, hb5⟩))
        go_ret2
        have hX : OwnR w.heap.size ((w5.alloc (.cells #[.string ⟨#[97]⟩, .int .i64 2, .slice none 0 0] 32)).alloc (.cells #[.string ⟨#[97]⟩, .int .i64 1, .int .i64 3] 38)) (.slice (some ⟨w5.heap.size, 0, none⟩) 1 1) [⟨⟨⟨#[97]⟩, 2, []⟩, .slice none 0 0⟩] := by
          have h1 : OwnR w.heap.size (w5.alloc (.cells #[.string ⟨#[97]⟩, .int .i64 2, .slice none 0 0] 32)) (.slice (some ⟨w5.heap.size, 0, none⟩) 1 1) [⟨⟨⟨#[97]⟩, 2, []⟩, .slice none 0 0⟩] :=
            ⟨⟨rfl, .inr ⟨w5.heap.size, 1, #[.string ⟨#[97]⟩, .int .i64 2, .slice none 0 0], rfl, (good_below hbw hb5).size, heap_alloc_last w5 _, Nat.le_refl _, by decide, rfl, rfl⟩⟩, fun x hx => by
              simp at hx
              subst hx
              exact ⟨OwnI.nil _ _, by decide, by simp, by simp⟩⟩
          exact h1.below ((Below.refl _ _).alloc (Nat.le_refl _) _)
        have hY : OwnI w.heap.size ((w5.alloc (.cells #[.string ⟨#[97]⟩, .int .i64 2, .slice none 0 0] 32)).alloc (.cells #[.string ⟨#[97]⟩, .int .i64 1, .int .i64 3] 38)) (.slice (some ⟨w5.heap.size + 1, 0, none⟩) 1 1) [⟨⟨#[97]⟩, 1, 3⟩] := by
          have hh := heap_alloc_last (w5.alloc (.cells #[.string ⟨#[97]⟩, .int .i64 2, .slice none 0 0] 32)) (.cells #[.string ⟨#[97]⟩, .int .i64 1, .int .i64 3] 38)
          rw [World.size_alloc] at hh
          exact ⟨rfl, .inr ⟨w5.heap.size + 1, 1, #[.string ⟨#[97]⟩, .int .i64 1, .int .i64 3], rfl, by have := (good_below hbw hb5).size; omega, hh, Nat.le_refl _, by decide, rfl, rfl⟩⟩
        refine ⟨⟨_, _, _, _, rfl, hX, by simp, by simp, hY, by simp, fun x hx => ?_⟩, ((good_below hbw hb5).alloc (good_below hbw hb5).size _).alloc (by have := (good_below hbw hb5).size; simp only [World.size_alloc]; omega) _⟩
        simp at hx
        subst hx
        exact ⟨by decide, by decide, by decide, by decide, by decide⟩
end Go.Proofs.YthlgiinangahcaaGreatDoor

namespace Go.Proofs.YthlgiinangahcaaGreatDoor
open Go.ChangeShapes Go.WideShapes Go.ChangeAt Go.RowKit
set_option linter.unusedVariables false

def ofB (rn : ByteArray) (x : Pk) : Bool := x.name.toList == rn.toList
/-- Picks meet a need: the first one of its name is within its bounds. -/
def meetsB (P : List Pk) (m : Imp) : Bool := match P.find? (ofB m.name) with
  | some p => decide (m.mn ≤ p.ver) && decide (p.ver ≤ m.mx)
  | none => false
theorem find_at6 {P : List Pk} {f : Pk → Bool} {k : Nat} (hk : k < P.length) (h : f P[k] = true) (hno : ∀ j (hj : j < P.length), j < k → f P[j] = false) : P.find? f = some P[k] := by
  rw [List.find?_eq_some_iff_getElem]
  exact ⟨h, k, hk, rfl, fun j hj => by rw [hno j (by omega) hj]; rfl⟩
theorem cellLt {w : World} {g j : Nat} {v : Value} (h : w.cell? ⟨g, j, none⟩ = some v) : g < w.heap.size := by
  cases hh : w.heap[g]? with
  | none => simp [World.cell?, hh] at h
  | some o => exact (Array.getElem?_eq_some_iff.1 hh).1
set_option maxRecDepth 100000 in
set_option maxHeartbeats 2000000 in
theorem lawMeets (P : List Pk) (nm : ByteArray) (mn mx : Int) {B : Nat} {w : World} {v : Value} (h : OwnP B w v P) (hl : P.length ≤ 1000) :
    Calls Tryz.prog 11 #[v, .agg #[.string nm, .int .i64 mn, .int .i64 mx]] w fun e w' => e = .returned (.bool (meetsB P ⟨nm, mn, mx⟩)) ∧ Below w.heap.size w w' := by
  obtain ⟨a, cap, rfl, hc⟩ := h.value
  have HC : Hid _ := hc
  have hl' : (P.length : Int) ≤ 1000 := by omega
  have hk1 : Blk (w.alloc (.cells #[.string nm, .int .i64 mn, .int .i64 mx] 38)) w.heap.size 38 #[.string nm, .int .i64 mn, .int .i64 mx] := heap_alloc_last w _
  have HK1 : Hid (Blk (w.alloc (.cells #[.string nm, .int .i64 mn, .int .i64 mx] 38)) w.heap.size 38 #[.string nm, .int .i64 mn, .int .i64 mx]) := hk1
  clear hc h hk1
  obtain ⟨F, hF⟩ : ∃ F, meetsB P ⟨nm, mn, mx⟩ = F := ⟨_, rfl⟩
  rw [hF]
  have HF : Hid (meetsB P ⟨nm, mn, mx⟩ = F) := hF
  clear hF
  go_enter Tryz.func11, Tryz.ntmps11
  go_wp2_with fail
  go_loopw [5] (fun i5 wr => ∃ (k : Nat), i5 = .int .i64 (k : Int) ∧ k ≤ P.length ∧ (∀ j (hj : j < P.length), j < k → ofB nm P[j] = false) ∧ Blk wr w.heap.size 38 #[.string nm, .int .i64 mn, .int .i64 mx] ∧ Below w.heap.size w wr) (fun i5 _ => P.length - (intOf i5).toNat)
  case atStart => exact ⟨0, rfl, by omega, fun j _ h => by omega, HK1.out, (Below.refl _ w).alloc (Nat.le_refl _) _⟩
  case round =>
    obtain ⟨k, rfl, hk, hno, hblk, hb⟩ := hrel
    have HNO : Hid (∀ j (hj : j < P.length), j < k → ofB nm P[j] = false) := hno
    have HBK : Hid (Blk wr w.heap.size 38 #[.string nm, .int .i64 mn, .int .i64 mx]) := hblk
    have g0 := hblk.cell 0
    have g1 := hblk.cell 1
    have g2 := hblk.cell 2
    simp at g0 g1 g2
    clear hno hblk
    by_cases hkn : k < P.length
    · have hkn' : (k : Int) < (P.length : Int) := by omega
      obtain ⟨g7, rfl, hcell⟩ := HC.out (by omega)
      obtain ⟨x1, x2⟩ := hcell k hkn
      have hg7 := cellLt x1
      have d1 := (hb.cell (p := ⟨g7, k * 2, none⟩) hg7).trans x1
      have d2 := (hb.cell (p := ⟨g7, k * 2 + 1, none⟩) hg7).trans x2
      have hdef : ofB nm P[k] = (P[k].name.toList == nm.toList) := rfl
      have hfa := fun (h : ofB nm P[k] = true) => find_at6 hkn h HNO.out
      obtain ⟨z, hz⟩ : ∃ z, P[k] = z := ⟨_, rfl⟩
      rw [hz] at d1 d2 hdef hfa
      have HZ : Hid (P[k] = z) := hz
      clear hcell x1 x2 hz
      obtain ⟨zn, zv⟩ := z
      dsimp only at d1 d2 hdef
      have HDEF : Hid (ofB nm ⟨zn, zv⟩ = (zn.toList == nm.toList)) := hdef
      have HFA : Hid (ofB nm ⟨zn, zv⟩ = true → P.find? (ofB nm) = some ⟨zn, zv⟩) := hfa
      clear hdef hfa
      cases hcmp : (zn.toList == nm.toList)
      · go_upto_region 4 with fail
        go_quiet (fail)
        go_wp2_with fail
        refine ⟨⟨k + 1, rfl, by omega, fun j hj hjk => ?_, HBK.out.below (bel_drewN (Below.refl _ _) nq), bel_drewN hb nq⟩, by simp [intOf]; omega⟩
        by_cases hj2 : j < k
        · exact HNO.out j hj hj2
        · obtain rfl : j = k := by omega
          rw [HZ.out, HDEF.out]; exact hcmp
      · have hF := HF.out
        unfold meetsB at hF
        rw [HFA.out (by rw [HDEF.out]; exact hcmp)] at hF
        dsimp only at hF
        obtain ⟨B1, hB1⟩ : ∃ B1, decide (mn ≤ zv) = B1 := ⟨_, rfl⟩
        obtain ⟨B2, hB2⟩ : ∃ B2, decide (zv ≤ mx) = B2 := ⟨_, rfl⟩
        rw [hB1, hB2] at hF
        subst hF
        cases B1
        · go_upto_region 4 with fail
          go_quiet (fail)
          go_upto_region 5 with fail
          go_quiet (fail)
          go_wp2_with fail
          go_ret
          exact ⟨by simp, bel_drewN (bel_drewN hb _) _⟩
        · go_upto_region 4 with fail
          go_quiet (fail)
          go_upto_region 5 with fail
          go_quiet (fail)
          go_wp2_with fail
          go_ret
          exact ⟨by simp, bel_drewN (bel_drewN hb _) _⟩
    · obtain rfl : k = P.length := by omega
      have hkn' : ¬ ((P.length : Int) < (P.length : Int)) := by omega
      have hF := HF.out
      unfold meetsB at hF
      rw [List.find?_eq_none.2 (fun x hx => by obtain ⟨j, hj, rfl⟩ := List.getElem_of_mem hx; rw [HNO.out j hj hj]; simp)] at hF
      dsimp only at hF
      subst hF
      go_wp2_with fail
      go_ret
      exact ⟨rfl, hb⟩
end Go.Proofs.YthlgiinangahcaaGreatDoor

namespace Go.Proofs.YthlgiinangahcaaGreatDoor
set_option linter.unusedVariables false

theorem pick_inj {l : List Rel} (h : storeB nameOK l = true) : ∀ i j, i < l.length → j < l.length → pickAt l i = pickAt l j → i = j := by
  have key : ∀ i j, i < l.length → j < l.length → i < j → pickAt l i ≠ pickAt l j := fun i j hi hj hij e => by
    rw [pick_at (List.getElem?_eq_getElem hi), pick_at (List.getElem?_eq_getElem hj)] at e
    have := (store_rel h).2 j hj
    simp only [relB, Bool.and_eq_true, Bool.not_eq_true', List.any_eq_false] at this
    have hm : l[i] ∈ l.take j := by rw [List.mem_take_iff_getElem]; exact ⟨i, by omega, rfl⟩
    have := this.2 _ hm
    unfold relPk at e
    simp only [Pk.mk.injEq] at e
    rw [e.1, e.2] at this
    simp at this
  intro i j hi hj e
  rcases Nat.lt_trichotomy i j with q | q | q
  · exact absurd e (key i j hi hj q)
  · exact q
  · exact absurd e.symm (key j i hj hi q)
theorem Rch.more {l : List Rel} {ws ws' : List Imp} (h : ∀ m ∈ ws, m ∈ ws') {i : Nat} (hr : Rch l ws i) : Rch l ws' i := by
  induction hr with
  | wish hm hb => exact .wish (h _ hm) hb
  | need _ hl hm hb ih => exact .need ih hl hm hb
theorem reach_self {l : List Rel} (hst : storeB nameOK l = true) {i : Nat} (hi : i < l.length) (mx : Int) : reachB l ⟨l[i].name, l[i].ver, mx⟩ = some i := by
  cases hb : reachB l ⟨l[i].name, l[i].ver, mx⟩ with
  | none => exact (reachB_none hb l[i] (List.getElem_mem hi) rfl (Int.le_refl _)).elim
  | some j =>
    obtain ⟨hj, h1, h2, h3⟩ := reachB_some hb
    have h4 := h3 l[i] (List.getElem_mem hi) rfl (Int.le_refl _)
    have : pickAt l j = pickAt l i := by
      rw [pick_at (List.getElem?_eq_getElem hj), pick_at (List.getElem?_eq_getElem hi)]
      unfold relPk
      dsimp only at h1 h2
      rw [h1, Int.le_antisymm h4 h2]
    rw [pick_inj hst _ _ hj hi this]
theorem pick_above {l : List Rel} {ws : List Imp} {i : Nat} {r : Rel} (h : Rch l ws i) (hl : l[i]? = some r) : ∃ p ∈ picksOf l (pickedOf l ws), p.name = r.name ∧ r.ver ≤ p.ver := by
  have hm : r.name ∈ sortB (namesUp l (marksOf l ws) l.length) := by
    rw [sortB_mem]
    refine (names_mem (marks_len l ws) r.name).2 ⟨i, ?_, (List.getElem?_eq_some_iff.1 hl).1⟩
    exact isB_iff.2 ⟨r, hl, h, rfl⟩
  obtain ⟨r', h1, h2, h3, h4⟩ := best_ok hm
  refine ⟨pickAt l (bestN l (marksOf l ws) r.name), ?_, ?_, ?_⟩
  · unfold picksOf pickedOf
    rw [List.map_map]
    exact List.mem_map.2 ⟨r.name, hm, rfl⟩
  · rw [pick_at h1]; exact h3
  · rw [pick_at h1]; exact h4 i r h hl rfl
/-- Picks meet a need: the first one of its name is within its bounds. -/
theorem find_pick {l : List Rel} {ws : List Imp} {p : Pk} (hp : p ∈ picksOf l (pickedOf l ws)) : (picksOf l (pickedOf l ws)).find? (ofB p.name) = some p := by
  have hop : ofB p.name p = true := by unfold ofB; simp
  cases hf : (picksOf l (pickedOf l ws)).find? (ofB p.name) with
  | none =>
    rw [List.find?_eq_none] at hf
    exact absurd hop (hf p hp)
  | some q =>
    have hq1 := List.find?_some hf
    have hq2 := List.mem_of_find?_eq_some hf
    have e1 : q.name = p.name := by unfold ofB at hq1; rw [beq_bytes] at hq1; simpa using hq1
    have hr := picks_rise l ws
    obtain ⟨i, hi, ei⟩ := List.getElem_of_mem hq2
    obtain ⟨j, hj, ej⟩ := List.getElem_of_mem hp
    rcases Nat.lt_trichotomy i j with q' | q' | q'
    · have := List.pairwise_iff_getElem.1 hr i j hi hj q'
      rw [ei, ej, e1, lessB_irrefl] at this; cases this
    · subst q'; rw [← ei, ej]
    · have := List.pairwise_iff_getElem.1 hr j i hj hi q'
      rw [ei, ej, e1, lessB_irrefl] at this; cases this
theorem meets_of {l : List Rel} {ws : List Imp} {p : Pk} {m : Imp} (hp : p ∈ picksOf l (pickedOf l ws)) (hn : p.name = m.name) (h1 : m.mn ≤ p.ver) (h2 : p.ver ≤ m.mx) : meetsB (picksOf l (pickedOf l ws)) m = true := by
  unfold meetsB
  rw [← hn, find_pick hp]
  simp [h1, h2]
theorem pick_ver {l : List Rel} {ws : List Imp} (hst : storeB nameOK l = true) {p : Pk} (hp : p ∈ picksOf l (pickedOf l ws)) : p.ver ≤ 999999 := by
  obtain ⟨⟨i, r, _, h2, rfl⟩, _⟩ := (picks_mem l ws p).1 hp
  obtain ⟨hi, rfl⟩ := List.getElem?_eq_some_iff.1 h2
  have := (store_rel hst).2 i hi
  simp only [relB, Bool.and_eq_true, decide_eq_true_eq] at this
  exact this.1.1.1.2
/-- An upgrade's release is met. -/
theorem upgrade_met {l : List Rel} {ws : List Imp} (hst : storeB nameOK l = true) {i : Nat} (hi : i < l.length) : meetsB (picksOf l (pickedOf l (ws ++ [⟨l[i].name, l[i].ver, 999999⟩]))) ⟨l[i].name, l[i].ver, 999999⟩ = true := by
  have hr : Rch l (ws ++ [⟨l[i].name, l[i].ver, 999999⟩]) i := .wish (m := ⟨l[i].name, l[i].ver, 999999⟩) (by simp) (reach_self hst hi _)
  obtain ⟨p, h1, h2, h3⟩ := pick_above hr (List.getElem?_eq_getElem hi)
  exact meets_of h1 h2 h3 (pick_ver hst h1)
/-- What was picked is not gone and not lower. -/
theorem upgrade_keeps {l : List Rel} {ws : List Imp} (hst : storeB nameOK l = true) (m : Imp) {p : Pk} (hp : p ∈ picksOf l (pickedOf l ws)) : meetsB (picksOf l (pickedOf l (ws ++ [m]))) ⟨p.name, p.ver, 999999⟩ = true := by
  obtain ⟨⟨i, r, h1, h2, rfl⟩, _⟩ := (picks_mem l ws p).1 hp
  obtain ⟨q, h3, h4, h5⟩ := pick_above (h1.more (ws' := ws ++ [m]) (fun x hx => List.mem_append.2 (.inl hx))) h2
  exact meets_of h3 h4 h5 (pick_ver hst h3)
/-- Each wish that reaches something is met from below. -/
theorem wish_above {l : List Rel} {ws : List Imp} {m : Imp} (hm : m ∈ ws) {i : Nat} (hb : reachB l m = some i) : ∃ p ∈ picksOf l (pickedOf l ws), p.name = m.name ∧ m.mn ≤ p.ver := by
  obtain ⟨hi, h1, h2, _⟩ := reachB_some hb
  obtain ⟨p, h3, h4, h5⟩ := pick_above (Rch.wish hm hb) (List.getElem?_eq_getElem hi)
  exact ⟨p, h3, h4.trans h1, Int.le_trans h2 h5⟩
end Go.Proofs.YthlgiinangahcaaGreatDoor

namespace Go.Proofs.YthlgiinangahcaaGreatDoor
open Go.ChangeShapes Go.WideShapes Go.ChangeAt Go.RowKit
set_option linter.unusedVariables false

set_option maxRecDepth 100000 in
set_option maxHeartbeats 2000000 in
theorem lawAt (a : Option Addr) (len cap n : Nat) (w : World) (hl : len ≤ 1048576) (hn : 0 < n) (hn2 : n ≤ 1000) (hc : ∀ i, i < len → ∃ cb co, a = some ⟨cb, co, none⟩ ∧ cb < w.heap.size ∧ ∃ b : Nat, b < 256 ∧ w.cell? ⟨cb, co + i, none⟩ = some (.int .u8 b)) :
    Calls Tryz.prog 7 #[.slice a len cap, .int .i64 0, .int .i64 (n : Int)] w fun e w' => (∃ k : Nat, k < n ∧ e = .returned (.int .i64 (k : Int))) ∧ Below w.heap.size w w' := by
  have hn2' : (n : Int) ≤ 1000 := by omega
  have hl' : (len : Int) ≤ 1048576 := by omega
  by_cases h1 : n ≤ 1
  · have h1' : (n : Int) ≤ 1 := by omega
    clear hc
    go_enter Tryz.func7, Tryz.ntmps7
    go_wp2_with fail
    go_ret
    exact ⟨⟨0, hn, rfl⟩, Below.refl _ _⟩
  · have h1' : ¬ (n : Int) ≤ 1 := by omega
    by_cases h0 : len = 0
    · subst h0
      have hm : Int.tmod 0 (n : Int) = 0 := by simp
      clear hc
      go_enter Tryz.func7, Tryz.ntmps7
      go_wp2_with fail
      go_ret
      exact ⟨⟨0, hn, rfl⟩, Below.refl _ _⟩
    · have h0' : ((len : Int) == 0) = false := by simp; omega
      obtain ⟨cb, co, rfl, hcb, b0, hb0, c0⟩ := hc 0 (by omega)
      obtain ⟨cb', co', he, hcb', b1, hb1, c1⟩ := hc (1 % len) (Nat.mod_lt _ (by omega))
      simp only [Option.some.injEq, Addr.mk.injEq] at he
      obtain ⟨rfl, rfl, -⟩ := he
      have hlt : 1 % len < len := Nat.mod_lt _ (by omega)
      obtain ⟨q, hq⟩ : ∃ q, 1 % len = q := ⟨_, rfl⟩
      rw [hq] at c1 hlt
      have hlt' : (q : Int) < (len : Int) := by omega
      have m1 : Int.tmod 1 (len : Int) = (q : Int) := by rw [← hq]; rfl
      have m0 : Int.tmod 0 (len : Int) = 0 := by simp
      have d0 : Int.tdiv 0 (len : Int) = 0 := by simp
      simp at c0
      have hbb : ((b0 : Int)) < 256 := by omega
      have hbb1 : ((b1 : Int)) < 256 := by omega
      have hlp : (0 : Int) < (len : Int) := by omega
      clear hc hq
      go_enter Tryz.func7, Tryz.ntmps7
      go_upto_region 5 with fail
      go_quiet (fail)
      go_wp2_with fail
      go_ret
      exact ⟨⟨(b0 * 31 + b1) % n, Nat.mod_lt _ hn, by simp⟩, bel_drewN (Below.refl _ _) _⟩
end Go.Proofs.YthlgiinangahcaaGreatDoor

namespace Go.Proofs.YthlgiinangahcaaGreatDoor
open Go.ChangeShapes Go.WideShapes Go.ChangeAt Go.RowKit Go.Maps
set_option linter.unusedVariables false

theorem codeC : CodeC (codeB nameOK) := fun S l ws v u w hS h h2 => specCode specName hS h h2
theorem choiceD : ChoiceD (codeB nameOK) (fun l ws => (choiceOf l ws).2.1) := fun S l ws v u w hS h h2 h0 => by
  obtain ⟨hst, hwi⟩ := code_zero h0
  refine (specChoice nameOK S l ws v u w hS h h2 hst (by have := (wishes_fine hwi).1; omega)).mono ?_
  rintro e w' ⟨⟨p, q, he, _, _⟩, hb⟩
  exact ⟨⟨p, q, he⟩, hb⟩
theorem choice_code (l : List Rel) (ws : List Imp) : ((choiceOf l ws).2.1 = 0 ∧ (choiceOf l ws).1 = pickedOf l ws) ∨ ((choiceOf l ws).2.1 ≠ 0 ∧ (choiceOf l ws).1 = []) := by
  unfold choiceOf finish
  split
  · exact .inr ⟨by simp, rfl⟩
  · split
    · exact .inr ⟨by simp, rfl⟩
    · split
      · exact .inr ⟨by simp, rfl⟩
      · exact .inl ⟨rfl, rfl⟩

set_option maxRecDepth 100000 in
set_option maxHeartbeats 1000000 in
theorem specChoose (T : World → Prop) : ChooseC 5 T (chooseF nameOK choiceOf) := by
  intro S l ws v u w hS h h2 _ _ _ _ _
  have c31 := specCode specName hS h h2
  obtain ⟨c, hc⟩ : ∃ c, codeB nameOK l ws = c := ⟨_, rfl⟩
  unfold chooseF
  rw [hc] at c31 ⊢
  obtain ⟨a, cap, hv⟩ := h.shape
  obtain ⟨a2, cap2, hu⟩ := h2.shape
  subst hv hu
  by_cases hc0 : c = 0
  · subst hc0
    rw [if_pos rfl]
    obtain ⟨hst, hwl⟩ := code_ok hc
    obtain ⟨hi1, hi2⟩ := choice_in l ws hst
    have c32 := fun (W : World) (hW : Below w.heap.size w W) => specChoice nameOK S l ws _ _ W (fun b hb => Nat.lt_of_lt_of_le (hS b hb) hW.size) (h.keep (cells_below hS hW)) (h2.keep (cells_below hS hW)) hst (by omega)
    obtain ⟨k, hk⟩ : ∃ k, (choiceOf l ws).2.1 = k := ⟨_, rfl⟩
    obtain ⟨ns, hns⟩ : ∃ ns, (choiceOf l ws).1 = ns := ⟨_, rfl⟩
    obtain ⟨Q, hQ⟩ : ∃ Q, (choiceOf l ws).2.2 = Q := ⟨_, rfl⟩
    rw [hk, hns, hQ] at c32
    rw [hk, hns, hQ]
    rw [hns] at hi1 hi2
    have HR : Hid (RelsAt S w (.slice a l.length cap) l) := h
    have HI1 : Hid (∀ n ∈ ns, n < l.length) := hi1
    have c33 := fun (W : World) (hW : Below w.heap.size w W) (B : Nat) (p : Value) (hp : OwnN B W p ns) => specPicks (w := W) (fun b hb => Nat.lt_of_lt_of_le (hS b hb) hW.size) (HR.out.keep (cells_below hS hW)) hp HI1.out (by omega)
    clear hk hns hQ hc hst hi1 h h2
    go_enter Tryz.func5, Tryz.ntmps5
    go_wp2_with (first
      | (go_at_call 15; go_must (refine c31.mono ?_; rintro e w1 ⟨rfl, hb1⟩))
      | (go_at_call 16; go_must (refine (c32 _ hb1).mono ?_; rintro e w2 ⟨⟨p, q, rfl, hn2, hs2⟩, b2⟩; have hb2 := good_below hb1 b2))
      | (go_at_call 17; go_must (refine (c33 _ hb2 _ _ hn2).mono ?_; rintro e w3 ⟨⟨p3, rfl, ho3⟩, b3⟩; have hb3 := good_below hb2 b3)))
    go_ret3
    exact ⟨⟨p3, q, rfl, ho3.mono hb2.size, (hs2.below b3).mono hb1.size⟩, hb3⟩
  · rw [if_neg hc0]
    have hcb : (c == 0) = false := by simp [hc0]
    clear h h2 hc
    go_enter Tryz.func5, Tryz.ntmps5
    go_wp2_with (go_at_call 15; go_must (refine c31.mono ?_; rintro e w1 ⟨rfl, hb1⟩))
    go_ret3
    have o1 := (empty_pk w.heap.size w1 hb1.size).below ((Below.refl _ _).alloc (Nat.le_refl _) (.cells #[] 9))
    have o2 := empty_own w.heap.size (w1.alloc (.cells #[] 40)) (by simp; have := hb1.size; omega)
    rw [World.size_alloc] at o2
    exact ⟨⟨_, _, rfl, o1, o2⟩, (hb1.alloc hb1.size _).alloc (by simp; have := hb1.size; omega) _⟩

set_option maxRecDepth 100000 in
set_option maxHeartbeats 4000000 in
theorem implChoose : ChooseC 6 (Lib.Utf8Tabs 0 1) (chooseF nameOK choiceOf) := by
  intro S l ws v u w hS h h2 hl hok hwl hwok hT
  have c27 := implShelf hS h h2 hl hok hwl hwok hT
  obtain ⟨la, lc, hv⟩ := h.shape
  obtain ⟨ua, uc, hu⟩ := h2.shape
  subst hv hu
  have HS : Hid _ := hS
  have HOK : Hid _ := hok
  have HWOK : Hid _ := hwok
  obtain ⟨C, hC⟩ : ∃ C, chooseF nameOK choiceOf l ws = C := ⟨_, rfl⟩
  rw [hC]
  have HC : Hid (chooseF nameOK choiceOf l ws = C) := hC
  obtain ⟨c, hc⟩ : ∃ c, codeB nameOK l ws = c := ⟨_, rfl⟩
  rw [hc] at c27
  have HCD : Hid (codeB nameOK l ws = c) := hc
  clear hC hc h h2 hS hok hwok hT
  by_cases h0 : c = 0
  · subst h0
    obtain ⟨hst, hwi⟩ := code_zero HCD.out
    have hC : C = (picksOf l (choiceOf l ws).1, (choiceOf l ws).2.1, (choiceOf l ws).2.2) := by rw [← HC.out]; unfold chooseF; rw [if_pos HCD.out]
    subst hC
    have HST : Hid _ := hst
    have HWI : Hid _ := hwi
    clear hst hwi
    go_enter Tryz.func6, Tryz.ntmps6
    go_wp2_with (first
      | (go_at_call 18; go_must (refine c27.mono ?_; rintro e w1 ⟨⟨sv, rfl, hout⟩, hb1⟩; obtain ⟨R, hsh, hsame⟩ := hout.elim (fun hx => absurd HCD.out hx.1) (fun hh => hh.2); have hfine := store_fine (ws := ws) HST.out HOK.out (fun m hm => ⟨(wishes_fine HWI.out).2 m hm, by have := HWOK.out m hm; unfold ImpOK at this; omega⟩) (by have := (wishes_fine HWI.out).1; omega); have hgood := same_good HST.out hsame (ws := ws) (by have := (wishes_fine HWI.out).1; omega); obtain ⟨rv, mb, wv, f, n, hsv, q2, q3, q4, q5⟩ := hsh; have HSH : Hid (ShelfAt S w.heap.size w1 sv R (needsOf l) ws) := (show ShelfAt S w.heap.size w1 sv R (needsOf l) ws from ⟨rv, mb, wv, f, n, hsv, q2, q3, q4, q5⟩); obtain ⟨ra, rc, hrv, _⟩ := q2.value; obtain ⟨wa, wc, hwv⟩ := q4.shape; subst hrv hwv; subst hsv; have cch := implChoice (w := w1.alloc (.cells #[.slice ra R.length rc, .map (some mb), .slice wa ws.length wc] 53)) (fun b hb => Nat.lt_of_lt_of_le (HS.out b hb) (Nat.le_trans hb1.size (by simp))) (ShelfAt.below HSH.out (fun b hb => Nat.lt_of_lt_of_le (HS.out b hb) hb1.size) ((Below.refl _ w1).alloc (Nat.le_refl _) _)) hgood hsame hfine; clear hfine hgood hsame q2 q3 q4 q5))
      | (go_at_call 19; go_must (refine cch.mono ?_; rintro e w2 ⟨⟨p, q, rfl, hop, hos⟩, hb2⟩)))
    go_ret3
    have hbA : Below w.heap.size w (w1.alloc (.cells #[.slice ra R.length rc, .map (some mb), .slice wa ws.length wc] 53)) := hb1.alloc hb1.size _
    exact ⟨⟨_, _, rfl, OwnP.mono hop hbA.size, OwnS.mono hos hbA.size⟩, good_below hbA hb2⟩
  · have hC : C = ([], c, []) := by rw [← HC.out]; unfold chooseF; rw [HCD.out, if_neg h0]
    subst hC
    have h0' : (c == 0) = false := by simp [h0]
    go_enter Tryz.func6, Tryz.ntmps6
    go_wp2_with (go_at_call 18; go_must (refine c27.mono ?_; rintro e w1 ⟨⟨sv, rfl, hout⟩, hb1⟩; have hzs := hout.elim (fun hx => hx.2) (fun hh => absurd (HCD.out.symm.trans hh.1) h0); unfold zeroShelf at hzs; subst hzs))
    go_ret3
    exact ⟨⟨_, _, rfl, ⟨rfl, .inl ⟨rfl, rfl⟩⟩, ⟨rfl, .inl ⟨rfl, rfl⟩⟩⟩, hb1.alloc hb1.size _⟩
end Go.Proofs.YthlgiinangahcaaGreatDoor

namespace Go.Proofs.YthlgiinangahcaaGreatDoor
open Go.ChangeShapes Go.WideShapes Go.ChangeAt Go.RowKit
set_option linter.unusedVariables false

set_option maxRecDepth 100000 in
set_option maxHeartbeats 2000000 in
theorem lawSame (P : List Pk) {B B' : Nat} {w : World} {v u : Value} (h : OwnP B w v P) (h2 : OwnP B' w u P) (hl : P.length ≤ 1000) :
    Calls Tryz.prog 10 #[v, u] w fun e w' => e = .returned (.bool true) ∧ Below w.heap.size w w' := by
  obtain ⟨a, cap, rfl, hc⟩ := h.value
  obtain ⟨a2, cap2, rfl, hc2⟩ := h2.value
  have HC : Hid _ := hc
  have HC2 : Hid _ := hc2
  have hl' : (P.length : Int) ≤ 1000 := by omega
  clear hc hc2 h h2
  go_enter Tryz.func10, Tryz.ntmps10
  go_wp2_with fail
  go_loopw [5] (fun i5 wr => ∃ (k : Nat), i5 = .int .i64 (k : Int) ∧ k ≤ P.length ∧ Below w.heap.size w wr) (fun i5 _ => P.length - (intOf i5).toNat)
  case atStart => exact ⟨0, rfl, by omega, Below.refl _ w⟩
  case round =>
    obtain ⟨k, rfl, hk, hb⟩ := hrel
    by_cases hkn : k < P.length
    · have hkn' : (k : Int) < (P.length : Int) := by omega
      obtain ⟨g7, rfl, hcell⟩ := HC.out (by omega)
      obtain ⟨g8, rfl, hcell2⟩ := HC2.out (by omega)
      obtain ⟨x1, x2⟩ := hcell k hkn
      obtain ⟨y1, y2⟩ := hcell2 k hkn
      have d1 := (hb.cell (p := ⟨g7, k * 2, none⟩) (cellLt x1)).trans x1
      have d2 := (hb.cell (p := ⟨g7, k * 2 + 1, none⟩) (cellLt x1)).trans x2
      have d3 := (hb.cell (p := ⟨g8, k * 2, none⟩) (cellLt y1)).trans y1
      have d4 := (hb.cell (p := ⟨g8, k * 2 + 1, none⟩) (cellLt y1)).trans y2
      obtain ⟨z, hz⟩ : ∃ z, P[k] = z := ⟨_, rfl⟩
      rw [hz] at d1 d2 d3 d4
      clear hcell hcell2 x1 x2 y1 y2 hz
      obtain ⟨zn, zv⟩ := z
      dsimp only at d1 d2 d3 d4
      go_upto_region 6 with fail
      go_quiet (fail)
      go_wp2_with fail
      exact ⟨⟨k + 1, rfl, by omega, bel_drewN hb nq⟩, by simp [intOf]; omega⟩
    · obtain rfl : k = P.length := by omega
      have hkn' : ¬ ((P.length : Int) < (P.length : Int)) := by omega
      go_wp2_with fail
      go_ret
      exact ⟨rfl, hb⟩
end Go.Proofs.YthlgiinangahcaaGreatDoor

namespace Go.Proofs.YthlgiinangahcaaGreatDoor
open Go.ChangeShapes Go.WideShapes Go.ChangeAt Go.RowKit
set_option linter.unusedVariables false

/-- What the law leans on, plain. -/
structure UpFacts (CH : List Rel → List Imp → List Pk × Int × List ByteArray) (UP : List Rel → List Imp → ByteArray → Int → List Pk × Int × List ByteArray) : Prop where
  len : ∀ l ws, (CH l ws).1.length ≤ 1000
  ulen : ∀ l ws nm ve, (UP l ws nm ve).1.length ≤ 1000
  name : ∀ l ws, (CH l ws).2.1 = 0 → ∀ i (hi : i < l.length), l[i].name.size ≤ 1048576 ∧ (Lit.int .i64 l[i].ver).wf = true
  none : ∀ l ws nm ve, (UP l ws nm ve).2.1 ≠ 0 → (UP l ws nm ve).1 = []
  met : ∀ l ws, (CH l ws).2.1 = 0 → ∀ i (hi : i < l.length), (UP l ws l[i].name l[i].ver).2.1 = 0 → meetsB (UP l ws l[i].name l[i].ver).1 ⟨l[i].name, l[i].ver, 999999⟩ = true
  keeps : ∀ l ws, (CH l ws).2.1 = 0 → ∀ i (hi : i < l.length), (UP l ws l[i].name l[i].ver).2.1 = 0 → ∀ p ∈ (CH l ws).1, meetsB (UP l ws l[i].name l[i].ver).1 ⟨p.name, p.ver, 999999⟩ = true

theorem Drawn.okay {B : Nat} {w : World} {v u : Value} {l : List RelV} {ws : List Imp} (h : Drawn B w v u l ws) : (∀ x ∈ l.map RelV.rel, RelOK 1048576 x) ∧ ∀ x ∈ ws, ImpOK 1048576 x := by
  have key : ∀ m : Imp, NeedOK m → ImpOK 1048576 m := fun m hm => by unfold ImpOK; have := hm.1; omega
  refine ⟨fun x hx => ?_, fun x hx => key x (h.2.2.2.2.2 x hx)⟩
  obtain ⟨y, hy, rfl⟩ := List.mem_map.1 hx
  obtain ⟨_, h1, h2, h3⟩ := h.1.needs y hy
  exact ⟨by omega, by omega, fun m hm => key m (h3 m hm)⟩

set_option maxRecDepth 100000 in
set_option maxHeartbeats 4000000 in
theorem upWalk {CH : List Rel → List Imp → List Pk × Int × List ByteArray} {UP : List Rel → List Imp → ByteArray → Int → List Pk × Int × List ByteArray} (hF : UpFacts CH UP) {C D : List Rel → List Imp → Int} (hC : CodeC C) (hD : ChoiceD C D) {T : World → Prop}
    (h5 : ChooseC 5 T CH) (h6 : ChooseC 6 T CH) (h8 : UpgradeC 8 T UP) (h9 : UpgradeC 9 T UP) (w : World) (a0 : Option Addr) (len0 cap0 : Nat) (a1 : Option Addr) (len1 cap1 : Nat)
    (hc0 : ∀ i, i < len0 → ∃ cb co, a0 = some ⟨cb, co, none⟩ ∧ cb < w.heap.size ∧ ∃ b : Nat, b < 256 ∧ w.cell? ⟨cb, co + i, none⟩ = some (.int .u8 b))
    (hc1 : ∀ i, i < len1 → ∃ cb co, a1 = some ⟨cb, co, none⟩ ∧ cb < w.heap.size ∧ ∃ b : Nat, b < 256 ∧ w.cell? ⟨cb, co + i, none⟩ = some (.int .u8 b)) (hT : ∀ W, Below w.heap.size w W → T W) :
    Calls Tryz.prog 3 #[.slice a0 len0 cap0, .slice a1 len1 cap1] w fun e w' => e = .returned (.bool true) ∧ Below w.heap.size w w' := by
  by_cases hb0 : 1048576 < len0
  · have hb0' : (1048576 : Int) < (len0 : Int) := by omega
    clear hc0 hc1 hF hC hD h5 h6 h8 h9 hT
    go_enter Tryz.func3, Tryz.ntmps3
    go_wp2_with fail
    go_ret
    exact ⟨rfl, Below.refl _ _⟩
  have hb0' : ¬ (1048576 : Int) < (len0 : Int) := by omega
  by_cases hb1 : 1048576 < len1
  · have hb1' : (1048576 : Int) < (len1 : Int) := by omega
    clear hc0 hc1 hF hC hD h5 h6 h8 h9 hT
    go_enter Tryz.func3, Tryz.ntmps3
    go_wp2_with fail
    go_ret
    exact ⟨rfl, Below.refl _ _⟩
  have hb1' : ¬ (1048576 : Int) < (len1 : Int) := by omega
  have c4 := drawStoreOf hC hD a0 len0 cap0 w (by omega) hc0
  have HC1 : Hid _ := hc1
  have HT : Hid _ := hT
  have HF : Hid (UpFacts CH UP) := hF
  have H5 : Hid (ChooseC 5 T CH) := h5
  have H6 : Hid (ChooseC 6 T CH) := h6
  have H8 : Hid (UpgradeC 8 T UP) := h8
  have H9 : Hid (UpgradeC 9 T UP) := h9
  clear hc0 hc1 hF hC hD h5 h6 h8 h9 hT
  go_enter Tryz.func3, Tryz.ntmps3
  go_upto_region 4 with (go_at_call 4; go_must (refine c4.mono ?_; rintro e w1 ⟨⟨v, u, l, ws, rfl, hd⟩, hbw1⟩))
  obtain ⟨hok1, hok2⟩ := hd.okay
  have hl0 := hd.2.1
  have hl40 := hd.2.2.1
  have hw4 := hd.2.2.2.2.1
  obtain ⟨hR, hI⟩ := hd.both
  have hll : (l.map RelV.rel).length = l.length := List.length_map ..
  obtain ⟨L, hL⟩ : ∃ L, l.map RelV.rel = L := ⟨_, rfl⟩
  rw [hL] at hok1 hR hll
  rw [← hll] at hl0 hl40
  obtain ⟨S, hS⟩ : ∃ S : Nat → Prop, (fun b => w.heap.size ≤ b ∧ b < w1.heap.size) = S := ⟨_, rfl⟩
  have hSlt : ∀ b, S b → b < w1.heap.size := fun b hb => by rw [← hS] at hb; exact hb.2
  rw [hS] at hR hI
  clear hL hll hS hd c4 l
  obtain ⟨la, lc, hv⟩ := hR.shape
  obtain ⟨ua, uc, hu⟩ := hI.shape
  subst hv hu
  have HR : Hid (RelsAt S w1 (.slice la L.length lc) L) := hR
  have HI : Hid (ImpsAt S w1 (.slice ua ws.length uc) ws) := hI
  have HS : Hid (∀ b, S b → b < w1.heap.size) := hSlt
  obtain ⟨_, la', lc', hlv, hlc⟩ := hR
  simp only [Value.slice.injEq] at hlv
  obtain ⟨rfl, -, rfl⟩ := hlv
  obtain ⟨b, off, rfl, hbS, hlcell⟩ := hlc hl0
  have HLC : Hid _ := hlcell
  have HOK1 : Hid (∀ x ∈ L, RelOK 1048576 x) := hok1
  have HOK2 : Hid (∀ x ∈ ws, ImpOK 1048576 x) := hok2
  have hbw := hSlt b hbS
  have c5 := H5.out S L ws _ _ w1 hSlt HR.out hI (by omega) hok1 (by omega) hok2 (fun W hW => HT.out W (good_below hbw1 hW))
  have c6 := fun (W : World) (hW : Below w1.heap.size w1 W) => H6.out S L ws _ _ W (fun b hb => Nat.lt_of_lt_of_le (HS.out b hb) hW.size) (HR.out.keep (cells_below HS.out hW)) (HI.out.keep (cells_below HS.out hW)) (by omega) HOK1.out (by omega) HOK2.out (fun W' hW' => HT.out W' (good_below hbw1 (good_below hW hW')))
  have hplen := HF.out.len L ws
  have hname := HF.out.name L ws
  have hmet := HF.out.met L ws
  have hkeeps := HF.out.keeps L ws
  obtain ⟨⟨P, c, Q⟩, hCH⟩ : ∃ x, CH L ws = x := ⟨_, rfl⟩
  rw [hCH] at c5 c6 hplen hname hmet hkeeps
  dsimp only at c5 c6 hplen hname hmet hkeeps
  have HC6 : Hid _ := c6
  clear hI hok1 hok2 hlc hlcell hSlt hbS H5 H6 hCH
  by_cases hz : c = 0
  · subst hz
    have HNAME : Hid _ := hname rfl
    have HMET : Hid _ := hmet rfl
    have HKEEPS : Hid _ := hkeeps rfl
    clear c6 hname hmet hkeeps
    have c7 := fun (W : World) (hW : Below w.heap.size w W) => lawAt a1 len1 cap1 L.length W (by omega) hl0 (by omega) (fun i hi => by
      obtain ⟨cb, co, h1, h2, b, h3, h4⟩ := HC1.out i hi
      exact ⟨cb, co, h1, Nat.lt_of_lt_of_le h2 hW.size, b, h3, (hW.cell h2).trans h4⟩)
    go_upto_region 9 with (first
      | (go_at_call 5; go_must (refine c5.mono ?_; rintro e w2 ⟨⟨p2, q2, rfl, hop2, hos2⟩, hb2⟩; have HOP2 : Hid (OwnP w1.heap.size w2 p2 P) := hop2; clear hop2 hos2; have c7' := c7 w2 (good_below hbw1 hb2); clear c7 c5))
      | (go_at_call 7; go_must (refine c7'.mono ?_; rintro e w3 ⟨⟨k, hk, rfl⟩, hb3⟩; have hb13 := good_below hb2 hb3; obtain ⟨x1, x2, nv, x3, x4⟩ := HLC.out k hk; obtain ⟨na, nc, hnv⟩ := x4.shape; subst hnv; have hk' : (k : Int) < (L.length : Int) := (by omega); have d1 := (hb13.cell (p := ⟨b, off + k * 3, none⟩) hbw).trans x1; have d2 := (hb13.cell (p := ⟨b, off + k * 3 + 1, none⟩) hbw).trans x2; have d3 := (hb13.cell (p := ⟨b, off + k * 3 + 2, none⟩) hbw).trans x3; have hnm := HNAME.out k hk; have hmt := HMET.out k hk; have hkp := HKEEPS.out k hk; obtain ⟨r, hr⟩ : ∃ r, L[k] = r := ⟨_, rfl⟩; rw [hr] at d1 d2 d3 hnm hmt hkp; clear x1 x2 x3 x4 c7' hr; obtain ⟨rn, rv, rs⟩ := r; dsimp only at d1 d2 d3 hnm hmt hkp; have HMT : Hid _ := hmt; have HKP : Hid _ := hkp; clear hmt hkp HNAME HMET HKEEPS)))
    have hbk : Blk (w3.alloc (.cells #[.string rn, .int .i64 rv, .slice na rs.length nc] 32)) w3.heap.size 32 #[.string rn, .int .i64 rv, .slice na rs.length nc] := heap_alloc_last w3 _
    have hb14 : Below w1.heap.size w1 (w3.alloc (.cells #[.string rn, .int .i64 rv, .slice na rs.length nc] 32)) := hb13.alloc hb13.size _
    have hb24 : Below w2.heap.size w2 (w3.alloc (.cells #[.string rn, .int .i64 rv, .slice na rs.length nc] 32)) := hb3.alloc hb3.size _
    obtain ⟨w4, hw4e⟩ : ∃ w4, w3.alloc (.cells #[.string rn, .int .i64 rv, .slice na rs.length nc] 32) = w4 := ⟨_, rfl⟩
    obtain ⟨g, hge⟩ : ∃ g, w3.heap.size = g := ⟨_, rfl⟩
    rw [hw4e] at hbk hb14 hb24 ⊢
    rw [hge] at hbk ⊢
    have hbw4 := good_below hbw1 hb14
    have HOP4 : Hid (OwnP w1.heap.size w4 p2 P) := (show OwnP w1.heap.size w4 p2 P from HOP2.out.below hb24)
    clear hw4e hge d1 d2 d3 hb3 hb13 hb2 hb24 HOP2 HLC
    have e0 := hbk.cell 0
    have e1 := hbk.cell 1
    simp at e0 e1
    have HBK : Hid (Blk w4 g 32 #[.string rn, .int .i64 rv, .slice na rs.length nc]) := hbk
    have c8 := H8.out S L ws rn rv _ _ w4 (fun b hb => Nat.lt_of_lt_of_le (HS.out b hb) hb14.size) (HR.out.keep (cells_below HS.out hb14)) (HI.out.keep (cells_below HS.out hb14)) (by omega) HOK1.out (by omega) HOK2.out hnm.1 hnm.2 (fun W' hW' => HT.out W' (good_below hbw4 hW'))
    have c9 := fun (W : World) (hW : Below w4.heap.size w4 W) => H9.out S L ws rn rv _ _ W (fun b hb => Nat.lt_of_lt_of_le (HS.out b hb) (good_below hb14 hW).size) (HR.out.keep (cells_below HS.out (good_below hb14 hW))) (HI.out.keep (cells_below HS.out (good_below hb14 hW))) (by omega) HOK1.out (by omega) HOK2.out hnm.1 hnm.2 (fun W' hW' => HT.out W' (good_below hbw4 (good_below hW hW')))
    have hulen := HF.out.ulen L ws rn rv
    have hnone := HF.out.none L ws rn rv
    have hmt := HMT.out
    have hkp := HKP.out
    obtain ⟨⟨P', c', Q'⟩, hUP⟩ : ∃ x, UP L ws rn rv = x := ⟨_, rfl⟩
    rw [hUP] at c8 c9 hulen hnone hmt hkp
    dsimp only at c8 c9 hulen hnone hmt hkp
    clear hUP HMT HKP HF H8 H9 hbk
    by_cases hz : c' = 0
    · subst hz
      have hmt' := hmt rfl
      have HKP : Hid _ := hkp rfl
      clear hmt hkp hnone
      go_upto_region 17 with (first
        | (go_at_call 8; go_must (refine c8.mono ?_; rintro e w5 ⟨⟨p5, q5, rfl, hop5, hos5⟩, hb5⟩; have HOP5 : Hid (OwnP w4.heap.size w5 p5 P') := hop5; have f0 := (hb5.cell (p := ⟨g, 0, none⟩) HBK.out.lt).trans e0; have f1 := (hb5.cell (p := ⟨g, 1, none⟩) HBK.out.lt).trans e1; have c9' := c9 w5 hb5; clear c9 c8 hop5 hos5))
        | (go_at_call 9; go_must (refine c9'.mono ?_; rintro e w6 ⟨⟨p6, q6, rfl, hop6, hos6⟩, hb6⟩; have HOP6 : Hid (OwnP w5.heap.size w6 p6 P') := hop6; have hb46 := good_below hb5 hb6; have k0 := (hb46.cell (p := ⟨g, 0, none⟩) HBK.out.lt).trans e0; have k1 := (hb46.cell (p := ⟨g, 1, none⟩) HBK.out.lt).trans e1; have c10 := lawSame P' hop6 (HOP5.out.below hb6) hulen; clear c9' hop6 hos6))
        | (go_at_call 10; go_must (refine c10.mono ?_; rintro e w7 ⟨rfl, hb7⟩; have hb47 := good_below hb46 hb7; have m0 := (hb47.cell (p := ⟨g, 0, none⟩) HBK.out.lt).trans e0; have m1 := (hb47.cell (p := ⟨g, 1, none⟩) HBK.out.lt).trans e1; have c11 := lawMeets P' rn rv 999999 (HOP6.out.below hb7) hulen; rw [hmt'] at c11; clear c10))
        | (go_at_call 11; go_must (refine c11.mono ?_; rintro e w8 ⟨rfl, hb8⟩; clear c11)))
      have hb67 := good_below hb7 hb8
      have hb48 := good_below hb47 hb8
      have hb18 := good_below hb14 hb48
      have c6 := HC6.out w8 hb18
      have HOP8 : Hid (OwnP w5.heap.size w8 p6 P') := (show OwnP w5.heap.size w8 p6 P' from (HOP6.out.below hb7).below hb8)
      have HOQ8 : Hid (OwnP w1.heap.size w8 p2 P) := (show OwnP w1.heap.size w8 p2 P from HOP4.out.below hb48)
      clear HC6 HOP6 HOP5 HOP4 HBK e0 e1 f0 f1 k0 k1 m0 m1 hmt'
      go_wp2_with (first
        | (go_at_call 6; go_must (refine c6.mono ?_; rintro e w9 ⟨⟨p9, q9, rfl, hop9, hos9⟩, hb9⟩; have HOP9 : Hid (OwnP w8.heap.size w9 p9 P) := hop9; have c10 := lawSame P hop9 (HOQ8.out.below hb9) hplen; obtain ⟨pa9, pc9, hp9, hpc9⟩ := hop9.value; subst hp9; have HPC9 : Hid _ := hpc9; clear hop9 hos9 hpc9))
        | (go_at_call 10; go_must (refine c10.mono ?_; rintro e w10 ⟨rfl, hb10⟩; clear c10)))
      have hb89 := good_below hb9 hb10
      have hbw10 := good_below hbw1 (good_below hb18 hb89)
      have HOP10 : Hid (OwnP w5.heap.size w10 p6 P') := (show OwnP w5.heap.size w10 p6 P' from HOP8.out.below hb89)
      have HP10 : Hid (OwnP w8.heap.size w10 (.slice pa9 P.length pc9) P) := (show OwnP w8.heap.size w10 (.slice pa9 P.length pc9) P from HOP9.out.below hb10)
      have hpl' : (P.length : Int) ≤ 1000 := by omega
      clear HOP8 HOP9 HOQ8 HPC9 c6
      go_loopw [21] (fun i21 wr => ∃ (j : Nat), i21 = .int .i64 (j : Int) ∧ j ≤ P.length ∧ Below w10.heap.size w10 wr) (fun i21 _ => P.length - (intOf i21).toNat)
      case atStart => exact ⟨0, rfl, by omega, Below.refl _ _⟩
      case round =>
        obtain ⟨j, rfl, hj, hB⟩ := hrel
        by_cases hjn : j < P.length
        · have hjn' : (j : Int) < (P.length : Int) := by omega
          obtain ⟨a9, c9, hv9, hq9⟩ := HP10.out.value
          simp only [Value.slice.injEq] at hv9
          obtain ⟨rfl, -, rfl⟩ := hv9
          obtain ⟨g9, rfl, hcell⟩ := hq9 (by omega)
          obtain ⟨x1, x2⟩ := hcell j hjn
          have hkp := HKP.out P[j] (List.getElem_mem hjn)
          obtain ⟨z, hzz⟩ : ∃ z, P[j] = z := ⟨_, rfl⟩
          rw [hzz] at x1 x2 hkp
          obtain ⟨zn, zv⟩ := z
          dsimp only at x1 x2 hkp
          have y1 := fun N : GoodW (fun W => Below w10.heap.size w10 W) => (N.ok.cell (p := ⟨g9, j * 2, none⟩) (cellLt x1)).trans x1
          have y2 := fun N : GoodW (fun W => Below w10.heap.size w10 W) => (N.ok.cell (p := ⟨g9, j * 2 + 1, none⟩) (cellLt x1)).trans x2
          have c11 := fun N : GoodW (fun W => Below w10.heap.size w10 W) => lawMeets P' zn zv 999999 (HOP10.out.below N.ok) hulen
          rw [hkp] at c11
          clear hcell x1 x2 hzz hq9 hkp
          go_upto_region 23 with fail
          haveI ne : Nonempty (GoodW (fun W => Below w10.heap.size w10 W)) := ⟨⟨_, hB⟩⟩
          refine wp_region_calm (fun W => Below w10.heap.size w10 W) (by kernel_rfl) (by kernel_rfl) hB.drew ?_
          repeat (go_big_quiet_step ((go_at_call 11; exact Calls.calm _ (fun w2 hb => good_below (GoodW.ok _) hb) (c11 _))))
          refine wpQuiet_nil ?_
          rintro _ ⟨⟨W2, hW2⟩, rfl⟩
          go_wp2_with fail
          exact ⟨⟨j + 1, rfl, by omega, hW2⟩, by simp [intOf]; omega⟩
        · obtain rfl : j = P.length := by omega
          have hjn' : ¬ ((P.length : Int) < (P.length : Int)) := by omega
          go_wp2_with fail
          go_ret
          exact ⟨rfl, good_below hbw10 hB⟩
    · have hz' : (c' == 0) = false := by simpa using hz
      have hP := hnone hz
      subst hP
      clear hmt hkp hnone hulen HC6
      go_wp2_with (first
        | (go_at_call 8; go_must (refine c8.mono ?_; rintro e w5 ⟨⟨p5, q5, rfl, hop5, hos5⟩, hb5⟩; have HOP5 : Hid (OwnP w4.heap.size w5 p5 []) := hop5; have f0 := (hb5.cell (p := ⟨g, 0, none⟩) HBK.out.lt).trans e0; have f1 := (hb5.cell (p := ⟨g, 1, none⟩) HBK.out.lt).trans e1; have c9' := c9 w5 hb5; clear c9 c8 hop5 hos5))
        | (go_at_call 9; go_must (refine c9'.mono ?_; rintro e w6 ⟨⟨p6, q6, rfl, hop6, hos6⟩, hb6⟩; have c10 := lawSame [] hop6 (HOP5.out.below hb6) (by simp); obtain ⟨pa6, pc6, hp6, _⟩ := hop6.value; subst hp6; clear c9' hop6 hos6))
        | (go_at_call 10; go_must (refine c10.mono ?_; rintro e w7 ⟨rfl, hb7⟩)))
      go_ret
      exact ⟨rfl, good_below hbw4 (good_below (good_below hb5 hb6) hb7)⟩
  · have hz' : (c == 0) = false := by simpa using hz
    clear hname hmet hkeeps HLC
    go_wp2_with (first
      | (go_at_call 5; go_must (refine c5.mono ?_; rintro e w2 ⟨⟨p2, q2, rfl, hop2, hos2⟩, hb2⟩; have c6' := c6 w2 hb2; clear hop2 hos2 c6))
      | (go_at_call 6; go_must (refine c6'.mono ?_; rintro e w3 ⟨⟨p3, q3, rfl, hop3, hos3⟩, hb3⟩)))
    go_ret
    exact ⟨by simp, good_below hbw1 (good_below hb2 hb3)⟩
end Go.Proofs.YthlgiinangahcaaGreatDoor

namespace Go.Proofs.YthlgiinangahcaaGreatDoor
open Go.ChangeShapes Go.WideShapes Go.ChangeAt Go.RowKit
set_option linter.unusedVariables false

theorem picksOf_len (l : List Rel) (ns : List Nat) : (picksOf l ns).length = ns.length := by unfold picksOf; exact List.length_map ..
theorem choose_zero {l : List Rel} {ws : List Imp} (h : (chooseF nameOK choiceOf l ws).2.1 = 0) : storeB nameOK l = true ∧ codeB nameOK l ws = 0 ∧ (choiceOf l ws).2.1 = 0 := by
  unfold chooseF at h
  by_cases hc : codeB nameOK l ws = 0
  · rw [if_pos hc] at h
    exact ⟨(code_zero hc).1, hc, h⟩
  · rw [if_neg hc] at h
    exact absurd h hc
theorem store_name {l : List Rel} (h : storeB nameOK l = true) (i : Nat) (hi : i < l.length) : l[i].name.size ≤ 40 ∧ 1 ≤ l[i].ver ∧ l[i].ver ≤ 999999 := by
  have := (store_rel h).2 i hi
  simp only [relB, Bool.and_eq_true, decide_eq_true_eq, nameOK] at this
  exact ⟨this.1.1.1.1.1.1.1.2, this.1.1.1.1.2, this.1.1.1.2⟩
theorem up_is {l : List Rel} {ws : List Imp} (h : codeB nameOK l ws = 0) (i : Nat) (hi : i < l.length) : upgradeF l ws l[i].name l[i].ver = (picksOf l (choiceOf l (ws ++ [⟨l[i].name, l[i].ver, 999999⟩])).1, (choiceOf l (ws ++ [⟨l[i].name, l[i].ver, 999999⟩])).2.1, (choiceOf l (ws ++ [⟨l[i].name, l[i].ver, 999999⟩])).2.2) := by
  unfold upgradeF
  rw [if_neg (by have := (store_name (code_zero h).1 i hi).1; omega), if_pos h, if_pos]
  rw [has_iff]
  exact List.mem_map.2 ⟨l[i], List.getElem_mem hi, rfl⟩
theorem upFacts : UpFacts (chooseF nameOK choiceOf) upgradeF where
  len := fun l ws => by
    unfold chooseF
    split
    · rename_i hc
      have := (choice_in l ws (code_zero hc).1).2
      rw [picksOf_len]; omega
    · simp
  ulen := fun l ws nm ve => by
    unfold upgradeF
    split
    · simp
    · split
      · rename_i hc
        split
        · have := (choice_in l (ws ++ [⟨nm, ve, 999999⟩]) (code_zero hc).1).2
          rw [picksOf_len]; omega
        · simp
      · simp
  name := fun l ws h i hi => by
    obtain ⟨h1, h2, h3⟩ := store_name (choose_zero h).1 i hi
    refine ⟨by omega, ?_⟩
    simp [Lit.wf, IntKind.min, IntKind.max, IntKind.signed, IntKind.bits]
    omega
  none := fun l ws nm ve h => by
    unfold upgradeF at h ⊢
    split
    · rfl
    · split
      · split
        · rename_i h1 h2 h3
          rw [if_neg h1, if_pos h2, if_pos h3] at h
          rcases choice_code l (ws ++ [⟨nm, ve, 999999⟩]) with ⟨e, _⟩ | ⟨_, e⟩
          · exact absurd e h
          · dsimp only; rw [e]; rfl
        · rfl
      · rfl
  met := fun l ws h i hi h0 => by
    obtain ⟨hst, hc, _⟩ := choose_zero h
    rw [up_is hc i hi] at h0 ⊢
    rcases choice_code l (ws ++ [⟨l[i].name, l[i].ver, 999999⟩]) with ⟨_, e⟩ | ⟨e, _⟩
    · dsimp only; rw [e]; exact upgrade_met hst hi
    · exact absurd h0 e
  keeps := fun l ws h i hi h0 p hp => by
    obtain ⟨hst, hc, h1⟩ := choose_zero h
    rw [up_is hc i hi] at h0 ⊢
    have hp' : p ∈ picksOf l (pickedOf l ws) := by
      unfold chooseF at hp
      rw [if_pos hc] at hp
      rcases choice_code l ws with ⟨_, e⟩ | ⟨e, _⟩
      · rw [← e]; exact hp
      · exact absurd h1 e
    rcases choice_code l (ws ++ [⟨l[i].name, l[i].ver, 999999⟩]) with ⟨_, e⟩ | ⟨e, _⟩
    · dsimp only; rw [e]; exact upgrade_keeps hst _ hp'
    · exact absurd h0 e

theorem lawFnUpgrade (w : World) (a0 : Option Addr) (len0 cap0 : Nat) (a1 : Option Addr) (len1 cap1 : Nat)
    (hc0 : ∀ i, i < len0 → ∃ cb co, a0 = some ⟨cb, co, none⟩ ∧ cb < w.heap.size ∧ ∃ b : Nat, b < 256 ∧ w.cell? ⟨cb, co + i, none⟩ = some (.int .u8 b))
    (hc1 : ∀ i, i < len1 → ∃ cb co, a1 = some ⟨cb, co, none⟩ ∧ cb < w.heap.size ∧ ∃ b : Nat, b < 256 ∧ w.cell? ⟨cb, co + i, none⟩ = some (.int .u8 b)) (hT : Lib.Utf8Tabs 0 1 w) :
    Calls Tryz.prog 3 #[.slice a0 len0 cap0, .slice a1 len1 cap1] w fun e w' => e = .returned (.bool true) ∧ Below w.heap.size w w' :=
  upWalk upFacts codeC choiceD (specChoose _) implChoose (specUpgrade _) implUpgrade w a0 len0 cap0 a1 len1 cap1 hc0 hc1 (fun W hb => Utf8Tabs_below hT hb)
end Go.Proofs.YthlgiinangahcaaGreatDoor
