/-
  spec.l04Reached: the search, as it is laid in memory. spec.l04Picked: of each reached name the release of the greatest version. spec.l04Picked: its walk. How two releases are held against one another by impl.byTwo: name first, then version; the sort by it. Rows of structs of one's own, sorted by the library: what they hold ahead of it and behind it. The order of releases. slices.SortFunc over releases, by impl.byTwo. slices.BinarySearchFunc over releases that rise. impl.byTwo, and what needs reach in a row of releases that rises: the plain side; releases appended. impl's reach: its walk. 'm[k]++' where the key's entry is taken first: what the entry and the store into it leave is what a plain store leaves. A map from releases to rows of needs; a shelf: releases, their needs, wishes. No statement of the seat is proved here.
-/
import Derived.Test.YthgjdcomanabiaaGreatDoorYj2
import Derived.Deep.OwnRows
namespace Go.Proofs.YthgjdcomanabiaaGreatDoor
open Go.ChangeShapes Go.WideShapes Go.ChangeAt Go.RowKit
set_option linter.unusedVariables false

def bools (bs : List Bool) : Array Value := (bs.map Value.bool).toArray
theorem bools_size (bs : List Bool) : (bools bs).size = bs.length := by simp [bools]
theorem bools_get (bs : List Bool) (i : Nat) : (bools bs)[i]? = bs[i]?.map Value.bool := by simp [bools]
theorem bools_set (bs : List Bool) (i : Nat) (b : Bool) : (bools bs).setIfInBounds i (.bool b) = bools (bs.set i b) := by
  apply Array.ext'
  simp [bools, List.map_set]
theorem bools_made (n : Nat) : madeCells #[.bool false] n = bools (List.replicate n false) := by
  apply Array.ext'
  simp [madeCells, bools, Nat.mod_one, List.map_const']

/-- Rows whose elements are of other types lie in other blocks. -/
theorem OwnS.apart {B B' : Nat} {w : World} {v u : Value} {l : List ByteArray} {N : List Imp} (h : OwnS B w v l) (h' : OwnI B' w u N) : v.ownBlock = none ∨ v.ownBlock ≠ u.ownBlock := by
  rcases h.2 with ⟨rfl, _⟩ | ⟨g, cap, cur, rfl, _, hg, _⟩
  · exact .inl rfl
  · refine .inr ?_
    rcases h'.2 with ⟨rfl, _⟩ | ⟨g', cap', cur', rfl, _, hg', _⟩
    · simp [Value.ownBlock]
    · simp only [Value.ownBlock, ne_eq, Option.some.injEq]
      intro e
      subst e
      rw [hg] at hg'
      simp at hg'
theorem OwnI.apart {B B' : Nat} {w : World} {v u : Value} {l : List ByteArray} {N : List Imp} (h' : OwnI B' w u N) (h : OwnS B w v l) : u.ownBlock = none ∨ u.ownBlock ≠ v.ownBlock := by
  rcases h'.2 with ⟨rfl, _⟩ | ⟨g', cap', cur', rfl, _, hg', _⟩
  · exact .inl rfl
  · refine .inr ?_
    rcases h.2 with ⟨rfl, _⟩ | ⟨g, cap, cur, rfl, _, hg, _⟩
    · simp [Value.ownBlock]
    · simp only [Value.ownBlock, ne_eq, Option.some.injEq]
      intro e
      subst e
      rw [hg'] at hg
      simp at hg
theorem Blk.kept {w w' : World} {g : Nat} {ty : TypeId} {cs : Array Value} {row : Option Nat} (h : Blk w g ty cs) (hg : w.grownBy w' row) (hne : some g ≠ row) : Blk w' g ty cs := (hg.block g h.lt hne).trans h
theorem OwnS.kept' {B : Nat} {w w' : World} {v : Value} {l : List ByteArray} {row : Option Nat} (h : OwnS B w v l) (hg : w.grownBy w' row) (hne : v.ownBlock = none ∨ v.ownBlock ≠ row) : OwnS B w' v l :=
  World.ownsRow.kept h hg hne
theorem set_grown (w : World) (g i : Nat) (u : Value) : w.grownBy (w.setCell ⟨g, i, none⟩ u) (some g) := by
  have hb := (Below.refl 0 w).setCell (p := ⟨g, i, none⟩) (Nat.zero_le _) u
  exact ⟨hb.os, hb.tape, hb.output, hb.size, fun k _ hk => Below.heap_setCell w ⟨g, i, none⟩ u k (fun e => hk (by rw [e]))⟩
theorem OwnS.not_blk {B g : Nat} {w : World} {v : Value} {l : List ByteArray} {cs : Array Value} (h : OwnS B w v l) (hb : Blk w g 4 cs) : v.ownBlock ≠ some g := by
  rcases h.2 with ⟨rfl, _⟩ | ⟨g', cap, cur, rfl, _, hg, _⟩
  · simp [Value.ownBlock]
  · simp only [Value.ownBlock, ne_eq, Option.some.injEq]
    intro e
    subst e
    rw [show w.heap[g']? = _ from hb] at hg
    simp at hg
theorem OwnI.not_blk {B g : Nat} {w : World} {v : Value} {l : List Imp} {cs : Array Value} (h : OwnI B w v l) (hb : Blk w g 4 cs) : v.ownBlock ≠ some g := by
  rcases h.2 with ⟨rfl, _⟩ | ⟨g', cap, cur, rfl, _, hg, _⟩
  · simp [Value.ownBlock]
  · simp only [Value.ownBlock, ne_eq, Option.some.injEq]
    intro e
    subst e
    rw [show w.heap[g']? = _ from hb] at hg
    simp at hg

theorem OwnS.base {B B' : Nat} {w : World} {v : Value} {l : List ByteArray} (h : OwnS B w v l) (hB : B' ≤ B) : OwnS B' w v l := by
  obtain ⟨hl, h⟩ := h
  refine ⟨hl, ?_⟩
  rcases h with h | ⟨g, cap, cur, hv, hg, h⟩
  · exact .inl h
  · exact .inr ⟨g, cap, cur, hv, Nat.le_trans hB hg, h⟩
theorem Srch.lost_len {l : List Rel} {ws : List Imp} {bs : List Bool} {N : List Imp} {lost : List ByteArray} {k : Nat} (h : Srch l ws bs N lost k) : lost.length ≤ k := by
  rw [h.lost, List.length_map]
  refine Nat.le_trans (List.length_filter_le _ _) ?_
  simp
  omega
/-- The marks bs, in a row of one's own. -/
def Bools (B : Nat) (w : World) (v : Value) (bs : List Bool) : Prop := ∃ g, B ≤ g ∧ v = .slice (some ⟨g, 0, none⟩) bs.length bs.length ∧ Blk w g 4 (bools bs)
theorem Bools.below {B : Nat} {w w' : World} {v : Value} {bs : List Bool} (h : Bools B w v bs) (hb : Below w.heap.size w w') : Bools B w' v bs := by
  obtain ⟨g, h1, h2, h3⟩ := h
  exact ⟨g, h1, h2, h3.below hb⟩

set_option maxRecDepth 100000 in
set_option maxHeartbeats 4000000 in
theorem specReached {S : Nat → Prop} {l : List Rel} {ws : List Imp} {v u : Value} {w : World} (hS : ∀ b, S b → b < w.heap.size) (hR : RelsAt S w v l) (hI : ImpsAt S w u ws) (hl : l.length ≤ 200) (hn : ∀ r ∈ l, r.needs.length ≤ 20) (hws : ws.length ≤ 21) :
    Calls Tryz.prog 54 #[v, u] w fun e w' => (∃ p q bs N lost, e = .returned (.tuple #[p, q]) ∧ Bools w.heap.size w' p bs ∧ OwnS w.heap.size w' q (sortB lost) ∧ Srch l ws bs N lost N.length) ∧ Below w.heap.size w w' := by
  have HR : Hid (RelsAt S w v l) := hR
  have HI : Hid (ImpsAt S w u ws) := hI
  have HS : Hid _ := hS
  have HN : Hid _ := hn
  obtain ⟨a, cap, hv⟩ := hR.shape
  obtain ⟨a2, cap2, hu⟩ := hI.shape
  subst hv hu
  clear hR hI hS hn
  have hl' : (l.length : Int) ≤ 200 := by omega
  have hws' : (ws.length : Int) ≤ 21 := by omega
  have hmk := run_make_row' (P := Tryz.prog) 98 4 (.bool false) 1 Tryz.underlying98 (by kernel_rfl) rfl .i64 .i64 l.length (by omega) (by omega)
  rw [bools_made] at hmk
  obtain ⟨BB, hBB⟩ : ∃ BB, bools (List.replicate l.length false) = BB := ⟨_, rfl⟩
  have HBB : Hid _ := hBB
  rw [hBB] at hmk
  clear hBB
  have hw1 : ∀ o, Below w.heap.size w (w.alloc o) := fun o => (Below.refl _ w).alloc (Nat.le_refl _) _
  go_enter Tryz.func54, Tryz.ntmps54
  go_wp2_with (at_builtin; go_must (refine wpList_appendI rfl (.tmp 15) (.tmp 16) rfl (w.heap.size + 1) (.slice (some ⟨w.heap.size + 1 + 1, 0, none⟩) 0 0) [] rfl ⟨rfl, .inr ⟨w.heap.size + 1 + 1, 0, #[], rfl, by omega, by simpa only [World.size_alloc] using heap_alloc_last ((w.alloc (.cells BB 4)).alloc (.cells #[] 9)) (.cells #[] 61), Nat.le_refl _, Nat.zero_le _, rfl, rfl⟩⟩ _ ws rfl (ImpsAt.keep HI.out (cells_below HS.out (((hw1 _).alloc (by simp only [World.size_alloc]; omega) _).alloc (by simp only [World.size_alloc]; omega) _))) (by simp; omega) (by simp only [World.size_alloc]; omega) ?_; intro v8 w8 hown8 hB8 hgr8))
  have hbA : Below w.heap.size w ((((w.alloc (.cells BB 4)).alloc (.cells #[] 9))).alloc (.cells #[] 61)) := ((hw1 _).alloc (by simp only [World.size_alloc]; omega) _).alloc (by simp only [World.size_alloc]; omega) _
  have hb8 : Below w.heap.size w w8 := hbA.trans (hB8.mono (by omega))
  have hk8 : Blk w8 w.heap.size 4 BB := by
    have h0 : Blk ((((w.alloc (.cells BB 4)).alloc (.cells #[] 9))).alloc (.cells #[] 61)) w.heap.size 4 BB := Blk.below (Blk.below (show Blk (w.alloc (.cells BB 4)) w.heap.size 4 BB from heap_alloc_last w _) ((Below.refl _ _).alloc (Nat.le_refl _) _)) ((Below.refl _ _).alloc (Nat.le_refl _) _)
    exact h0.kept hgr8 (by simp [Value.ownBlock]; omega)
  have ho7 : OwnS (w.heap.size + 1) w8 (.slice (some ⟨w.heap.size + 1, 0, none⟩) 0 0) [] := by
    have h0 : OwnS (w.heap.size + 1) ((((w.alloc (.cells BB 4)).alloc (.cells #[] 9))).alloc (.cells #[] 61)) (.slice (some ⟨w.heap.size + 1, 0, none⟩) 0 0) [] :=
      OwnS.below (w := (w.alloc (.cells BB 4)).alloc (.cells #[] 9)) ⟨rfl, .inr ⟨w.heap.size + 1, 0, #[], rfl, Nat.le_refl _, by simpa only [World.size_alloc] using heap_alloc_last (w.alloc (.cells BB 4)) (.cells #[] 9), Nat.le_refl _, Nat.zero_le _, rfl, rfl⟩⟩ ((Below.refl _ _).alloc (Nat.le_refl _) _)
    exact h0.kept' hgr8 (.inr (by simp [Value.ownBlock]))
  clear hmk hw1 hbA hB8 hgr8
  rw [List.nil_append] at hown8
  have H8 : Hid (OwnI (w.heap.size + 1) w8 v8 ws) := hown8
  have HK8 : Hid _ := hk8
  have H7 : Hid _ := ho7
  clear hown8 hk8 ho7
  go_loopw [7, 8, 9] (fun i7 i8 i9 wr => ∃ (k : Nat) (bs : List Bool) (N : List Imp) (lost : List ByteArray), i9 = .int .i64 (k : Int) ∧ Blk wr w.heap.size 4 (bools bs) ∧ OwnS (w.heap.size + 1) wr i7 lost ∧ OwnI (w.heap.size + 1) wr i8 N ∧ Srch l ws bs N lost k ∧ Below w.heap.size w wr) (fun _ _ i9 _ => 5000 - (intOf i9).toNat)
  case atStart => exact ⟨0, List.replicate l.length false, ws, [], rfl, by rw [HBB.out]; exact HK8.out, H7.out, H8.out, Srch.start l ws, hb8⟩
  case round =>
    obtain ⟨k, bs, N, lost, rfl, hblk, hos, hoi, hsr, hb⟩ := hrel
    have hbd := hsr.bound
    have hkl := hsr.kle
    obtain ⟨a8, c8, hv8, hs8⟩ := hoi.value
    subst hv8
    have HB : Hid (Blk wr w.heap.size 4 (bools bs)) := hblk
    have HOS : Hid (OwnS (w.heap.size + 1) wr u7 lost) := hos
    have HOI : Hid (OwnI (w.heap.size + 1) wr (.slice a8 N.length c8) N) := hoi
    have HSR : Hid (Srch l ws bs N lost k) := hsr
    clear hblk hos hoi hsr
    by_cases hkn : k < N.length
    · have hkn' : (k : Int) < (N.length : Int) := by omega
      obtain ⟨g8, rfl, hg8, hg8w, hcell⟩ := hs8 (by omega)
      obtain ⟨x1, x2, x3⟩ := hcell k hkn
      obtain ⟨x, hx⟩ : ∃ x, N[k] = x := ⟨_, rfl⟩
      have HX : Hid (N[k] = x) := hx
      rw [hx] at x1 x2 x3
      clear hx hcell hs8
      obtain ⟨nm, mn, mx⟩ := x
      dsimp only at x1 x2 x3
      have cr := fun w' (hbb : Below w.heap.size w w') => specReach (w := w') nm mn mx (fun b hb => Nat.lt_of_lt_of_le (HS.out b hb) hbb.size) (RelsAt.keep HR.out (cells_below HS.out hbb))
      obtain ⟨ri, hri⟩ : ∃ ri, reachB l ⟨nm, mn, mx⟩ = ri := ⟨_, rfl⟩
      have HRI : Hid (reachB l ⟨nm, mn, mx⟩ = ri) := hri
      rw [hri] at cr
      clear hri
      have hws1 : w.heap.size + 1 ≤ wr.heap.size := HB.out.lt
      cases ri with
      | none =>
        simp only [idxV] at cr
        obtain ⟨ti, hti, ht0, ht1, ht2⟩ := info9
        go_wp2_with (first
          | (go_at_call 30; go_must (refine (cr _ hb).mono ?_; rintro e w1 ⟨rfl, hb1⟩; have y1 := (hb1.cell (p := ⟨g8, k * 3, none⟩) hg8w).trans x1))
          | (at_builtin; go_must (refine wpList_appendS rfl (.tmp 32) (.tmp 38) 40 rfl Tryz.underlying40 ti hti ht0 ht1 ht2 (w.heap.size + 1) u7 lost rfl ((OwnS.below HOS.out hb1).below ((Below.refl _ w1).alloc (Nat.le_refl _) _)) ⟨w1.heap.size, 0, none⟩ 1 nm rfl (new_cell w1 nm) (by have := HSR.out.lost_len; omega) (by have := hb1.size; simp only [World.size_alloc]; omega) ?_; intro v4 w4 hown4 hB4 hgr4)))
        have hb2 := good_below hb hb1
        have hbw := (hb2.alloc hb2.size (.cells #[.string nm] 9)).trans (hB4.mono (by omega))
        have hmiss := HSR.out.miss hkn (by rw [HX.out]; exact HRI.out)
        rw [HX.out] at hmiss
        have o1 : OwnI (w.heap.size + 1) (w1.alloc (.cells #[.string nm] 9)) (.slice (some ⟨g8, 0, none⟩) N.length c8) N := (OwnI.below HOI.out hb1).below ((Below.refl _ w1).alloc (Nat.le_refl _) _)
        have o2 : OwnS (w.heap.size + 1) (w1.alloc (.cells #[.string nm] 9)) u7 lost := (OwnS.below HOS.out hb1).below ((Below.refl _ w1).alloc (Nat.le_refl _) _)
        have o3 : Blk (w1.alloc (.cells #[.string nm] 9)) w.heap.size 4 (bools bs) := (HB.out.below hb1).below ((Below.refl _ w1).alloc (Nat.le_refl _) _)
        exact ⟨⟨k + 1, bs, N, _, rfl, o3.kept hgr4 (fun e => (o2.not_blk o3) e.symm), hown4, o1.kept hgr4 (o1.apart o2), hmiss, hbw⟩, by simp [intOf]; omega⟩
      | some i =>
        have hil : i < l.length := reachB_lt HRI.out
        have hlen := HSR.out.len
        simp only [idxV] at cr
        obtain ⟨bi, hbi⟩ : ∃ bi, bs[i]? = some bi := ⟨bs[i]'(by omega), List.getElem?_eq_getElem (by omega)⟩
        have hbq : ∀ W, Blk W w.heap.size 4 (bools bs) → W.cell? ⟨w.heap.size, i, none⟩ = some (.bool bi) := fun W hW => by rw [hW.cell i, bools_get, hbi]; rfl
        have HBI : Hid (bs[i]? = some bi) := hbi
        have HLN : Hid (bs.length = l.length) := hlen
        clear hbi hlen
        have hil' : (i : Int) < (l.length : Int) := by omega
        cases bi
        · obtain ⟨hlm, ra, rc, hrv, hrc⟩ := (show RelsAt S w (.slice a l.length cap) l from HR.out)
          simp only [Value.slice.injEq] at hrv
          obtain ⟨rfl, _, rfl⟩ := hrv
          obtain ⟨b, off, rfl, hbS, hrcell⟩ := hrc (by omega)
          obtain ⟨_, _, nv, z3, hnv⟩ := hrcell i hil
          have hbw := HS.out b hbS
          have hmem : l[i] ∈ l := List.getElem_mem hil
          have hli : l[i]? = some l[i] := List.getElem?_eq_getElem hil
          obtain ⟨r, hr⟩ : ∃ r, l[i] = r := ⟨_, rfl⟩
          rw [hr] at hnv hmem hli
          have hn20 := HN.out r hmem
          have HLI : Hid (l[i]? = some r) := hli
          clear hr hmem hrcell hrc hlm hli
          obtain ⟨na, nc, rfl⟩ := hnv.shape
          have HNV : Hid (ImpsAt S w (.slice na r.needs.length nc) r.needs) := hnv
          clear hnv
          have hne : b ≠ w.heap.size := by omega
          go_wp2_with (first
            | (go_at_call 30; go_must (refine (cr _ hb).mono ?_; rintro e w1 ⟨rfl, hb1⟩; have hk1 := HB.out.below hb1; have hc1 := hbq w1 hk1; have hf1 := hk1.fro i; have hbS := (good_below hb hb1).setCell (p := ⟨w.heap.size, i, none⟩) (Nat.le_refl _) (.bool true); have z4 := (hbS.cell (p := ⟨b, off + i * 3 + 2, none⟩) hbw).trans z3; have HKB : Hid (Blk w1 w.heap.size 4 (bools bs)) := hk1; clear hk1))
            | (at_builtin; go_must (refine wpList_appendI rfl (.tmp 48) (.tmp 53) rfl (w.heap.size + 1) (.slice (some ⟨g8, 0, none⟩) N.length c8) N rfl ((OwnI.below HOI.out hb1).kept (set_grown _ _ _ _) (.inr ((OwnI.below HOI.out hb1).not_blk HKB.out))) _ r.needs rfl (ImpsAt.keep HNV.out (cells_below HS.out hbS)) (by omega) (by have := hb1.size; have := (set_grown w1 w.heap.size i (.bool true)).size; omega) ?_; intro v4 w4 hown4 hB4 hgr4)))
          have hnew := HSR.out.new hkn (by rw [HX.out]; exact HRI.out) HBI.out HLI.out hn20
          have q1 : Blk (w1.setCell ⟨w.heap.size, i, none⟩ (.bool true)) w.heap.size 4 (bools (bs.set i true)) := by
            rw [← bools_set]; exact HKB.out.set i _
          have q2 : OwnI (w.heap.size + 1) (w1.setCell ⟨w.heap.size, i, none⟩ (.bool true)) (.slice (some ⟨g8, 0, none⟩) N.length c8) N := (OwnI.below HOI.out hb1).kept (set_grown _ _ _ _) (.inr ((OwnI.below HOI.out hb1).not_blk HKB.out))
          have q3 : OwnS (w.heap.size + 1) (w1.setCell ⟨w.heap.size, i, none⟩ (.bool true)) u7 lost := (OwnS.below HOS.out hb1).kept' (set_grown _ _ _ _) (.inr ((OwnS.below HOS.out hb1).not_blk HKB.out))
          exact ⟨⟨k + 1, _, _, lost, rfl, q1.kept hgr4 (fun e => (q2.not_blk q1) e.symm), q3.kept' hgr4 (q3.apart q2), hown4, hnew, hbS.trans (hB4.mono (by omega))⟩, by simp [intOf]; omega⟩
        · go_wp2_with (go_at_call 30; go_must (refine (cr _ hb).mono ?_; rintro e w1 ⟨rfl, hb1⟩; have hc1 := hbq w1 (HB.out.below hb1)))
          exact ⟨⟨k + 1, bs, N, lost, rfl, HB.out.below hb1, OwnS.below HOS.out hb1, OwnI.below HOI.out hb1, HSR.out.old hkn (by rw [HX.out]; exact HRI.out) HBI.out, good_below hb hb1⟩, by simp [intOf]; omega⟩
    · have hkN : k = N.length := by omega
      subst hkN
      have hkn' : ¬ ((N.length : Int) < (N.length : Int)) := by omega
      have cs := specSort HOS.out (by have := HSR.out.lost_len; omega)
      obtain ⟨a7, c7, hv7, _⟩ := (show OwnS (w.heap.size + 1) wr u7 lost from HOS.out).value
      subst hv7
      go_wp2_with (go_at_call 78; go_must (refine cs.mono ?_; rintro e w1 ⟨⟨p, rfl, ho1⟩, hb1⟩))
      have hlen := HSR.out.len
      go_ret2
      refine ⟨⟨_, _, bs, N, lost, rfl, ⟨w.heap.size, Nat.le_refl _, by rw [hlen]; rfl, HB.out.below hb1⟩, ho1.base hb.size, HSR.out⟩, good_below hb hb1⟩
end Go.Proofs.YthgjdcomanabiaaGreatDoor

namespace Go.Proofs.YthgjdcomanabiaaGreatDoor
open Go.ChangeShapes Go.WideShapes Go.ChangeAt Go.RowKit
set_option linter.unusedVariables false

/-- The release k is marked, and of that name. -/
def isB (l : List Rel) (bs : List Bool) (nm : ByteArray) (k : Nat) : Bool := match l[k]?, bs[k]? with
  | some r, some true => r.name.toList == nm.toList
  | _, _ => false
/-- Of the first k releases the marked one of that name that is greatest. -/
def bestUp (l : List Rel) (bs : List Bool) (nm : ByteArray) : Nat → Option Nat
  | 0 => none
  | k + 1 => match l[k]? with
    | none => bestUp l bs nm k
    | some r => if isB l bs nm k then (match bestUp l bs nm k with
        | none => some k
        | some j => match l[j]? with
          | none => some j
          | some q => if q.ver < r.ver then some k else some j) else bestUp l bs nm k
def bestB (l : List Rel) (bs : List Bool) (nm : ByteArray) : Option Nat := bestUp l bs nm l.length
theorem bestUp_lt (l : List Rel) (bs : List Bool) (nm : ByteArray) : ∀ k j, bestUp l bs nm k = some j → j < k ∧ j < l.length ∧ isB l bs nm j = true := by
  intro k
  induction k with
  | zero => intro j h; simp [bestUp] at h
  | succ k ih =>
    intro j h
    unfold bestUp at h
    cases hk : l[k]? with
    | none => rw [hk] at h; have := ih j h; exact ⟨by omega, this.2⟩
    | some r =>
      have hkl := (List.getElem?_eq_some_iff.1 hk).1
      rw [hk] at h
      dsimp only at h
      split at h
      · rename_i hib
        split at h
        · simp at h; subst h; exact ⟨by omega, hkl, hib⟩
        · rename_i j' hj'
          have := ih j' hj'
          split at h
          · simp at h; subst h; exact ⟨by omega, this.2⟩
          · split at h
            · simp at h; subst h; exact ⟨by omega, hkl, hib⟩
            · simp at h; subst h; exact ⟨by omega, this.2⟩
      · have := ih j h; exact ⟨by omega, this.2⟩
theorem bestUp_no {l : List Rel} {bs : List Bool} {nm : ByteArray} {k : Nat} (hk : k < l.length) (h : isB l bs nm k = false) : bestUp l bs nm (k + 1) = bestUp l bs nm k := by
  conv => lhs; unfold bestUp
  rw [List.getElem?_eq_getElem hk]
  simp [h]
theorem bestUp_first {l : List Rel} {bs : List Bool} {nm : ByteArray} {k : Nat} (hk : k < l.length) (h : isB l bs nm k = true) (h0 : bestUp l bs nm k = none) : bestUp l bs nm (k + 1) = some k := by
  conv => lhs; unfold bestUp
  rw [List.getElem?_eq_getElem hk]
  simp [h, h0]
theorem bestUp_more {l : List Rel} {bs : List Bool} {nm : ByteArray} {k j : Nat} (hk : k < l.length) (hj : j < l.length) (h : isB l bs nm k = true) (h0 : bestUp l bs nm k = some j) (hl : l[j].ver < l[k].ver) : bestUp l bs nm (k + 1) = some k := by
  conv => lhs; unfold bestUp
  rw [List.getElem?_eq_getElem hk]
  simp [h, h0, hj, hl]
theorem bestUp_less {l : List Rel} {bs : List Bool} {nm : ByteArray} {k j : Nat} (hk : k < l.length) (hj : j < l.length) (h : isB l bs nm k = true) (h0 : bestUp l bs nm k = some j) (hl : ¬ l[j].ver < l[k].ver) : bestUp l bs nm (k + 1) = some j := by
  conv => lhs; unfold bestUp
  rw [List.getElem?_eq_getElem hk]
  simp [h, h0, hj, hl]
theorem bestUp_some {l : List Rel} {bs : List Bool} {nm : ByteArray} : ∀ k i, i < k → i < l.length → isB l bs nm i = true → ∃ j, bestUp l bs nm k = some j ∧ ∃ (hj : j < l.length) (hi : i < l.length), l[i].ver ≤ l[j].ver := by
  intro k
  induction k with
  | zero => intro i h; omega
  | succ k ih =>
    intro i hik hil hib
    by_cases hkl : k < l.length
    · cases hbk : isB l bs nm k
      · rw [bestUp_no hkl hbk]
        exact ih i (by by_cases e : i = k; · subst e; rw [hib] at hbk; cases hbk
                       · omega) hil hib
      · cases h0 : bestUp l bs nm k with
        | none =>
          rw [bestUp_first hkl hbk h0]
          by_cases e : i = k
          · subst e; exact ⟨i, rfl, hil, hil, Int.le_refl _⟩
          · obtain ⟨j, hj, _⟩ := ih i (by omega) hil hib
            rw [h0] at hj; cases hj
        | some j =>
          have hjl := (bestUp_lt _ _ _ _ _ h0).2.1
          by_cases hlt : l[j].ver < l[k].ver
          · rw [bestUp_more hkl hjl hbk h0 hlt]
            refine ⟨k, rfl, hkl, hil, ?_⟩
            by_cases e : i = k
            · subst e; exact Int.le_refl _
            · obtain ⟨j', hj', _, _, hv⟩ := ih i (by omega) hil hib
              rw [h0] at hj'; cases hj'
              omega
          · rw [bestUp_less hkl hjl hbk h0 hlt]
            refine ⟨j, rfl, hjl, hil, ?_⟩
            by_cases e : i = k
            · subst e; omega
            · obtain ⟨j', hj', _, _, hv⟩ := ih i (by omega) hil hib
              rw [h0] at hj'; cases hj'
              exact hv
    · have hu : bestUp l bs nm (k + 1) = bestUp l bs nm k := by
        conv => lhs; unfold bestUp
        rw [List.getElem?_eq_none (by omega)]
      rw [hu]
      exact ih i (by omega) hil hib

/-- The names of the marked ones among the first k. -/
def namesUp (l : List Rel) (bs : List Bool) (k : Nat) : List ByteArray := (((l.zip bs).take k).filter (fun x => x.2)).map (fun x => x.1.name)
theorem namesUp_snoc {l : List Rel} {bs : List Bool} {k : Nat} (hk : k < l.length) (hb : k < bs.length) : namesUp l bs (k + 1) = if bs[k] then namesUp l bs k ++ [l[k].name] else namesUp l bs k := by
  unfold namesUp
  have hz : k < (l.zip bs).length := by simp; omega
  rw [List.take_succ_eq_append_getElem hz, List.filter_append, List.map_append, List.getElem_zip]
  cases bs[k] <;> simp
theorem names_mem {l : List Rel} {bs : List Bool} (hlen : bs.length = l.length) (t : ByteArray) : t ∈ namesUp l bs l.length ↔ ∃ i, isB l bs t i = true ∧ i < l.length := by
  unfold namesUp
  rw [List.take_of_length_le (by simp; omega), List.mem_map]
  constructor
  · rintro ⟨⟨r, b⟩, hx, rfl⟩
    rw [List.mem_filter] at hx
    obtain ⟨i, hi, he⟩ := List.getElem_of_mem hx.1
    rw [List.getElem_zip] at he
    simp only [List.length_zip] at hi
    simp only [Prod.mk.injEq] at he
    have hb : b = true := hx.2
    refine ⟨i, ?_, by omega⟩
    unfold isB
    rw [List.getElem?_eq_getElem (by omega), List.getElem?_eq_getElem (show i < bs.length by omega), he.1, he.2, hb]
    simp
  · rintro ⟨i, hi, hil⟩
    unfold isB at hi
    rw [List.getElem?_eq_getElem hil, List.getElem?_eq_getElem (show i < bs.length by omega)] at hi
    cases hbi : bs[i]
    · rw [hbi] at hi; simp at hi
    · rw [hbi] at hi
      simp only at hi
      rw [beq_iff_eq] at hi
      refine ⟨(l[i], bs[i]), List.mem_filter.2 ⟨?_, hbi⟩, ?_⟩
      · rw [← List.getElem_zip (h := by simp; omega)]
        exact List.getElem_mem _
      · have : ∀ a b : ByteArray, a.toList = b.toList → a = b := fun a b h => by
          rw [ByteArray.toList_eq, ByteArray.toList_eq] at h
          exact bytes_inj h
        exact this _ _ hi
def bestN (l : List Rel) (bs : List Bool) (nm : ByteArray) : Nat := (bestB l bs nm).getD 0

section
variable {P : Program}
theorem OwnN.block {B : Nat} {w : World} {v : Value} {l : List Nat} (h : OwnN B w v l) : ∀ k, v.ownBlock = some k → B ≤ k := by
  intro k hk
  rcases h.2 with ⟨rfl, _⟩ | ⟨g, cap, cur, rfl, hB, _⟩
  · simp [Value.ownBlock] at hk
  · simp [Value.ownBlock] at hk; omega
theorem info3 : ∃ i, Tryz.prog.info? 3 = some i ∧ i.zero = some (.int .i64 0) ∧ i.size = 1 ∧ i.bytes = 8 := by
  have hi : (Tryz.prog.info? 3).map (fun i => (i.zero, i.size, i.bytes)) = some (some (.int .i64 0), 1, 8) := by kernel_rfl
  cases h : Tryz.prog.info? 3 with
  | none => rw [h] at hi; simp at hi
  | some i =>
    rw [h] at hi
    simp only [Option.map_some, Option.some.injEq, Prod.mk.injEq] at hi
    exact ⟨i, rfl, hi.1, hi.2.1, hi.2.2⟩
theorem wpList_appendN {ops : Array Oper} {rest : List Oper} {o : Oper} {a : Act} {w : World} {Q : Exit → Act → World → Prop} (hgd : o.guard = none) (s x : Operand)
    (ho : o.op = .call { callee := .builtin .append, args := #[s, x], argTypes := #[55, 55] })
    (B : Nat) (v : Value) (l : List Nat) (hs : a.eval s = v) (hown : OwnN B w v l) (ad : Addr) (c : Nat) (n : Nat) (hx : a.eval x = .slice (some ad) 1 c) (hnew : w.cell? ad = some (.int .i64 (n : Int)))
    (hsz : l.length ≤ 1000000) (hB : B ≤ w.heap.size)
    (h : ∀ v' w', OwnN B w' v' (l ++ [n]) → Below B w w' → w.grownBy w' v.ownBlock → wpList Tryz.prog ops Q rest (a.put o.dst v') w') : wpList Tryz.prog ops Q (o :: rest) a w := by
  obtain ⟨i, hii, hz0, hz1, hz2⟩ := info3
  refine wpList_append_own w hgd s x 55 ho B 3 i (.int .i64 0) 1 8 Tryz.underlying55 hii hz0 hz1 hz2 rfl (by decide) v l.length _ hs hown ad 1 c [.int .i64 (n : Int)] hx (by simp) ?_ ?_ ?_ ?_ hB ?_
  · intro j u hj
    obtain ⟨hlt, he⟩ := List.getElem?_eq_some_iff.1 hj
    simp at hlt
    subst hlt
    simp at he
    subst he
    have hadd : ad.add 0 = ad := by
      obtain ⟨b, o, s⟩ := ad
      cases s <;> rfl
    rw [hadd]; exact hnew
  · intro u hu
    simp at hu
    subst hu
    rfl
  · unfold maxLen; omega
  · omega
  · intro v' w' h1 h2 h3
    refine h v' w' ?_ ((Below.refl _ w).grown h2 hB (OwnN.block hown)) h2
    unfold OwnN
    rw [List.map_append, List.length_append]
    exact h1
end
theorem new_num (w : World) (n : Int) : (w.alloc (.cells #[.int .i64 n] 3)).cell? ⟨w.heap.size, 0, none⟩ = some (.int .i64 n) := by
  simp only [World.cell?, heap_alloc_last]
  rfl
end Go.Proofs.YthgjdcomanabiaaGreatDoor

namespace Go.Proofs.YthgjdcomanabiaaGreatDoor
open Go.ChangeShapes Go.WideShapes Go.ChangeAt Go.RowKit
set_option linter.unusedVariables false

theorem OwnN.mono {B B' : Nat} {w : World} {v : Value} {l : List Nat} (h : OwnN B w v l) (hB : B' ≤ B) : OwnN B' w v l := by
  obtain ⟨hl, h⟩ := h
  refine ⟨hl, ?_⟩
  rcases h with h | ⟨g, cap, cur, hv, hg, h⟩
  · exact .inl h
  · exact .inr ⟨g, cap, cur, hv, Nat.le_trans hB hg, h⟩
theorem cell_lt' {w : World} {g j : Nat} {v : Value} (h : w.cell? ⟨g, j, none⟩ = some v) : g < w.heap.size := by
  cases hh : w.heap[g]? with
  | none => simp [World.cell?, hh] at h
  | some o => exact (Array.getElem?_eq_some_iff.1 hh).1
theorem sort_len (l : List ByteArray) : ∀ ss : List ByteArray, (l.foldl sortStep ss).length ≤ ss.length + l.length := by
  induction l with
  | nil => intro ss; simp
  | cons a r ih =>
    intro ss
    have h1 : (sortStep ss a).length ≤ ss.length + 1 := by
      unfold sortStep
      split
      · omega
      · simp only [List.length_append, List.length_take, List.length_drop, List.length_cons, List.length_nil]; omega
    have h2 := ih (sortStep ss a)
    simp only [List.foldl_cons, List.length_cons]
    omega
theorem sortB_len (l : List ByteArray) : (sortB l).length ≤ l.length := by
  have := sort_len l []
  simpa [sortB] using this

set_option maxRecDepth 100000 in
set_option maxHeartbeats 4000000 in
theorem specPicked {S : Nat → Prop} {B : Nat} {l : List Rel} {bs : List Bool} {v u : Value} {w : World} (hS : ∀ b, S b → b < w.heap.size) (hR : RelsAt S w v l) (hBs : Bools B w u bs) (hlen : bs.length = l.length) (hl : l.length ≤ 200) :
    Calls Tryz.prog 55 #[v, u] w fun e w' => (∃ p, e = .returned p ∧ OwnN w.heap.size w' p ((sortB (namesUp l bs l.length)).map (bestN l bs))) ∧ Below w.heap.size w w' := by
  obtain ⟨gb, hgB, rfl, hbk⟩ := hBs
  have hgbw := hbk.lt
  rw [hlen]
  obtain ⟨hlm, a, cap, rfl, hc⟩ := hR
  have HC : Hid _ := hc
  have HS : Hid _ := hS
  have hl' : (l.length : Int) ≤ 200 := by omega
  have HLEN : Hid (bs.length = l.length) := hlen
  have hcb : ∀ i (hi : i < bs.length), w.cell? ⟨gb, i, none⟩ = some (.bool bs[i]) := fun i hi => by rw [hbk.cell i, bools_get, List.getElem?_eq_getElem hi]; rfl
  have HCB : Hid _ := hcb
  clear hc hS hlen hcb hbk hlm
  have hw1 : ∀ o, Below w.heap.size w (w.alloc o) := fun o => (Below.refl _ w).alloc (Nat.le_refl _) _
  obtain ⟨NS, hNS⟩ : ∃ NS, namesUp l bs l.length = NS := ⟨_, rfl⟩
  have HNS : Hid (namesUp l bs l.length = NS) := hNS
  rw [hNS]
  have hNSl : NS.length ≤ 200 := by
    rw [← hNS]; unfold namesUp; rw [List.length_map]; exact Nat.le_trans (List.length_filter_le _ _) (by simp; omega)
  have hSl := sortB_len NS
  obtain ⟨SS, hSS⟩ : ∃ SS, sortB NS = SS := ⟨_, rfl⟩
  have hSSm : ∀ t ∈ SS, ∃ i, isB l bs t i = true ∧ i < l.length := fun t ht => by
    rw [← hSS, sortB_mem, ← HNS.out] at ht
    exact (names_mem HLEN.out t).1 ht
  have HSSM : Hid (∀ t ∈ SS, ∃ i, isB l bs t i = true ∧ i < l.length) := hSSm
  have HSS : Hid (sortB NS = SS) := hSS
  rw [hSS] at hSl ⊢
  clear hNS hSS hSSm
  go_enter Tryz.func55, Tryz.ntmps55
  go_wp2_with fail
  go_loopw [5, 6] (fun i5 i6 wr => ∃ (k : Nat), i6 = .int .i64 (k : Int) ∧ k ≤ l.length ∧ OwnS w.heap.size wr i5 (namesUp l bs k) ∧ Below w.heap.size w wr) (fun _ i6 _ => l.length - (intOf i6).toNat)
  case atStart => exact ⟨0, rfl, by omega, ⟨rfl, .inr ⟨w.heap.size, 0, #[], rfl, Nat.le_refl _, heap_alloc_last w _, Nat.le_refl _, Nat.zero_le _, rfl, rfl⟩⟩, hw1 _⟩
  case round =>
    obtain ⟨k, rfl, hk, hown, hb⟩ := hrel
    have HOW : Hid (OwnS w.heap.size wr u5 (namesUp l bs k)) := hown
    clear hown
    by_cases hkn : k < l.length
    · have hkn' : (k : Int) < (l.length : Int) := by omega
      obtain ⟨b, off, rfl, hbB, hcell⟩ := HC.out (by omega)
      have hbw : b < w.heap.size := HS.out b hbB
      obtain ⟨y1, _, _, _, _⟩ := hcell k hkn
      have f1 := (hb.cell (p := ⟨b, off + k * 3, none⟩) hbw).trans y1
      have f2 := (hb.cell (p := ⟨gb, k, none⟩) hgbw).trans (HCB.out k (by have := HLEN.out; omega))
      have hsn := namesUp_snoc (l := l) (bs := bs) hkn (by have := HLEN.out; omega)
      obtain ⟨zn, hzn⟩ : ∃ z, l[k].name = z := ⟨_, rfl⟩
      rw [hzn] at f1 hsn
      obtain ⟨bk, hbk⟩ : ∃ z, bs[k]'(by have := HLEN.out; omega) = z := ⟨_, rfl⟩
      rw [hbk] at f2 hsn
      have HSN : Hid _ := hsn
      clear hzn hbk y1 hcell hsn
      cases bk
      · go_wp2_with fail
        refine ⟨⟨k + 1, rfl, by omega, ?_, hb⟩, by simp [intOf]; omega⟩
        rw [HSN.out]; exact HOW.out
      · obtain ⟨ti, hti, ht0, ht1, ht2⟩ := info9
        go_wp2_with (at_builtin; go_must (refine wpList_appendS rfl (.tmp 22) (.tmp 28) 40 rfl Tryz.underlying40 ti hti ht0 ht1 ht2 w.heap.size u5 (namesUp l bs k) rfl (OwnS.below HOW.out ((Below.refl _ wr).alloc (Nat.le_refl _) _)) ⟨wr.heap.size, 0, none⟩ 1 zn rfl (new_cell wr zn) (by have : (namesUp l bs k).length ≤ 200 := (by unfold namesUp; rw [List.length_map]; exact Nat.le_trans (List.length_filter_le _ _) (by simp; omega)); omega) (by have := hb.size; simp only [World.size_alloc]; omega) ?_; intro v4 w4 hown4 hB4 hgr4))
        refine ⟨⟨k + 1, rfl, by omega, ?_, (hb.alloc hb.size _).trans hB4⟩, by simp [intOf]; omega⟩
        rw [HSN.out]; exact hown4
    · obtain rfl : k = l.length := by omega
      have hkn' : ¬ ((l.length : Int) < (l.length : Int)) := by omega
      have HO2 : Hid (OwnS w.heap.size wr u5 NS) := by rw [← HNS.out]; exact HOW.out
      obtain ⟨a5, c5, hv5, _⟩ := (show OwnS w.heap.size wr u5 NS from HO2.out).value
      subst hv5
      have cs := specSort HO2.out (by omega)
      rw [HSS.out] at cs
      go_wp2_with (go_at_call 78; go_must (refine cs.mono ?_; rintro e w1 ⟨⟨p5, rfl, ho5⟩, hb1⟩; obtain ⟨a6, c6, rfl, hs6⟩ := ho5.value; have HO5 : Hid _ := ho5; have HS6 : Hid _ := hs6; clear ho5 hs6))
      have hbA := good_below hb hb1
      clear cs
      go_loopw [7, 8] (fun i7 i8 wx => ∃ (k : Nat), i8 = .int .i64 (k : Int) ∧ k ≤ SS.length ∧ OwnN w1.heap.size wx i7 ((SS.take k).map (bestN l bs)) ∧ Below w1.heap.size w1 wx) (fun _ i8 _ => SS.length - (intOf i8).toNat)
      case atStart => exact ⟨0, rfl, by omega, ⟨rfl, .inr ⟨w1.heap.size, 0, #[], rfl, Nat.le_refl _, heap_alloc_last w1 _, Nat.le_refl _, Nat.zero_le _, rfl, rfl⟩⟩, (Below.refl _ w1).alloc (Nat.le_refl _) _⟩
      case round =>
        obtain ⟨k, rfl, hk, hown, hbx⟩ := hrel
        obtain ⟨wx, hwx⟩ : ∃ wx, wx = wr := ⟨_, rfl⟩
        subst hwx
        have HOW2 : Hid (OwnN w1.heap.size wx u7 ((SS.take k).map (bestN l bs))) := hown
        have hbW := good_below hbA hbx
        clear hown
        by_cases hkn : k < SS.length
        · have hkn' : (k : Int) < (SS.length : Int) := by omega
          obtain ⟨g6, rfl, hc6⟩ := HS6.out (by omega)
          have hg6 := cell_lt' (hc6 0 (by omega))
          have t1 := (hbx.cell (p := ⟨g6, k, none⟩) hg6).trans (hc6 k hkn)
          obtain ⟨t, ht⟩ : ∃ t, SS[k] = t := ⟨_, rfl⟩
          have HTM : Hid (t ∈ SS) := ht ▸ List.getElem_mem hkn
          have HTK : Hid (SS.take (k + 1) = SS.take k ++ [t]) := (show SS.take (k + 1) = SS.take k ++ [t] from by rw [List.take_succ_eq_append_getElem hkn, ht])
          rw [ht] at t1
          clear ht hc6
          go_wp2_with fail
          go_loopw [9, 10] (fun i9 i10 wy => ∃ (j : Nat), i10 = .int .i64 (j : Int) ∧ i9 = .int .i64 (idxV (bestUp l bs t j)) ∧ j ≤ l.length ∧ Below wx.heap.size wx wy) (fun _ i10 _ => l.length - (intOf i10).toNat)
          case atStart => exact ⟨0, rfl, rfl, by omega, Below.refl _ _⟩
          case round =>
            obtain ⟨j, rfl, rfl, hj, hby⟩ := hrel
            have hbd : ∀ n, Below wx.heap.size wx (wr.drewN n) := fun n => bel_drewN hby n
            have hbz := good_below hbW hby
            by_cases hjn : j < l.length
            · have hjn' : (j : Int) < (l.length : Int) := by omega
              obtain ⟨b, off, rfl, hbB, hcell⟩ := HC.out (by omega)
              have hbw : b < w.heap.size := HS.out b hbB
              obtain ⟨y1, y2, _, _, _⟩ := hcell j hjn
              have f1 := (hbz.cell (p := ⟨b, off + j * 3, none⟩) hbw).trans y1
              have f2 := (hbz.cell (p := ⟨b, off + j * 3 + 1, none⟩) hbw).trans y2
              have f3 := (hbz.cell (p := ⟨gb, j, none⟩) hgbw).trans (HCB.out j (by have := HLEN.out; omega))
              have t2 := (hby.cell (p := ⟨g6, k, none⟩) (Nat.lt_of_lt_of_le hg6 hbx.size)).trans t1
              obtain ⟨zn, hzn⟩ : ∃ z, l[j].name = z := ⟨_, rfl⟩
              obtain ⟨zv, hzv⟩ : ∃ z, l[j].ver = z := ⟨_, rfl⟩
              obtain ⟨bj, hbj⟩ : ∃ z, bs[j]'(by have := HLEN.out; omega) = z := ⟨_, rfl⟩
              have his : isB l bs t j = (bj && zn.toList == t.toList) := by
                unfold isB
                rw [List.getElem?_eq_getElem hjn, List.getElem?_eq_getElem (show j < bs.length by have := HLEN.out; omega), hbj]
                cases bj
                · rfl
                · dsimp only; rw [hzn]; rfl
              have HIS : Hid _ := his
              have HZV : Hid (l[j].ver = zv) := hzv
              rw [hzn] at f1
              rw [hzv] at f2
              rw [hbj] at f3
              have HCELL : Hid _ := hcell
              clear hzn hzv hbj his y1 y2 hcell
              obtain ⟨R, hRR⟩ : ∃ R, bestUp l bs t j = R := ⟨_, rfl⟩
              have HRR : Hid (bestUp l bs t j = R) := hRR
              rw [hRR]
              clear hRR
              cases bj
              · go_wp2_with fail
                go_quiet (fail)
                go_wp2_with fail
                refine ⟨⟨j + 1, rfl, ?_, by omega, hbd _⟩, by simp [intOf]; omega⟩
                rw [bestUp_no hjn (by rw [HIS.out]; rfl), HRR.out]
              cases hcn : zn.toList == t.toList
              · go_wp2_with fail
                go_quiet (fail)
                go_wp2_with fail
                refine ⟨⟨j + 1, rfl, ?_, by omega, hbd _⟩, by simp [intOf]; omega⟩
                rw [bestUp_no hjn (by rw [HIS.out, hcn]; rfl), HRR.out]
              · have HIT : Hid (isB l bs t j = true) := (show isB l bs t j = true from by rw [HIS.out, hcn]; rfl)
                cases R with
                | none =>
                  simp only [idxV]
                  go_wp2_with fail
                  go_quiet (fail)
                  go_wp2_with fail
                  refine ⟨⟨j + 1, rfl, ?_, by omega, hbd _⟩, by simp [intOf]; omega⟩
                  rw [bestUp_first hjn HIT.out HRR.out]
                | some q =>
                  have hql := (bestUp_lt _ _ _ _ _ HRR.out).2.1
                  have hql' : (q : Int) < (l.length : Int) := by omega
                  have hq0 : decide ((q : Int) < 0) = false := decide_eq_false (by omega)
                  obtain ⟨y1, y2, _, _, _⟩ := HCELL.out q hql
                  have f4 := (hbz.cell (p := ⟨b, off + q * 3 + 1, none⟩) hbw).trans y2
                  obtain ⟨zq, hzq⟩ : ∃ z, l[q].ver = z := ⟨_, rfl⟩
                  rw [hzq] at f4
                  have HZQ : Hid (l[q].ver = zq) := hzq
                  clear y1 y2 hzq
                  simp only [idxV]
                  by_cases hless : zq < zv
                  · have hG2 : decide (zq < zv) = true := decide_eq_true hless
                    go_wp2_with fail
                    go_quiet (fail)
                    go_wp2_with fail
                    refine ⟨⟨j + 1, rfl, ?_, by omega, hbd _⟩, by simp [intOf]; omega⟩
                    rw [bestUp_more hjn hql HIT.out HRR.out (by rw [HZV.out, HZQ.out]; omega)]
                  · have hG2 : decide (zq < zv) = false := decide_eq_false hless
                    go_wp2_with fail
                    go_quiet (fail)
                    go_wp2_with fail
                    refine ⟨⟨j + 1, rfl, ?_, by omega, hbd _⟩, by simp [intOf]; omega⟩
                    rw [bestUp_less hjn hql HIT.out HRR.out (by rw [HZV.out, HZQ.out]; omega)]
            · obtain rfl : j = l.length := by omega
              have hjn' : ¬ ((l.length : Int) < (l.length : Int)) := by omega
              obtain ⟨i0, hi0, hil0⟩ := HSSM.out t HTM.out
              obtain ⟨q, hq, _⟩ := bestUp_some l.length i0 hil0 hil0 hi0
              rw [hq]
              have hqn : bestN l bs t = q := by unfold bestN bestB; rw [hq]; rfl
              have HQN : Hid (bestN l bs t = q) := hqn
              clear hq hqn hi0
              simp only [idxV]
              have HOW3 : Hid (OwnN w1.heap.size wr u7 ((SS.take k).map (bestN l bs))) := OwnN.below HOW2.out hby
              go_wp2_with (at_builtin; go_must (refine wpList_appendN rfl (.tmp 79) (.tmp 81) rfl w1.heap.size u7 ((SS.take k).map (bestN l bs)) rfl (OwnN.below HOW3.out ((Below.refl _ wr).alloc (Nat.le_refl _) _)) ⟨wr.heap.size, 0, none⟩ 1 q rfl (new_num wr _) (by simp; omega) (by have := hbx.size; have := hby.size; simp only [World.size_alloc]; omega) ?_; intro v4 w4 hown4 hB4 hgr4))
              have hbb := good_below hbx hby
              refine ⟨⟨k + 1, rfl, by omega, ?_, (hbb.alloc hbb.size _).trans hB4⟩, by simp [intOf]; omega⟩
              rw [HTK.out, List.map_append]
              have := HQN.out
              simp only [List.map_cons, List.map_nil, this]
              exact hown4
        · obtain rfl : k = SS.length := by omega
          have hkn' : ¬ ((SS.length : Int) < (SS.length : Int)) := by omega
          have HOW3 : Hid (OwnN w1.heap.size wx u7 (SS.map (bestN l bs))) := (show OwnN w1.heap.size wx u7 (SS.map (bestN l bs)) from by have := HOW2.out; rwa [List.take_length] at this)
          go_wp2_with fail
          go_ret
          exact ⟨⟨u7, rfl, OwnN.mono HOW3.out hbA.size⟩, hbW⟩
end Go.Proofs.YthgjdcomanabiaaGreatDoor

namespace Go.Proofs.YthgjdcomanabiaaGreatDoor
open Go.ChangeShapes Go.WideShapes Go.ChangeAt Go.RowKit Go.Sort
set_option linter.unusedVariables false

/-- By name, then by version. -/
def cmpP (x y : Pk) : Int := if cmpT x.name y.name = 0 then Lib.compareInt x.ver y.ver else cmpT x.name y.name

theorem two_new (w : World) (a b : Int) (g : Nat) (hg : g = w.heap.size) : (w.alloc (.cells #[.int .i64 a, .int .i64 b] 3)).drew.cell? ⟨g, 0, none⟩ = some (.int .i64 a) ∧ (w.alloc (.cells #[.int .i64 a, .int .i64 b] 3)).drew.cell? ⟨g, 1, none⟩ = some (.int .i64 b) := by
  subst hg
  have h : Blk (w.alloc (.cells #[.int .i64 a, .int .i64 b] 3)) w.heap.size 3 #[.int .i64 a, .int .i64 b] := heap_alloc_last w _
  exact ⟨h.cell 0, h.cell 1⟩
set_option maxRecDepth 100000 in
set_option maxHeartbeats 4000000 in
theorem implCmpP (x y : Pk) (g1 g2 : Nat) (W : World) (h1 : W.cell? ⟨g1, 0, none⟩ = some (.func (.func 60) #[] #[])) (h2 : W.cell? ⟨g2, 0, none⟩ = some (.func (.func 61) #[] #[])) :
    Calls Tryz.prog 100 #[.agg #[.string x.name, .int .i64 x.ver], .agg #[.string y.name, .int .i64 y.ver], .pointer (some ⟨g1, 0, none⟩), .pointer (some ⟨g2, 0, none⟩)] W fun e w' => e = .returned (.int .i64 (cmpP x y)) ∧ Grew W w' := by
  obtain ⟨xn, xv⟩ := x
  obtain ⟨yn, yv⟩ := y
  dsimp only
  unfold cmpP
  dsimp only
  obtain ⟨A, hA⟩ : ∃ A, cmpT xn yn = A := ⟨_, rfl⟩
  obtain ⟨Bv, hB⟩ : ∃ B, Lib.compareInt xv yv = B := ⟨_, rfl⟩
  have c77 := fun w => implCmpS xn yn w
  have c78 := fun w => Tryz.cmp_Compare_int xv yv w
  rw [hA] at c77 ⊢
  rw [hB] at c78 ⊢
  clear hA hB
  have c76 := fun g w h0 h1 => implOr A Bv g w h0 h1
  obtain ⟨R, hR⟩ : ∃ R, (if A = 0 then Bv else A) = R := ⟨_, rfl⟩
  rw [hR] at c76 ⊢
  clear hR
  have l1 : g1 < W.heap.size := cell_lt' h1
  have l2 : g2 < W.heap.size := cell_lt' h2
  have hbA : Below W.heap.size W ((W.alloc (.cells #[.string xn, .int .i64 xv] 74)).alloc (.cells #[.string yn, .int .i64 yv] 74)) := ((Below.refl _ W).alloc (Nat.le_refl _) _).alloc (by simp) _
  have b1 : Blk ((W.alloc (.cells #[.string xn, .int .i64 xv] 74)).alloc (.cells #[.string yn, .int .i64 yv] 74)) W.heap.size 74 #[.string xn, .int .i64 xv] := Blk.below (show Blk (W.alloc (.cells #[.string xn, .int .i64 xv] 74)) W.heap.size 74 #[.string xn, .int .i64 xv] from heap_alloc_last W _) ((Below.refl _ _).alloc (Nat.le_refl _) _)
  have b2 : Blk ((W.alloc (.cells #[.string xn, .int .i64 xv] 74)).alloc (.cells #[.string yn, .int .i64 yv] 74)) (W.heap.size + 1) 74 #[.string yn, .int .i64 yv] := by
    have := heap_alloc_last (W.alloc (.cells #[.string xn, .int .i64 xv] 74)) (.cells #[.string yn, .int .i64 yv] 74)
    rwa [World.size_alloc] at this
  have kp : ∀ w', Grew ((W.alloc (.cells #[.string xn, .int .i64 xv] 74)).alloc (.cells #[.string yn, .int .i64 yv] 74)) w' → w'.cell? ⟨g1, 0, none⟩ = some (.func (.func 60) #[] #[]) ∧ w'.cell? ⟨g2, 0, none⟩ = some (.func (.func 61) #[] #[]) ∧ w'.cell? ⟨W.heap.size, 0, none⟩ = some (.string xn) ∧ w'.cell? ⟨W.heap.size, 1, none⟩ = some (.int .i64 xv) ∧ w'.cell? ⟨W.heap.size + 1, 0, none⟩ = some (.string yn) ∧ w'.cell? ⟨W.heap.size + 1, 1, none⟩ = some (.int .i64 yv) := fun w' hg => by
    have hB := hg.below
    have hC := good_below hbA hB
    have d1 := b1.below hB
    have d2 := b2.below hB
    have e0 := d1.cell 0
    have e1 := d1.cell 1
    have f0 := d2.cell 0
    have f1 := d2.cell 1
    simp at e0 e1 f0 f1
    exact ⟨(hC.cell (p := ⟨g1, 0, none⟩) l1).trans h1, (hC.cell (p := ⟨g2, 0, none⟩) l2).trans h2, e0, e1, f0, f1⟩
  have KP : Hid _ := kp
  have HG0 : Grew W ((W.alloc (.cells #[.string xn, .int .i64 xv] 74)).alloc (.cells #[.string yn, .int .i64 yv] 74)) := ((Grew.refl W).alloc _).alloc _
  clear kp b1 b2 hbA
  go_enter Tryz.func100, Tryz.ntmps100
  go_wp2_with fail
  go_region_held3 (fun w' => w'.cell? ⟨g1, 0, none⟩ = some (.func (.func 60) #[] #[]) ∧ w'.cell? ⟨g2, 0, none⟩ = some (.func (.func 61) #[] #[]) ∧ w'.cell? ⟨W.heap.size, 0, none⟩ = some (.string xn) ∧ w'.cell? ⟨W.heap.size, 1, none⟩ = some (.int .i64 xv) ∧ w'.cell? ⟨W.heap.size + 1, 0, none⟩ = some (.string yn) ∧ w'.cell? ⟨W.heap.size + 1, 1, none⟩ = some (.int .i64 yv)) (first | (refine KP.out _ ?_; repeat (first | exact Grew.refl _ | apply Grew.alloc | apply Grew.drew))) (first
    | (go_at_call 60; refine (implPkName _ _ _).mono ?_; rintro e w' ⟨rfl, rfl⟩)
    | (go_at_call 61; refine (implPkVer _ _ _).mono ?_; rintro e w' ⟨rfl, rfl⟩)
    | (go_at_call 102; refine (c77 _).mono ?_; rintro e w' ⟨rfl, rfl⟩)
    | (go_at_call 103; refine (c78 _).mono ?_; rintro e w' ⟨rfl, rfl⟩)
    | (go_at_call 101; refine (c76 _ _ (two_new _ A Bv _ (by simp)).1 (two_new _ A Bv _ (by simp)).2).mono ?_; rintro e w' ⟨rfl, rfl⟩))
  all_goals go_wp2_with fail
  all_goals go_ret
  all_goals refine ⟨rfl, HG0.trans ?_⟩
  all_goals repeat (first | exact Grew.refl _ | apply Grew.alloc | apply Grew.drew)
end Go.Proofs.YthgjdcomanabiaaGreatDoor

namespace Go.Proofs.YthgjdcomanabiaaGreatDoor
open Go.ChangeShapes Go.WideShapes Go.ChangeAt Go.RowKit
open Go.Sort (grow putRow putCells mapBlock onCells heap_grow_old ahead HoldsK flatK get_flatK size_flatK putRowK PermIn SortedIn SWO)
set_option linter.unusedVariables false

section
variable {α : Type} [Inhabited α]
set_option linter.unusedSectionVars false
set_option linter.unusedSimpArgs false
theorem flat_get {enc : α → List Value} {k : Nat} (hk : ∀ x, (enc x).length = k) (h0 : 0 < k) : ∀ (l : List α) (t : Nat) (h : t < l.length * k), (l.flatMap enc)[t]? = (enc (l[t / k]'(Nat.div_lt_of_lt_mul (by rwa [Nat.mul_comm] at h))))[t % k]? := by
  intro l
  induction l with
  | nil => intro t h; simp at h
  | cons a r ih =>
    intro t h
    rw [List.flatMap_cons]
    by_cases ht : t < k
    · rw [List.getElem?_append_left (by rw [hk]; exact ht)]
      have e1 : t / k = 0 := Nat.div_eq_of_lt ht
      have e2 : t % k = t := Nat.mod_eq_of_lt ht
      simp only [e1, e2, List.getElem_cons_zero]
    · rw [List.getElem?_append_right (by rw [hk]; omega), hk]
      have hr : t - k < r.length * k := by
        simp only [List.length_cons, Nat.add_mul, Nat.one_mul] at h
        omega
      rw [ih (t - k) hr]
      have e1 : t / k = (t - k) / k + 1 := by
        rw [show t = (t - k) + k by omega, Nat.add_div_right _ h0]
        simp
      have e2 : t % k = (t - k) % k := by
        conv => lhs; rw [show t = (t - k) + k by omega]
        simp
      simp only [e1, e2, List.getElem_cons_succ]
theorem flat_len {enc : α → List Value} {k : Nat} (hk : ∀ x, (enc x).length = k) (l : List α) : (l.flatMap enc).length = l.length * k := by
  induction l with
  | nil => simp
  | cons a r ih => simp only [List.flatMap_cons, List.length_append, List.length_cons, hk, ih, Nat.add_mul, Nat.one_mul]; omega
theorem flatK_list {enc : α → List Value} {k : Nat} (hk : ∀ x, (enc x).length = k) (h0 : 0 < k) (l : List α) : (flatK enc k l.toArray).toList = l.flatMap enc := by
  apply List.ext_getElem?
  intro t
  by_cases ht : t < l.length * k
  · have hd : t / k < l.length := Nat.div_lt_of_lt_mul (by rwa [Nat.mul_comm] at ht)
    rw [flat_get hk h0 l t ht]
    have hg := get_flatK enc k l.toArray t (by simpa using ht)
    have hs : t < (flatK enc k l.toArray).size := by rw [size_flatK]; simpa using ht
    rw [getElem!_pos _ t hs] at hg
    rw [Array.getElem?_toList, Array.getElem?_eq_getElem hs, hg]
    have hm : t % k < k := Nat.mod_lt _ h0
    have e1 : l.toArray[t / k]! = l[t / k] := by rw [getElem!_pos _ _ (by simpa using hd)]; simp
    rw [e1, List.getElem?_eq_getElem (by rw [hk]; exact hm), getElem!_pos _ _ (by rw [hk]; exact hm)]
  · rw [List.getElem?_eq_none (by rw [Array.length_toList, size_flatK]; simpa using ht), List.getElem?_eq_none (by rw [flat_len hk]; omega)]
theorem holdsK_of_block {enc : α → List Value} {k : Nat} (hk : ∀ x, (enc x).length = k) (h0 : 0 < k) {w : World} {g : Nat} {cur : Array Value} {e : TypeId} {l : List α} (hb : w.heap[g]? = some (.cells cur e (0, 0))) (ht : cur.toList.take (l.length * k) = l.flatMap enc) : HoldsK enc k w g 0 l.toArray := by
  intro j hj
  have hj' : j < l.length * k := by simpa [size_flatK] using hj
  refine ⟨?_, by simp [World.frozen?, hb]⟩
  have h1 : (cur.toList.take (l.length * k))[j]? = (flatK enc k l.toArray).toList[j]? := by rw [ht, flatK_list hk h0]
  rw [List.getElem?_take_of_lt hj'] at h1
  simp only [World.cell?, hb, Nat.zero_add]
  simp only [Option.isSome_none, Bool.false_eq_true, if_false]
  rw [← Array.getElem?_toList, h1, Array.getElem?_toList, Array.getElem?_eq_getElem hj, getElem!_pos (flatK enc k l.toArray) j hj]
  rfl
theorem heap_sortedK {enc : α → List Value} {k : Nat} {w : World} {g n : Nat} {os : Array Obj} {cur : Array Value} {e : TypeId} {fr : Nat × Nat} (d : Array α) (hb : w.heap[g]? = some (.cells cur e fr)) :
    (sortWorldK enc k w g 0 n d os).heap[g]? = some (.cells (putCells id 0 (flatK enc k d) cur) e fr) := by
  have hg : g < w.heap.size := (Array.getElem?_eq_some_iff.1 hb).1
  unfold sortWorldK putRowK
  rw [heap_grow_old _ _ (by simpa using hg)]
  simp [putRow, mapBlock, ahead, Array.getElem?_modify, hb, onCells]
theorem grownBy_sortedK {enc : α → List Value} {k : Nat} {w : World} {g n : Nat} {os : Array Obj} (d : Array α) : w.grownBy (sortWorldK enc k w g 0 n d os) (some g) := by
  refine ⟨rfl, rfl, rfl, by simp [sortWorldK, putRowK], fun i hi hne => ?_⟩
  unfold sortWorldK putRowK
  rw [heap_grow_old _ _ (by simpa using hi)]
  have : g ≠ i := fun e => hne (by rw [e])
  simp [putRow, mapBlock, ahead, Array.getElem?_modify, this]
theorem take_putK {enc : α → List Value} {k : Nat} (hk : ∀ x, (enc x).length = k) (h0 : 0 < k) (cur : Array Value) (l : List α) (h : l.length * k ≤ cur.size) : (putCells id 0 (flatK enc k l.toArray) cur).toList.take (l.length * k) = l.flatMap enc := by
  rw [← flatK_list hk h0]
  apply List.ext_getElem?
  intro j
  by_cases hj : j < l.length * k
  · have hs : j < (flatK enc k l.toArray).size := by rw [size_flatK]; simpa using hj
    rw [List.getElem?_take_of_lt hj, Array.getElem?_toList]
    simp only [putCells, Array.getElem?_mapIdx, Nat.zero_le, true_and, Nat.zero_add, hs, if_true, Nat.sub_zero]
    rw [Array.getElem?_eq_getElem (show j < cur.size by omega), Array.getElem?_toList, Array.getElem?_eq_getElem hs, getElem!_pos (flatK enc k l.toArray) j hs]
    rfl
  · rw [List.getElem?_take_eq_none (by omega), List.getElem?_eq_none (by rw [Array.length_toList, size_flatK]; simpa using hj)]
theorem ownsRow_sortedK {enc : α → List Value} {k : Nat} (hk : ∀ x, (enc x).length = k) (h0 : 0 < k) {w : World} {base g cap n m : Nat} {e : TypeId} {os : Array Obj} {cur : Array Value} {l : List α} (hl : l.length = m) (hbase : base ≤ g) (hb : w.heap[g]? = some (.cells cur e (0, 0)))
    (h1 : m ≤ cap) (h2 : cap ≤ maxLen) (h3 : cur.size = cap * k) : (sortWorldK enc k w g 0 n l.toArray os).ownsRow base e k (.slice (some ⟨g, 0, none⟩) m cap) m (l.flatMap enc) :=
  ⟨by rw [flat_len hk, hl], .inr ⟨g, cap, _, rfl, hbase, heap_sortedK _ hb, h1, h2, by simp [putCells, h3], by rw [← hl]; exact take_putK hk h0 cur l (by rw [h3, hl]; exact Nat.mul_le_mul_right k h1)⟩⟩
end

/-- The order of releases: by name, then by version. -/
def pkLess (x y : Pk) : Bool := lessB x.name y.name || (decide (x.name = y.name) && decide (x.ver < y.ver))
theorem ltP (x y : Pk) : ltOf cmpP x y = pkLess x y := by
  unfold ltOf cmpP pkLess cmpT Lib.compareInt
  by_cases hn : x.name = y.name
  · rw [hn, lessB_irrefl]
    simp only [Bool.false_eq_true, if_false, if_true, decide_true, Bool.true_and, Bool.false_or]
    by_cases h1 : x.ver < y.ver
    · simp [h1]
    · by_cases h2 : y.ver < x.ver <;> simp [h1, h2]
  · cases hl : lessB x.name y.name <;> simp [hn]
theorem pkLess_irrefl (x : Pk) : pkLess x x = false := by simp [pkLess, lessB_irrefl]
theorem pkLess_iff (x y : Pk) : pkLess x y = true ↔ lessB x.name y.name = true ∨ (x.name = y.name ∧ x.ver < y.ver) := by simp [pkLess]
theorem pkLess_trans {x y z : Pk} (h : pkLess x y = true) (k : pkLess y z = true) : pkLess x z = true := by
  rw [pkLess_iff] at *
  rcases h with h | ⟨h1, h2⟩ <;> rcases k with k | ⟨k1, k2⟩
  · exact .inl (lessB_trans h k)
  · exact .inl (k1 ▸ h)
  · exact .inl (h1 ▸ k)
  · exact .inr ⟨h1.trans k1, by omega⟩
theorem pkLess_total {x y : Pk} (h : x ≠ y) : pkLess x y = true ∨ pkLess y x = true := by
  rw [pkLess_iff, pkLess_iff]
  by_cases hn : x.name = y.name
  · have hv : x.ver ≠ y.ver := fun e => h (by cases x; cases y; simp_all)
    rcases Int.lt_or_gt_of_ne hv with q | q
    · exact .inl (.inr ⟨hn, q⟩)
    · exact .inr (.inr ⟨hn.symm, q⟩)
  · rcases lessB_total hn with q | q
    · exact .inl (.inl q)
    · exact .inr (.inl q)
theorem swoP : SWO (ltOf cmpP) where
  irrefl x := by rw [ltP]; exact pkLess_irrefl x
  trans x y z h1 h2 := by rw [ltP] at *; exact pkLess_trans h1 h2
  ntrans x y z h1 h2 := by
    rw [ltP] at *
    cases h : pkLess x z
    · rfl
    · by_cases e : x = y
      · subst e; rw [h] at h2; cases h2
      · rcases pkLess_total e with q | q
        · rw [q] at h1; cases h1
        · rw [pkLess_trans q h] at h2; cases h2
end Go.Proofs.YthgjdcomanabiaaGreatDoor

namespace Go.Proofs.YthgjdcomanabiaaGreatDoor
open Go.ChangeShapes Go.WideShapes Go.ChangeAt Go.RowKit
open Go.Sort (grow putRow putCells mapBlock onCells heap_grow_old ahead HoldsK flatK get_flatK size_flatK putRowK PermIn SortedIn SWO)
set_option linter.unusedVariables false

instance : Inhabited Pk := ⟨⟨⟨#[]⟩, 0⟩⟩
/-- What a sort leaves: the same releases, in their order. -/
structure Sorted (l l' : List Pk) : Prop where
  perm : l'.Perm l
  rises : l'.Pairwise fun x y => pkLess y x = false
theorem sorted_of {l : List Pk} {d' : Array Pk} (hp : PermIn 0 l.toArray.size l.toArray d') (hs : SortedIn (ltOf cmpP) 0 l.toArray.size d') : Sorted l d'.toList := by
  obtain ⟨h1, _, h3⟩ := hp
  refine ⟨?_, ?_⟩
  · rw [← h1] at h3
    conv at h3 => lhs; rw [Array.extract_size]
    rw [h1, Array.extract_size] at h3
    simpa using h3
  · rw [List.pairwise_iff_getElem]
    intro i j hi hj hij
    simp only [Array.length_toList] at hi hj
    have := hs i j (Nat.zero_le _) hij (by omega)
    rw [ltP, getElem!_pos d' j hj, getElem!_pos d' i hi] at this
    simpa using this

def cmpFn (g1 g2 : Nat) : Value := .func (.func 100) #[] #[.pointer (some ⟨g1, 0, none⟩), .pointer (some ⟨g2, 0, none⟩)]
/-- The two questions lie in blocks of their own. -/
def Asks (w : World) (g1 g2 : Nat) : Prop := w.cell? ⟨g1, 0, none⟩ = some (.func (.func 60) #[] #[]) ∧ w.cell? ⟨g2, 0, none⟩ = some (.func (.func 61) #[] #[])
theorem Asks.below {w w' : World} {g1 g2 : Nat} (h : Asks w g1 g2) (hb : Below w.heap.size w w') : Asks w' g1 g2 :=
  ⟨(hb.cell (p := ⟨g1, 0, none⟩) (cell_lt' h.1)).trans h.1, (hb.cell (p := ⟨g2, 0, none⟩) (cell_lt' h.2)).trans h.2⟩

theorem implSortP {B : Nat} {w : World} {v : Value} {l : List Pk} (h : OwnP B w v l) (hl : l.length ≤ 1000000) {g1 g2 : Nat} (ha : Asks w g1 g2) :
    Calls Tryz.prog 83 #[v, cmpFn g1 g2] w fun e w' => e = .returned (.tuple #[]) ∧ ∃ l', Sorted l l' ∧ OwnP B w' v l' ∧ w.grownBy w' v.ownBlock := by
  by_cases h0 : l = []
  · subst h0
    obtain ⟨a, cap, rfl, _⟩ := h.value
    refine (AnyF.slices_SortFunc_none { Tryz.sortPk with } a cap (cmpFn g1 g2) w).mono ?_
    rintro e w' ⟨rfl, rfl⟩
    exact ⟨rfl, [], ⟨List.Perm.refl _, List.Pairwise.nil⟩, h, grown_refl _ _⟩
  · have hpos : 0 < l.length := by
      cases l with
      | nil => exact absurd rfl h0
      | cons a r => simp
    obtain ⟨av, cv, hvv, hcv⟩ := h.value
    rcases h.2 with ⟨_, hz⟩ | ⟨g, cap, cur, rfl, hB, hg, hn1, hn2, hn3, hn4⟩
    · omega
    obtain ⟨g', hg', hcell⟩ := hcv hpos
    simp only [Value.slice.injEq] at hvv
    obtain ⟨rfl, _, _⟩ := hvv
    simp only [Option.some.injEq, Addr.mk.injEq, and_true] at hg'
    subst hg'
    have c0 := (hcell 0 hpos).1
    have n1 : g1 ≠ g := fun e => by
      subst e
      have := ha.1
      simp only [Nat.zero_mul] at c0
      rw [c0] at this
      cases this
    have n2 : g2 ≠ g := fun e => by
      subst e
      have := ha.2
      simp only [Nat.zero_mul] at c0
      rw [c0] at this
      cases this
    have hk : ∀ x : Pk, x.cells.length = 2 := fun _ => rfl
    have hH : HoldsK Pk.cells 2 w g 0 l.toArray := holdsK_of_block hk (by omega) hg hn4
    have eg : ∀ args w, (callFunc 100 args).run Tryz.prog w = .ok (.enter 100 args) w := enters_of Tryz.func100 (by kernel_rfl) rfl
    have hcmp : CmpLays Tryz.prog 100 #[.pointer (some ⟨g1, 0, none⟩), .pointer (some ⟨g2, 0, none⟩)] Pk.cells 2 cmpP g 0 l.toArray.size w := by
      intro m os dk _ x y
      have hgr : w.grownBy (sortWorldK Pk.cells 2 w g 0 m dk os) (some g) := grownBy_sortedK dk
      exact implCmpP x y g1 g2 _ (hgr.cell ha.1 (by simp [n1])) (hgr.cell ha.2 (by simp [n2]))
    have hcon := AnyQ.slices_SortFunc Tryz.sortPk 2 Tryz.isAgg74 Tryz.sizeOf74 Pk.cells hk (fun x v hv => by simp [Pk.cells] at hv; rcases hv with rfl | rfl <;> rfl) cmpP swoP 100 #[.pointer (some ⟨g1, 0, none⟩), .pointer (some ⟨g2, 0, none⟩)] g 0 cap l.toArray w eg hcmp hH (Array.getElem?_eq_some_iff.1 hg).1 (by simp; omega)
    refine Calls.mono hcon ?_
    rintro e w' ⟨rfl, d', n, os, hp, hs, rfl⟩
    have hsize : d'.toList.length = l.length := by rw [Array.length_toList, hp.1]; simp
    refine ⟨rfl, d'.toList, sorted_of hp hs, ?_, grownBy_sortedK d'⟩
    have := ownsRow_sortedK (n := n) (os := os) hk (by omega) hsize hB hg hn1 hn2 hn3
    unfold OwnP
    rw [hsize]
    exact this
end Go.Proofs.YthgjdcomanabiaaGreatDoor

namespace Go.Proofs.YthgjdcomanabiaaGreatDoor
open Go.ChangeShapes Go.WideShapes Go.ChangeAt Go.RowKit
set_option linter.unusedVariables false

/-- All ahead of k are less than t, none from k on is. -/
def Cut (l : List Pk) (t : Pk) (k : Nat) : Prop := k ≤ l.length ∧ (∀ i (h : i < l.length), i < k → pkLess l[i] t = true) ∧ ∀ i (h : i < l.length), k ≤ i → pkLess l[i] t = false
theorem cmp_neg (x y : Pk) : decide (cmpP x y < 0) = pkLess x y := ltP x y

set_option maxRecDepth 100000 in
set_option maxHeartbeats 4000000 in
theorem implFind {B : Nat} {w : World} {v : Value} {l : List Pk} (h : OwnP B w v l) (hl : l.length ≤ 1000000) (hs : l.Pairwise fun x y => pkLess y x = false) (t : Pk) {g1 g2 : Nat} (ha : Asks w g1 g2) :
    Calls Tryz.prog 87 #[v, .agg #[.string t.name, .int .i64 t.ver], cmpFn g1 g2] w fun e w' => (∃ (k : Nat) (b : Bool), e = .returned (.tuple #[.int .i64 (k : Int), .bool b]) ∧ Cut l t k) ∧ Below w.heap.size w w' := by
  obtain ⟨a, cap, rfl, hc⟩ := h.value
  have HC : Hid _ := hc
  have HA : Hid (Asks w g1 g2) := ha
  have HP : Hid _ := hs
  clear h hc ha hs
  unfold cmpFn
  have hl' : (l.length : Int) ≤ 1000000 := by omega
  have hw1 : ∀ o, Below w.heap.size w (w.alloc o) := fun o => (Below.refl _ w).alloc (Nat.le_refl _) _
  go_enter Tryz.func87, Tryz.ntmps87
  go_wp2_with fail
  go_loopw [9, 10] (fun i9 i10 wr => ∃ (i j : Nat), i9 = .int .i64 (i : Int) ∧ i10 = .int .i64 (j : Int) ∧ i ≤ j ∧ j ≤ l.length ∧ (∀ p (hp : p < l.length), p < i → pkLess l[p] t = true) ∧ (∀ p (hp : p < l.length), j ≤ p → pkLess l[p] t = false) ∧ Blk wr w.heap.size 74 #[.string t.name, .int .i64 t.ver] ∧ Below w.heap.size w wr) (fun i9 i10 _ => (intOf i10).toNat - (intOf i9).toNat)
  case atStart => exact ⟨0, l.length, rfl, rfl, by omega, by omega, fun p _ h => by omega, fun p h1 h2 => by omega, heap_alloc_last w _, hw1 _⟩
  case round =>
    obtain ⟨i, j, rfl, rfl, hij, hjl, hlo, hhi, hblk, hb⟩ := hrel
    have HLO : Hid _ := hlo
    have HHI : Hid _ := hhi
    have HB : Hid (Blk wr w.heap.size 74 #[.string t.name, .int .i64 t.ver]) := hblk
    clear hlo hhi hblk
    by_cases hlt : i < j
    · have hlt' : (i : Int) < (j : Int) := by omega
      go_upto_region 5 with fail
      obtain ⟨m, hm⟩ : ∃ m : Nat, (i + j) / 2 = m := ⟨_, rfl⟩
      have hmI : ((i : Int) + (j : Int)) / 2 = (m : Int) := by omega
      have hm1 : i ≤ m := by omega
      have hm2 : m < j := by omega
      rw [hmI]
      clear hm hmI
      have hml : m < l.length := by omega
      have hml' : (m : Int) < (l.length : Int) := by omega
      have hm0 : (0 : Int) ≤ (m : Int) := by omega
      obtain ⟨g, rfl, hcell⟩ := HC.out (by omega)
      obtain ⟨c0, c1⟩ := hcell m hml
      have hgw := cell_lt' c0
      have d0 := (hb.cell (p := ⟨g, m * 2, none⟩) hgw).trans c0
      have d1 := (hb.cell (p := ⟨g, m * 2 + 1, none⟩) hgw).trans c1
      have e0 := (show Blk wr w.heap.size 74 #[.string t.name, .int .i64 t.ver] from HB.out).cell 0
      have e1 := (show Blk wr w.heap.size 74 #[.string t.name, .int .i64 t.ver] from HB.out).cell 1
      simp at e0 e1
      have hgr := Nat.lt_of_lt_of_le hgw hb.size
      have hwr : w.heap.size < wr.heap.size := HB.out.lt
      have kp : ∀ w', Below wr.heap.size wr w' → w'.cell? ⟨g, m * 2, none⟩ = some (.string l[m].name) ∧ w'.cell? ⟨g, m * 2 + 1, none⟩ = some (.int .i64 l[m].ver) ∧ w'.cell? ⟨w.heap.size, 0, none⟩ = some (.string t.name) ∧ w'.cell? ⟨w.heap.size, 1, none⟩ = some (.int .i64 t.ver) := fun w' hB =>
        ⟨(hB.cell (p := ⟨g, m * 2, none⟩) hgr).trans d0, (hB.cell (p := ⟨g, m * 2 + 1, none⟩) hgr).trans d1, (hB.cell (p := ⟨w.heap.size, 0, none⟩) hwr).trans e0, (hB.cell (p := ⟨w.heap.size, 1, none⟩) hwr).trans e1⟩
      have KP : Hid _ := kp
      obtain ⟨hA1, hA2⟩ := Asks.below HA.out hb
      have hx := cmp_neg l[m] t
      have cc := implCmpP l[m] t g1 g2 wr.drew hA1 hA2
      obtain ⟨x, hxm⟩ : ∃ x, l[m] = x := ⟨_, rfl⟩
      rw [hxm] at cc hx d0 d1 KP
      have HXM : Hid (l[m] = x) := hxm
      obtain ⟨R, hR⟩ : ∃ R, cmpP x t = R := ⟨_, rfl⟩
      rw [hR] at cc hx
      have HX : Hid (decide (R < 0) = pkLess x t) := hx
      clear hxm hR hx kp c0 c1 hcell hA1 hA2
      by_cases hR0 : R < 0
      · go_region_held3 (fun w' => w'.cell? ⟨g, m * 2, none⟩ = some (.string x.name) ∧ w'.cell? ⟨g, m * 2 + 1, none⟩ = some (.int .i64 x.ver) ∧ w'.cell? ⟨w.heap.size, 0, none⟩ = some (.string t.name) ∧ w'.cell? ⟨w.heap.size, 1, none⟩ = some (.int .i64 t.ver)) (first | go_keep | exact KP.out _ hB5) (first | (go_at_call 100; refine cc.mono ?_; rintro e w5 ⟨rfl, hg5⟩; have hB5 : Below wr.heap.size wr w5 := (Below.refl _ wr).drew.trans hg5.below))
        all_goals go_wp2_with fail
        refine ⟨⟨m + 1, j, rfl, rfl, by omega, by omega, ?_, HHI.out, HB.out.below hB5, good_below hb hB5⟩, by simp [intOf]; omega⟩
        intro p hp hpm
        by_cases e : p < i
        · exact HLO.out p hp e
        · have h1 := HX.out
          rw [decide_eq_true hR0, ← HXM.out] at h1
          by_cases e2 : p = m
          · subst e2; exact h1.symm
          · have h2 := (List.pairwise_iff_getElem.1 HP.out) p m hp hml (by omega)
            cases h3 : pkLess l[p] t
            · by_cases e3 : l[p] = l[m]
              · rw [e3, ← h1] at h3; cases h3
              · rcases pkLess_total e3 with q | q
                · rw [pkLess_trans q h1.symm] at h3; cases h3
                · rw [q] at h2; cases h2
            · rfl
      · go_region_held3 (fun w' => w'.cell? ⟨g, m * 2, none⟩ = some (.string x.name) ∧ w'.cell? ⟨g, m * 2 + 1, none⟩ = some (.int .i64 x.ver) ∧ w'.cell? ⟨w.heap.size, 0, none⟩ = some (.string t.name) ∧ w'.cell? ⟨w.heap.size, 1, none⟩ = some (.int .i64 t.ver)) (first | go_keep | exact KP.out _ hB5) (first | (go_at_call 100; refine cc.mono ?_; rintro e w5 ⟨rfl, hg5⟩; have hB5 : Below wr.heap.size wr w5 := (Below.refl _ wr).drew.trans hg5.below))
        all_goals go_wp2_with fail
        refine ⟨⟨i, m, rfl, rfl, by omega, by omega, HLO.out, ?_, HB.out.below hB5, good_below hb hB5⟩, by simp [intOf]; omega⟩
        intro p hp hpm
        have h1 := HX.out
        rw [decide_eq_false (by omega), ← HXM.out] at h1
        by_cases e2 : p = m
        · subst e2; exact h1.symm
        · have h2 := (List.pairwise_iff_getElem.1 HP.out) m p hml hp (by omega)
          cases h3 : pkLess l[p] t
          · rfl
          · by_cases e3 : l[m] = l[p]
            · rw [e3, h3] at h1; cases h1
            · rcases pkLess_total e3 with q | q
              · rw [pkLess_trans q h3] at h1; cases h1
              · rw [q] at h2; cases h2
    · obtain rfl : i = j := by omega
      have hlt' : ¬ ((i : Int) < (i : Int)) := by omega
      have hcut : Cut l t i := ⟨hjl, HLO.out, HHI.out⟩
      have HCUT : Hid (Cut l t i) := hcut
      clear hcut HLO HHI
      by_cases hil : i < l.length
      · have hil' : (i : Int) < (l.length : Int) := by omega
        go_upto_region 8 with fail
        have hm0 : (0 : Int) ≤ (i : Int) := by omega
        obtain ⟨g, rfl, hcell⟩ := HC.out (by omega)
        obtain ⟨c0, c1⟩ := hcell i hil
        have hgw := cell_lt' c0
        have d0 := (hb.cell (p := ⟨g, i * 2, none⟩) hgw).trans c0
        have d1 := (hb.cell (p := ⟨g, i * 2 + 1, none⟩) hgw).trans c1
        have e0 := (show Blk wr w.heap.size 74 #[.string t.name, .int .i64 t.ver] from HB.out).cell 0
        have e1 := (show Blk wr w.heap.size 74 #[.string t.name, .int .i64 t.ver] from HB.out).cell 1
        simp at e0 e1
        have hgr := Nat.lt_of_lt_of_le hgw hb.size
        have hwr : w.heap.size < wr.heap.size := HB.out.lt
        have kp : ∀ w', Below wr.heap.size wr w' → w'.cell? ⟨g, i * 2, none⟩ = some (.string l[i].name) ∧ w'.cell? ⟨g, i * 2 + 1, none⟩ = some (.int .i64 l[i].ver) ∧ w'.cell? ⟨w.heap.size, 0, none⟩ = some (.string t.name) ∧ w'.cell? ⟨w.heap.size, 1, none⟩ = some (.int .i64 t.ver) := fun w' hB =>
          ⟨(hB.cell (p := ⟨g, i * 2, none⟩) hgr).trans d0, (hB.cell (p := ⟨g, i * 2 + 1, none⟩) hgr).trans d1, (hB.cell (p := ⟨w.heap.size, 0, none⟩) hwr).trans e0, (hB.cell (p := ⟨w.heap.size, 1, none⟩) hwr).trans e1⟩
        have KP : Hid _ := kp
        obtain ⟨hA1, hA2⟩ := Asks.below HA.out hb
        have cc := implCmpP l[i] t g1 g2 wr.drew hA1 hA2
        obtain ⟨x, hxm⟩ : ∃ x, l[i] = x := ⟨_, rfl⟩
        rw [hxm] at cc d0 d1 KP
        obtain ⟨R, hR⟩ : ∃ R, cmpP x t = R := ⟨_, rfl⟩
        rw [hR] at cc
        clear hxm hR kp c0 c1 hcell hA1 hA2
        go_region_held3 (fun w' => w'.cell? ⟨g, i * 2, none⟩ = some (.string x.name) ∧ w'.cell? ⟨g, i * 2 + 1, none⟩ = some (.int .i64 x.ver) ∧ w'.cell? ⟨w.heap.size, 0, none⟩ = some (.string t.name) ∧ w'.cell? ⟨w.heap.size, 1, none⟩ = some (.int .i64 t.ver)) (first | go_keep | exact KP.out _ hB5) (first | (go_at_call 100; refine cc.mono ?_; rintro e w5 ⟨rfl, hg5⟩; have hB5 : Below wr.heap.size wr w5 := (Below.refl _ wr).drew.trans hg5.below))
        all_goals go_wp2_with fail
        all_goals go_ret2
        all_goals exact ⟨⟨i, _, rfl, HCUT.out⟩, good_below hb hB5⟩
      · have hil' : ¬ ((i : Int) < (l.length : Int)) := by omega
        go_upto_region 8 with fail
        go_quiet (fail)
        go_wp2_with fail
        go_ret2
        exact ⟨⟨i, .inl rfl, HCUT.out⟩, bel_drewN hb _⟩
end Go.Proofs.YthgjdcomanabiaaGreatDoor

namespace Go.Proofs.YthgjdcomanabiaaGreatDoor
open Go.ChangeShapes Go.WideShapes Go.ChangeAt Go.RowKit
set_option linter.unusedVariables false

set_option maxRecDepth 100000 in
theorem implByTwo (w : World) : Calls Tryz.prog 84 #[.func (.func 60) #[] #[], .func (.func 61) #[] #[]] w fun e w' => (∃ g1 g2, e = .returned (cmpFn g1 g2) ∧ Asks w' g1 g2 ∧ w.heap.size ≤ g1 ∧ w.heap.size ≤ g2) ∧ Below w.heap.size w w' := by
  have hmf : ∀ (fn : Fn) (first cap : Array Value) (w : World), (Instr.makeFunc fn first cap).run Tryz.prog w = .ok (.func fn first cap) w := fun _ _ _ _ => rfl
  go_enter Tryz.func84, Tryz.ntmps84
  go_wp2_with fail
  go_ret
  have b1 : Blk ((w.alloc (.cells #[.func (.func 60) #[] #[]] 105)).alloc (.cells #[.func (.func 61) #[] #[]] 107)) w.heap.size 105 #[.func (.func 60) #[] #[]] := Blk.below (show Blk (w.alloc (.cells #[.func (.func 60) #[] #[]] 105)) w.heap.size 105 #[.func (.func 60) #[] #[]] from heap_alloc_last w _) ((Below.refl _ _).alloc (Nat.le_refl _) _)
  have b2 : Blk ((w.alloc (.cells #[.func (.func 60) #[] #[]] 105)).alloc (.cells #[.func (.func 61) #[] #[]] 107)) (w.heap.size + 1) 107 #[.func (.func 61) #[] #[]] := by
    have := heap_alloc_last (w.alloc (.cells #[.func (.func 60) #[] #[]] 105)) (.cells #[.func (.func 61) #[] #[]] 107)
    rwa [World.size_alloc] at this
  refine ⟨⟨w.heap.size, w.heap.size + 1, rfl, ⟨b1.cell 0, b2.cell 0⟩, by omega, by omega⟩, ((Below.refl _ w).alloc (Nat.le_refl _) _).alloc (by simp) _⟩

/-- What a need reaches in a row that rises. -/
def reachP (R : List Pk) (m : Imp) : Option Pk := match R.dropWhile fun x => pkLess x ⟨m.name, m.mn⟩ with
  | x :: _ => if x.name.toList == m.name.toList then some x else none
  | [] => none
theorem cut_drop {l : List Pk} {t : Pk} {k : Nat} (h : Cut l t k) : l.dropWhile (fun x => pkLess x t) = l.drop k := by
  induction l generalizing k with
  | nil => simp
  | cons a r ih =>
    obtain ⟨h1, h2, h3⟩ := h
    cases k with
    | zero =>
      have := h3 0 (by simp) (Nat.le_refl _)
      simp only [List.getElem_cons_zero] at this
      rw [List.dropWhile_cons_of_neg (by simp [this])]
      rfl
    | succ k =>
      have := h2 0 (by simp) (by omega)
      simp only [List.getElem_cons_zero] at this
      rw [List.dropWhile_cons_of_pos (by exact this), List.drop_succ_cons]
      refine ih ⟨by simpa using h1, fun i hi hik => ?_, fun i hi hki => ?_⟩
      · have := h2 (i + 1) (by simpa using hi) (by omega)
        simpa using this
      · have := h3 (i + 1) (by simpa using hi) (by omega)
        simpa using this
theorem reach_in {l : List Pk} {m : Imp} {k : Nat} (h : Cut l ⟨m.name, m.mn⟩ k) (hk : k < l.length) : reachP l m = if l[k].name.toList == m.name.toList then some l[k] else none := by
  unfold reachP
  rw [cut_drop h, List.drop_eq_getElem_cons hk]
theorem reach_out {l : List Pk} {m : Imp} {k : Nat} (h : Cut l ⟨m.name, m.mn⟩ k) (hk : ¬ k < l.length) : reachP l m = none := by
  unfold reachP
  rw [cut_drop h, List.drop_eq_nil_of_le (by omega)]
def foundOf (R : List Pk) (ns : List Imp) : List Pk := ns.filterMap (reachP R)
def missOf (R : List Pk) (ns : List Imp) : List ByteArray := (ns.filter fun m => (reachP R m).isNone).map Imp.name
theorem found_hit {R : List Pk} {ns : List Imp} {k : Nat} (hk : k < ns.length) {p : Pk} (h : reachP R ns[k] = some p) : foundOf R (ns.take (k + 1)) = foundOf R (ns.take k) ++ [p] ∧ missOf R (ns.take (k + 1)) = missOf R (ns.take k) := by
  unfold foundOf missOf
  rw [List.take_succ_eq_append_getElem hk, List.filterMap_append, List.filter_append, List.map_append]
  simp [h]
theorem found_miss {R : List Pk} {ns : List Imp} {k : Nat} (hk : k < ns.length) (h : reachP R ns[k] = none) : foundOf R (ns.take (k + 1)) = foundOf R (ns.take k) ∧ missOf R (ns.take (k + 1)) = missOf R (ns.take k) ++ [ns[k].name] := by
  unfold foundOf missOf
  rw [List.take_succ_eq_append_getElem hk, List.filterMap_append, List.filter_append, List.map_append]
  simp [h]
theorem found_len (R : List Pk) (ns : List Imp) : (foundOf R ns).length ≤ ns.length := List.length_filterMap_le _ _
theorem miss_len (R : List Pk) (ns : List Imp) : (missOf R ns).length ≤ ns.length := by
  unfold missOf; rw [List.length_map]; exact List.length_filter_le _ _

theorem wpList_appendP {ops : Array Oper} {rest : List Oper} {o : Oper} {a : Act} {w : World} {Q : Exit → Act → World → Prop} (hgd : o.guard = none) (s x : Operand)
    (ho : o.op = .call { callee := .builtin .append, args := #[s, x], argTypes := #[26, 26] })
    (B : Nat) (v : Value) (l : List Pk) (hs : a.eval s = v) (hown : OwnP B w v l) (ad : Addr) (t : Pk) (hx : a.eval x = .slice (some ad) 1 1) (hnews : ∀ (j : Nat) u, t.cells[j]? = some u → w.cell? (ad.add j) = some u)
    (hsz : l.length ≤ 1000000) (hB : B ≤ w.heap.size)
    (h : ∀ v' w', OwnP B w' v' (l ++ [t]) → Below B w w' → w.grownBy w' v.ownBlock → wpList Tryz.prog ops Q rest (a.put o.dst v') w') : wpList Tryz.prog ops Q (o :: rest) a w := by
  obtain ⟨i, hii, hz0, hz1, hz2⟩ := info66
  refine wpList_append_own w hgd s x 26 ho B 74 i zeroPk 2 24 Tryz.underlying26 hii hz0 hz1 hz2 rfl (by decide) v l.length (pkCells l) hs hown ad 1 1 (pkCells [t]) hx (by rw [pkCells_length]; rfl) ?_ ?_ ?_ ?_ hB ?_
  · intro j u hj
    rw [pkCells_one] at hj
    exact hnews j u hj
  · intro u hu
    rw [pkCells_one] at hu
    simp only [Pk.cells, List.mem_cons, List.mem_nil_iff, or_false] at hu
    rcases hu with rfl | rfl <;> rfl
  · unfold maxLen; omega
  · omega
  · intro v' w' h1 h2 h3
    refine h v' w' ?_ ((Below.refl _ w).grown h2 hB (OwnP.block hown)) h2
    unfold OwnP
    rw [pkCells_append, List.length_append]
    exact h1
theorem OwnP.kept {B : Nat} {w w' : World} {v : Value} {l : List Pk} {row : Option Nat} (h : OwnP B w v l) (hg : w.grownBy w' row) (hne : v.ownBlock = none ∨ v.ownBlock ≠ row) : OwnP B w' v l := World.ownsRow.kept h hg hne
/-- Rows of elements of two types lie apart. -/
theorem rows_apart {B B' : Nat} {w : World} {v u : Value} {e e' : TypeId} {k k' n n' : Nat} {xs xs' : List Value} (hne : e ≠ e') (h : w.ownsRow B e k v n xs) (h' : w.ownsRow B' e' k' u n' xs') : v.ownBlock = none ∨ v.ownBlock ≠ u.ownBlock := by
  rcases h.2 with ⟨rfl, _⟩ | ⟨g, cap, cur, rfl, _, hg, _⟩
  · exact .inl rfl
  · refine .inr ?_
    rcases h'.2 with ⟨rfl, _⟩ | ⟨g', cap', cur', rfl, _, hg', _⟩
    · simp [Value.ownBlock]
    · simp only [Value.ownBlock, ne_eq, Option.some.injEq]
      intro e1
      subst e1
      rw [hg] at hg'
      simp only [Option.some.injEq, Obj.cells.injEq] at hg'
      exact hne hg'.2.1
theorem row_blk {B g : Nat} {w : World} {v : Value} {e e' : TypeId} {k n : Nat} {xs : List Value} {cs : Array Value} (hne : e ≠ e') (h : w.ownsRow B e k v n xs) (hb : Blk w g e' cs) : some g ≠ v.ownBlock := by
  rcases h.2 with ⟨rfl, _⟩ | ⟨g', cap, cur, rfl, _, hg, _⟩
  · simp [Value.ownBlock]
  · simp only [Value.ownBlock, ne_eq, Option.some.injEq]
    intro e1
    subst e1
    rw [show w.heap[g]? = _ from hb] at hg
    simp only [Option.some.injEq, Obj.cells.injEq] at hg
    exact hne hg.2.1.symm
end Go.Proofs.YthgjdcomanabiaaGreatDoor

namespace Go.Proofs.YthgjdcomanabiaaGreatDoor
open Go.ChangeShapes Go.WideShapes Go.ChangeAt Go.RowKit
set_option linter.unusedVariables false

set_option maxRecDepth 100000 in
set_option maxHeartbeats 4000000 in
theorem implReach {S : Nat → Prop} {B : Nat} {w : World} {rv mv wv u : Value} {R : List Pk} {ns : List Imp} (hS : ∀ b, S b → b < w.heap.size) (hR : OwnP B w rv R) (hRl : R.length ≤ 1000000) (hRs : R.Pairwise fun x y => pkLess y x = false) (hI : ImpsAt S w u ns) (hns : ns.length ≤ 100000) (hmv : ∃ mb, mv = .map mb) (hwv : ∃ a n c, wv = .slice a n c) :
    Calls Tryz.prog 65 #[.agg #[rv, mv, wv], u] w fun e w' => (∃ p q f, e = .returned (.tuple #[p, q]) ∧ Sorted (foundOf R ns) f ∧ OwnP w.heap.size w' p f ∧ OwnS w.heap.size w' q (missOf R ns)) ∧ Below w.heap.size w w' := by
  obtain ⟨mb, rfl⟩ := hmv
  obtain ⟨wa, wn, wc, rfl⟩ := hwv
  have HR : Hid (OwnP B w rv R) := hR
  have HI : Hid (ImpsAt S w u ns) := hI
  have HS : Hid _ := hS
  have HRS : Hid _ := hRs
  obtain ⟨ra, rc, hrv, hrc⟩ := hR.value
  obtain ⟨ua, uc, huv⟩ := hI.shape
  subst hrv huv
  have HRC : Hid _ := hrc
  clear hR hI hS hRs hrc
  have hns' : (ns.length : Int) ≤ 100000 := by omega
  have hRl' : (R.length : Int) ≤ 1000000 := by omega
  have hbk0 : Blk (w.alloc (.cells #[.slice ra R.length rc, .map mb, .slice wa wn wc] 68)) w.heap.size 68 #[.slice ra R.length rc, .map mb, .slice wa wn wc] := heap_alloc_last w _
  have HB0 : Hid _ := hbk0
  have hb0 : Below w.heap.size w (w.alloc (.cells #[.slice ra R.length rc, .map mb, .slice wa wn wc] 68)) := (Below.refl _ w).alloc (Nat.le_refl _) _
  clear hbk0
  go_enter Tryz.func65, Tryz.ntmps65
  go_wp2_with (go_at_call 84; go_must (refine (implByTwo _).mono ?_; rintro e w1 ⟨⟨g1, g2, rfl, has, hg1, hg2⟩, hb1⟩))
  have HAS : Hid (Asks w1 g1 g2) := has
  have hbw1 := good_below hb0 hb1
  have HBX : Hid (Blk w1 w.heap.size 68 #[.slice ra R.length rc, .map mb, .slice wa wn wc]) := Blk.below HB0.out hb1
  clear has
  go_loopw [6, 7, 16] (fun i6 i7 i16 wr => ∃ (k : Nat), i16 = .int .i64 (k : Int) ∧ k ≤ ns.length ∧ OwnP w1.heap.size wr i6 (foundOf R (ns.take k)) ∧ OwnS w1.heap.size wr i7 (missOf R (ns.take k)) ∧ Below w1.heap.size w1 wr) (fun _ _ i16 _ => ns.length - (intOf i16).toNat)
  case atStart => exact ⟨0, rfl, by omega, ⟨rfl, .inl ⟨rfl, rfl⟩⟩, ⟨rfl, .inl ⟨rfl, rfl⟩⟩, Below.refl _ _⟩
  case round =>
    obtain ⟨k, rfl, hk, hop, hos, hb⟩ := hrel
    have hbW := good_below hbw1 hb
    have HOP : Hid (OwnP w1.heap.size wr u6 (foundOf R (ns.take k))) := hop
    have HOS : Hid (OwnS w1.heap.size wr u7 (missOf R (ns.take k))) := hos
    clear hop hos
    by_cases hkn : k < ns.length
    · have hkn' : (k : Int) < (ns.length : Int) := by omega
      obtain ⟨_, na, nc, hnv, hnc⟩ := (show ImpsAt S w (.slice ua ns.length uc) ns from HI.out)
      simp only [Value.slice.injEq] at hnv
      obtain ⟨rfl, _, rfl⟩ := hnv
      obtain ⟨b, off, rfl, hbS, hcell⟩ := hnc (by omega)
      obtain ⟨x1, x2, x3⟩ := hcell k hkn
      have hbw := HS.out b hbS
      have d1 := (hbW.cell (p := ⟨b, off + k * 3, none⟩) hbw).trans x1
      have d2 := (hbW.cell (p := ⟨b, off + k * 3 + 1, none⟩) hbw).trans x2
      have d3 := (hbW.cell (p := ⟨b, off + k * 3 + 2, none⟩) hbw).trans x3
      obtain ⟨x, hx⟩ : ∃ x, ns[k] = x := ⟨_, rfl⟩
      have HX : Hid (ns[k] = x) := hx
      rw [hx] at d1 d2 d3
      clear hx x1 x2 x3 hcell hnc
      obtain ⟨nm, mn, mx⟩ := x
      dsimp only at d1 d2 d3
      have hbA : Below wr.heap.size wr (wr.alloc (.cells #[.string nm, .int .i64 mn, .int .i64 mx] 61)) := (Below.refl _ wr).alloc (Nat.le_refl _) _
      have hbx : Blk (wr.alloc (.cells #[.string nm, .int .i64 mn, .int .i64 mx] 61)) w.heap.size 68 #[.slice ra R.length rc, .map mb, .slice wa wn wc] := (Blk.below HBX.out hb).below hbA
      have e0 := hbx.cell 0
      simp at e0
      have cf := implFind (OwnP.below HR.out (good_below hbW hbA)) hRl HRS.out ⟨nm, mn⟩ (Asks.below (Asks.below HAS.out hb) hbA)
      dsimp only at cf
      unfold cmpFn at cf
      have HBXA : Hid _ := hbx
      clear hbx
      go_upto_region 8 with (go_at_call 87; go_must (refine cf.mono ?_; rintro e w3 ⟨⟨q, bq, rfl, hcut⟩, hb3⟩))
      have hb3A := hbA.trans (hb3.mono (by simp))
      have hb3' := good_below hb hb3A
      have HOP3 : Hid (OwnP w1.heap.size w3 u6 (foundOf R (ns.take k))) := OwnP.below HOP.out hb3A
      have HOS3 : Hid (OwnS w1.heap.size w3 u7 (missOf R (ns.take k))) := OwnS.below HOS.out hb3A
      have bx3 : Blk w3 w.heap.size 68 #[.slice ra R.length rc, .map mb, .slice wa wn wc] := Blk.below HBXA.out hb3
      have by3 : Blk w3 wr.heap.size 61 #[.string nm, .int .i64 mn, .int .i64 mx] := Blk.below (heap_alloc_last wr _) hb3
      have f0 := bx3.cell 0
      have y0 := by3.cell 0
      simp at f0 y0
      have hb3W := good_below hbW hb3A
      clear bx3 by3 cf HOP HOS HBXA e0
      have HCUT : Hid (Cut R ⟨nm, mn⟩ q) := hcut
      clear hcut
      obtain ⟨ti, hti, ht0, ht1, ht2⟩ := info9
      by_cases hq : q < R.length
      · have hq' : (q : Int) < (R.length : Int) := by omega
        obtain ⟨g, rfl, hrc⟩ := HRC.out (by omega)
        obtain ⟨r1, r2⟩ := hrc q hq
        have hgw := cell_lt' r1
        have s1 := (hb3W.cell (p := ⟨g, q * 2, none⟩) hgw).trans r1
        have s2 := (hb3W.cell (p := ⟨g, q * 2 + 1, none⟩) hgw).trans r2
        have hrp := reach_in (m := ⟨nm, mn, mx⟩) HCUT.out hq
        obtain ⟨y, hy⟩ : ∃ y, R[q] = y := ⟨_, rfl⟩
        rw [hy] at s1 s2 hrp
        clear hy r1 r2 hrc
        obtain ⟨yn, yv⟩ := y
        dsimp only at s1 s2 hrp
        cases hne : yn.toList == nm.toList
        · rw [hne, if_neg (by simp)] at hrp
          have HRP : Hid (reachP R ns[k] = none) := (show reachP R ns[k] = none from by rw [HX.out]; exact hrp)
          clear hrp
          go_quiet (fail)
          go_wp2_with (at_builtin; go_must (refine wpList_appendS rfl (.tmp 56) (.tmp 59) 40 rfl Tryz.underlying40 ti hti ht0 ht1 ht2 w1.heap.size u7 (missOf R (ns.take k)) rfl (OwnS.below HOS3.out (((bel_drewN (Below.refl _ w3) nq)).alloc (by simp [World.drewN]) _)) ⟨w3.heap.size, 0, none⟩ 1 nm rfl (new_cell (w3.drewN nq) nm) (by have := miss_len R (ns.take k); simp at this; omega) (by have := hb3'.size; simp only [World.size_alloc]; exact Nat.le_trans this (Nat.le_succ _)) ?_; intro v4 w4 hown4 hB4 hgr4))
          have hbQ : Below w1.heap.size w1 ((w3.drewN nq).alloc (.cells #[.string nm] 9)) := (bel_drewN hb3' nq).alloc (by simpa [World.drewN] using hb3'.size) _
          have o1 : OwnP w1.heap.size ((w3.drewN nq).alloc (.cells #[.string nm] 9)) u6 (foundOf R (ns.take k)) := OwnP.below HOP3.out ((bel_drewN (Below.refl _ w3) nq).alloc (by simp [World.drewN]) _)
          have o2 : OwnS w1.heap.size ((w3.drewN nq).alloc (.cells #[.string nm] 9)) u7 (missOf R (ns.take k)) := OwnS.below HOS3.out ((bel_drewN (Below.refl _ w3) nq).alloc (by simp [World.drewN]) _)
          have hfm := found_miss (R := R) hkn HRP.out
          rw [HX.out] at hfm
          refine ⟨⟨k + 1, rfl, by omega, ?_, ?_, hbQ.trans hB4⟩, by simp [intOf]; omega⟩
          · rw [hfm.1]; exact o1.kept hgr4 (rows_apart (by decide) o1 o2)
          · rw [hfm.2]; exact hown4
        · rw [hne, if_pos rfl] at hrp
          have HRP : Hid (reachP R ns[k] = some ⟨yn, yv⟩) := (show reachP R ns[k] = some ⟨yn, yv⟩ from by rw [HX.out]; exact hrp)
          clear hrp
          go_quiet (fail)
          go_wp2_with (at_builtin; go_must (refine wpList_appendP rfl (.tmp 48) (.tmp 54) rfl w1.heap.size u6 (foundOf R (ns.take k)) rfl (OwnP.below HOP3.out ((bel_drewN (Below.refl _ w3) nq).alloc (by simp [World.drewN]) _)) ⟨w3.heap.size, 0, none⟩ ⟨yn, yv⟩ rfl (pk_new (w3.drewN nq) yn yv) (by have := found_len R (ns.take k); simp at this; omega) (by have := hb3'.size; simp only [World.size_alloc]; exact Nat.le_trans this (Nat.le_succ _)) ?_; intro v4 w4 hown4 hB4 hgr4))
          have hbQ : Below w1.heap.size w1 ((w3.drewN nq).alloc (.cells #[.string yn, .int .i64 yv] 74)) := (bel_drewN hb3' nq).alloc (by simpa [World.drewN] using hb3'.size) _
          have o1 : OwnP w1.heap.size ((w3.drewN nq).alloc (.cells #[.string yn, .int .i64 yv] 74)) u6 (foundOf R (ns.take k)) := OwnP.below HOP3.out ((bel_drewN (Below.refl _ w3) nq).alloc (by simp [World.drewN]) _)
          have o2 : OwnS w1.heap.size ((w3.drewN nq).alloc (.cells #[.string yn, .int .i64 yv] 74)) u7 (missOf R (ns.take k)) := OwnS.below HOS3.out ((bel_drewN (Below.refl _ w3) nq).alloc (by simp [World.drewN]) _)
          have hfm := found_hit (R := R) hkn HRP.out
          refine ⟨⟨k + 1, rfl, by omega, ?_, ?_, hbQ.trans hB4⟩, by simp [intOf]; omega⟩
          · rw [hfm.1]; exact hown4
          · rw [hfm.2]; exact o2.kept' hgr4 (rows_apart (by decide) o2 o1)
      · have hq' : ¬ ((q : Int) < (R.length : Int)) := by omega
        have hrp := reach_out (m := ⟨nm, mn, mx⟩) HCUT.out hq
        have HRP : Hid (reachP R ns[k] = none) := (show reachP R ns[k] = none from by rw [HX.out]; exact hrp)
        clear hrp
        go_quiet (fail)
        go_wp2_with (at_builtin; go_must (refine wpList_appendS rfl (.tmp 56) (.tmp 59) 40 rfl Tryz.underlying40 ti hti ht0 ht1 ht2 w1.heap.size u7 (missOf R (ns.take k)) rfl (OwnS.below HOS3.out (((bel_drewN (Below.refl _ w3) nq)).alloc (by simp [World.drewN]) _)) ⟨w3.heap.size, 0, none⟩ 1 nm rfl (new_cell (w3.drewN nq) nm) (by have := miss_len R (ns.take k); simp at this; omega) (by have := hb3'.size; simp only [World.size_alloc]; exact Nat.le_trans this (Nat.le_succ _)) ?_; intro v4 w4 hown4 hB4 hgr4))
        have hbQ : Below w1.heap.size w1 ((w3.drewN nq).alloc (.cells #[.string nm] 9)) := (bel_drewN hb3' nq).alloc (by simpa [World.drewN] using hb3'.size) _
        have o1 : OwnP w1.heap.size ((w3.drewN nq).alloc (.cells #[.string nm] 9)) u6 (foundOf R (ns.take k)) := OwnP.below HOP3.out ((bel_drewN (Below.refl _ w3) nq).alloc (by simp [World.drewN]) _)
        have o2 : OwnS w1.heap.size ((w3.drewN nq).alloc (.cells #[.string nm] 9)) u7 (missOf R (ns.take k)) := OwnS.below HOS3.out ((bel_drewN (Below.refl _ w3) nq).alloc (by simp [World.drewN]) _)
        have hfm := found_miss (R := R) hkn HRP.out
        rw [HX.out] at hfm
        refine ⟨⟨k + 1, rfl, by omega, ?_, ?_, hbQ.trans hB4⟩, by simp [intOf]; omega⟩
        · rw [hfm.1]; exact o1.kept hgr4 (rows_apart (by decide) o1 o2)
        · rw [hfm.2]; exact hown4
    · obtain rfl : k = ns.length := by omega
      have hkn' : ¬ ((ns.length : Int) < (ns.length : Int)) := by omega
      have hop := HOP.out
      have hos := HOS.out
      rw [List.take_length] at hop hos
      have cs := implSortP hop (by have := found_len R ns; omega) (Asks.below HAS.out hb)
      obtain ⟨a6, c6, hv6, _⟩ := hop.value
      obtain ⟨a7, c7, hv7, _⟩ := hos.value
      have HOP2 : Hid (OwnP w1.heap.size wr u6 (foundOf R ns)) := hop
      have HOS2 : Hid (OwnS w1.heap.size wr u7 (missOf R ns)) := hos
      clear hop hos
      subst hv6 hv7
      unfold cmpFn at cs ⊢
      go_wp2_with (go_at_call 83; go_must (refine cs.mono ?_; rintro e w5 ⟨rfl, f, hso, hof, hgr⟩))
      have hb5 : Below w1.heap.size w1 w5 := hb.grown hgr hb.size (OwnP.block HOP2.out)
      go_ret2
      exact ⟨⟨_, _, f, rfl, hso, OwnP.mono hof hbw1.size, OwnS.mono (OwnS.kept' HOS2.out hgr (rows_apart (by decide) HOS2.out HOP2.out)) hbw1.size⟩, good_below hbw1 hb5⟩
end Go.Proofs.YthgjdcomanabiaaGreatDoor

namespace Go.Proofs.YthgjdcomanabiaaGreatDoor
open Go.ChangeShapes Go.WideShapes Go.ChangeAt Go.RowKit Go.Maps
open Go.ChangeMaps (setBlock)
open Go.WideElems (Fit entry_then_store)
set_option linter.unusedVariables false

theorem setBlock_twice (w : World) (b : Nat) (x y : Obj) : setBlock (setBlock w b x) b y = setBlock w b y := by
  simp [setBlock]

section
variable {H : Type} {P : Program} {w : World} {t k e : TypeId} {R : Value → Option (DataW H × List MemPlace)} {b : Nat} {es : Array MapEntry} {clock : Nat}

theorem entry_run (K : WideMaps.KeyLaw P k) (ht : P.underlying t = some (.map k e)) {z : Value} (hz : ∀ u : World, (zeroValue e).run P u = .ok z u) (hb : w.heap[b]? = some (.map es clock)) (F : Fit P k R es clock)
    {key : Value} {kl : Lit} (hkey : keyOf P k key = some kl) {v : Value} (hl : (Instr.lookup t (.map (some b)) key false).run P w = .ok v w) :
    ∃ (st : Nat) (W1 : World), (Instr.mapEntry t (.map (some b)) key).run P w = .ok (.tuple #[v, goInt st]) W1 ∧ (Instr.mapUpdate t (.map (some b)) key v).run P w = .ok () W1 ∧
      ∀ val, ∃ W2, (Instr.entryStore t (.map (some b)) (goInt st) val).run P W1 = .ok () W2 ∧ (Instr.mapUpdate t (.map (some b)) key val).run P w = .ok () W2 := by
  obtain ⟨v0, st, es1, clock1, hrun, hv0, hst⟩ := entry_then_store K ht hz hb F hkey
  have hb1 : (setBlock w b (.map es1 clock1)).heap[b]? = some (.map es1 clock1) := ChangeMaps.heap_setBlock_same hb _
  have key1 : v0 = v ∧ (Instr.mapUpdate t (.map (some b)) key v0).run P w = .ok () (setBlock w b (.map es1 clock1)) := by
    rcases K.find w hkey es.toList F.keys with ⟨h1, h2⟩ | ⟨j, e0, h1, h2, h3⟩
    · simp [Instr.mapEntry, run_underlying ht, MapKept.run_getObj_map hb, K.check w false hkey, h1, hz, MapKept.run_setObj_map _ hb, Result.andThen] at hrun
      simp [Instr.lookup, run_underlying ht, MapKept.run_getObj_map hb, K.check w es.isEmpty hkey, h1, hz, Result.andThen] at hl
      obtain ⟨⟨rfl, _⟩, hw⟩ := hrun
      refine ⟨hl, ?_⟩
      rw [← hw]
      simp [Instr.mapUpdate, run_underlying ht, MapKept.run_getObj_map hb, K.check w false hkey, h1, MapKept.run_setObj_map _ hb, Result.andThen]
    · have hj : es[j]? = some e0 := by simpa using h2
      have hmm : es.modify j (fun e => { key := key, val := e0.val, born := e.born }) = es.modify j (fun e => { key := key, val := e.val, born := e.born }) := by
        apply Array.ext'
        rw [Array.toList_modify, Array.toList_modify, ChangeMaps.modify_eq_set _ _ _ _ h2, ChangeMaps.modify_eq_set _ _ _ _ h2]
      simp [Instr.mapEntry, run_underlying ht, MapKept.run_getObj_map hb, K.check w false hkey, h1, hj, h3, K.stays w hkey, MapKept.run_setObj_map _ hb, Result.andThen] at hrun
      simp [Instr.lookup, run_underlying ht, MapKept.run_getObj_map hb, K.check w es.isEmpty hkey, h1, Result.andThen] at hl
      obtain ⟨⟨rfl, _⟩, hw⟩ := hrun
      refine ⟨hl, ?_⟩
      rw [← hw]
      simp [Instr.mapUpdate, run_underlying ht, MapKept.run_getObj_map hb, K.check w false hkey, h1, hj, h3, K.stays w hkey, MapKept.run_setObj_map _ hb, Result.andThen]
      rw [hmm]
  obtain ⟨rfl, hup⟩ := key1
  refine ⟨st, _, hrun, hup, fun val => ?_⟩
  obtain ⟨es', clock', h1, h2⟩ := hst _ val hb1
  exact ⟨_, h1, by rw [setBlock_twice]; exact h2⟩
end

theorem Counts.entry {w : World} {B n : Nat} {f : Lit → Int} (h : Counts w 74 B n f) (hn : n < maxLen) {key : Value} {kl : Lit} (hk : keyOf Tryz.prog 74 key = some kl) {c : Int} (hc : (Lit.int .i64 c).wf = true) :
    ∃ (st : Nat) (W1 W2 : World), (Instr.mapEntry 128 (.map (some B)) key).run Tryz.prog w = .ok (.tuple #[.int .i64 (f kl), .int .i64 (st : Int)]) W1 ∧
      (Instr.lookup 128 (.map (some B)) key false).run Tryz.prog W1 = .ok (.int .i64 (f kl)) W1 ∧
      (Instr.entryStore 128 (.map (some B)) (.int .i64 (st : Int)) (.int .i64 c)).run Tryz.prog W1 = .ok () W2 ∧ Counts W2 74 B (n + 1) (upd f kl c) ∧ w.grownBy W2 (some B) := by
  have hlk := h.look law44 Tryz.underlying128 hk
  obtain ⟨W0, hu0, hC0, _⟩ := h.store law44 Tryz.underlying128 hn hk hlk.2
  obtain ⟨W2', hu2, hC2, hg2⟩ := h.store law44 Tryz.underlying128 hn hk hc
  obtain ⟨D, ⟨es, clock, hbk, F, hs, hD⟩, hf⟩ := h
  obtain ⟨st, W1, h1, h2, h3⟩ := entry_run law44' Tryz.underlying128 (fun u => zero3 u) hbk F hk hlk.1
  obtain ⟨W2, h4, h5⟩ := h3 (.int .i64 c)
  rw [hu0] at h2
  cases h2
  rw [hu2] at h5
  cases h5
  have hlk1 := (hC0.look law44 Tryz.underlying128 hk).1
  rw [upd_same (law44.key hk)] at hlk1
  exact ⟨st, _, _, h1, hlk1, h4, hC2, hg2⟩
end Go.Proofs.YthgjdcomanabiaaGreatDoor

namespace Go.Proofs.YthgjdcomanabiaaGreatDoor
open Go.ChangeShapes Go.WideShapes Go.ChangeAt Go.RowKit Go.Maps
set_option linter.unusedVariables false

/-- An element of a map, held as it is. -/
def heldE (v : Value) : Option (DataW Value × List MemPlace) := some (.held v, [])
/-- The map in block B, of at most n entries, holds f of each key, a nil slice where there is none. -/
def NeedsAt (w : World) (B n : Nat) (f : Lit → Value) : Prop :=
  ∃ D : DataW Value, w.ownsMap Tryz.prog 74 heldE B n D ∧ ∀ kl, D.atKey kl (.held (.slice none 0 0)) = .held (f kl)
theorem zero32 (w : World) : (zeroValue 31).run Tryz.prog w = .ok (.slice none 0 0) w := by kernel_rfl
theorem NeedsAt.made (w : World) : NeedsAt (w.alloc (.map #[] 0)) w.heap.size 0 (fun _ => .slice none 0 0) :=
  ⟨.map [], World.ownsMap_made _ _ _ _, fun kl => rfl⟩
theorem NeedsAt.lt {w : World} {B n : Nat} {f : Lit → Value} (h : NeedsAt w B n f) : B < w.heap.size := by
  obtain ⟨D, h, _⟩ := h; exact h.lt
theorem NeedsAt.below {w w' : World} {B n : Nat} {f : Lit → Value} (h : NeedsAt w B n f) (hb : Below w.heap.size w w') : NeedsAt w' B n f := by
  have hl := h.lt
  obtain ⟨D, ⟨es, clock, hbk, F, hs, hD⟩, hf⟩ := h
  exact ⟨D, ⟨es, clock, (hb.block B hl).trans hbk, F, hs, hD⟩, hf⟩
theorem NeedsAt.kept {w w' : World} {B n : Nat} {f : Lit → Value} {row : Option Nat} (h : NeedsAt w B n f) (hg : w.grownBy w' row) (hne : some B ≠ row) : NeedsAt w' B n f := by
  obtain ⟨D, h, hf⟩ := h; exact ⟨D, h.kept hg hne, hf⟩
theorem NeedsAt.look {w : World} {B n : Nat} {f : Lit → Value} (h : NeedsAt w B n f) {key : Value} {kl : Lit} (hk : keyOf Tryz.prog 74 key = some kl) : (Instr.lookup 66 (.map (some B)) key false).run Tryz.prog w = .ok (f kl) w := by
  obtain ⟨D, h, hf⟩ := h
  obtain ⟨v, ps, hr, hv⟩ := h.lookup law44 Tryz.underlying66 (zero32 w) (zd := .held (.slice none 0 0)) (zp := []) rfl hk
  rw [hf] at hv
  simp only [heldE, Option.some.injEq, Prod.mk.injEq, DataW.held.injEq] at hv
  rw [hr, hv.1]
def updV (f : Lit → Value) (kl : Lit) (v : Value) : Lit → Value := fun k' => if k'.sameKey kl then v else f k'
theorem updV_same {f : Lit → Value} {kl : Lit} {v : Value} (h : WideAt.IsKeyLit kl) : updV f kl v kl = v := by simp [updV, WideAt.sameKey_self h]
theorem updV_other {f : Lit → Value} {kl k' : Lit} {v : Value} (h : k' ≠ kl) : updV f kl v k' = f k' := by simp [updV, sameKey_ne h]
theorem NeedsAt.store {w : World} {B n : Nat} {f : Lit → Value} (h : NeedsAt w B n f) (hn : n < maxLen) {key : Value} {kl : Lit} (hk : keyOf Tryz.prog 74 key = some kl) (v : Value) :
    ∃ w', (Instr.mapUpdate 66 (.map (some B)) key v).run Tryz.prog w = .ok () w' ∧ NeedsAt w' B (n + 1) (updV f kl v) ∧ w.grownBy w' (some B) := by
  obtain ⟨D, h, hf⟩ := h
  obtain ⟨w', hr, ho, hg⟩ := h.update law44 Tryz.underlying66 hn hk (val := v) (d := .held v) (ps := []) rfl
  refine ⟨w', hr, ⟨_, ho, fun k' => ?_⟩, hg⟩
  by_cases e : k' = kl
  · subst e; rw [updV_same (law44.key hk), atKey_put_same h.isMap (law44.key hk)]
  · rw [updV_other e, atKey_put_other e, hf]
theorem wpList_storeN (w : World) {ops : Array Oper} {rest : List Oper} {o : Oper} {a : Act} {Q : Exit → Act → World → Prop}
    (hg : o.guard = none) (m x v : Operand) (hop : o.op = Op.mapUpdate 66 m x v) (B n : Nat) (f : Lit → Value)
    (hm : a.eval m = .map (some B)) (h : NeedsAt w B n f) (hn : n < maxLen) (key c : Value) (kl : Lit) (hx : a.eval x = key) (hv : a.eval v = c) (hk : keyOf Tryz.prog 74 key = some kl)
    (hK : ∀ w', NeedsAt w' B (n + 1) (updV f kl c) → w.grownBy w' (some B) → wpList Tryz.prog ops Q rest (a.put o.dst undef) w') : wpList Tryz.prog ops Q (o :: rest) a w := by
  refine wpList_plain hg fun K' hK' => ?_
  obtain ⟨w', hr, h1, h2⟩ := h.store hn hk c
  unfold Oper.wp
  simp [execOp, hop, hm, hx, hv, hr, Result.andThen]
  exact hK' _ _ (hK w' h1 h2)

def pkVal (p : Pk) : Value := .agg #[.string p.name, .int .i64 p.ver]
/-- The releases R, their needs nf, and wishes, as a shelf has them. -/
def ShelfAt (S : Nat → Prop) (B : Nat) (w : World) (sv : Value) (R : List Pk) (nf : Pk → List Imp) (ws : List Imp) : Prop :=
  ∃ rv mb wv f n, sv = .agg #[rv, .map (some mb), wv] ∧ OwnP B w rv R ∧ NeedsAt w mb n f ∧ ImpsAt S w wv ws ∧ ∀ p ∈ R, ∃ kl, keyOf Tryz.prog 74 (pkVal p) = some kl ∧ ImpsAt S w (f kl) (nf p)
theorem ShelfAt.below {S : Nat → Prop} {B : Nat} {w w' : World} {sv : Value} {R : List Pk} {nf : Pk → List Imp} {ws : List Imp} (h : ShelfAt S B w sv R nf ws) (hS : ∀ b, S b → b < w.heap.size) (hb : Below w.heap.size w w') : ShelfAt S B w' sv R nf ws := by
  obtain ⟨rv, mb, wv, f, n, h1, h2, h3, h4, h5⟩ := h
  refine ⟨rv, mb, wv, f, n, h1, h2.below hb, h3.below hb, h4.keep (cells_below hS hb), fun p hp => ?_⟩
  obtain ⟨kl, k1, k2⟩ := h5 p hp
  exact ⟨kl, k1, k2.keep (cells_below hS hb)⟩
/-- What is right of a shelf, of itself. -/
structure Good (R : List Pk) (nf : Pk → List Imp) (ws : List Imp) : Prop where
  len : R.length ≤ 200
  sort : R.Pairwise fun x y => pkLess y x = false
  needs : ∀ p ∈ R, (nf p).length ≤ 20
  wish : ws.length ≤ 21
end Go.Proofs.YthgjdcomanabiaaGreatDoor
