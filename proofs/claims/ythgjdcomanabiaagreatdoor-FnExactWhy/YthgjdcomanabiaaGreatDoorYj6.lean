/-
  impl.Why's look-up of a pick's place in the row of the search: slices.IndexFunc over strides with its closure. strings.Clone, and impl.ownTexts. impl.ownPicks. impl.sortByTwo over releases. slices.Sort and slices.Compact over texts of one's own. impl.missing: its walk. impl.greatest: its walk. impl's rowTo: the row that led the search to a place, over what slices.Reverse answers. The law on Upgrade: its walk, over what the two Upgrade answer. The newest releases that fit: impl's way and the document's. The law on Newest: its walk, over what the two Newest answer. Claims in memory; how two of them are held against one another; slices.SortFunc over them. No statement of the seat is proved here.
-/
import Derived.Test.YthgjdcomanabiaaGreatDoorYj5
import Derived.Sort.OwnSorted
import Derived.Lib.RowBridge
import Derived.Laws.AppendOwnNone
namespace Go.Proofs.YthgjdcomanabiaaGreatDoor
open Go.ChangeShapes Go.WideShapes Go.ChangeAt Go.RowKit
set_option linter.unusedVariables false

/-- A stride is to that pick. -/
def strideB (p : Pk) (x : Sd) : Bool := x.item.name.toList == p.name.toList && decide (x.item.ver = p.ver)
set_option maxRecDepth 100000 in
theorem implIs (nm : ByteArray) (ve fr : Int) (g1 g2 g : Nat) (n c k : Nat) (pn : ByteArray) (pv : Int) (w : World) (hk : k < n) (hn : n ≤ 1000000)
    (h1 : w.cell? ⟨g1, 0, none⟩ = some (.slice (some ⟨g, 0, none⟩) n c)) (h2 : w.cell? ⟨g2, 0, none⟩ = some (.int .i64 (k : Int)))
    (h3 : w.cell? ⟨g, k * 2, none⟩ = some (.string pn)) (h4 : w.cell? ⟨g, k * 2 + 1, none⟩ = some (.int .i64 pv)) :
    Calls Tryz.prog 41 #[.agg #[.string nm, .int .i64 ve, .int .i64 fr], .pointer (some ⟨g1, 0, none⟩), .pointer (some ⟨g2, 0, none⟩)] w fun e w' => e = .returned (.bool (strideB ⟨pn, pv⟩ ⟨⟨nm, ve⟩, fr⟩)) ∧ Below w.heap.size w w' := by
  have hw1 : ∀ o, Below w.heap.size w (w.alloc o) := fun o => (Below.refl _ w).alloc (Nat.le_refl _) _
  have q1 : ∀ o, (w.alloc o).cell? ⟨g1, 0, none⟩ = _ := fun o => ((hw1 o).cell (p := ⟨g1, 0, none⟩) (cell_lt' h1)).trans h1
  have q2 : ∀ o, (w.alloc o).cell? ⟨g2, 0, none⟩ = _ := fun o => ((hw1 o).cell (p := ⟨g2, 0, none⟩) (cell_lt' h2)).trans h2
  have q3 : ∀ o, (w.alloc o).cell? ⟨g, k * 2, none⟩ = _ := fun o => ((hw1 o).cell (p := ⟨g, k * 2, none⟩) (cell_lt' h3)).trans h3
  have q4 : ∀ o, (w.alloc o).cell? ⟨g, k * 2 + 1, none⟩ = _ := fun o => ((hw1 o).cell (p := ⟨g, k * 2 + 1, none⟩) (cell_lt' h4)).trans h4
  have hkn' : (k : Int) < (n : Int) := by omega
  clear h1 h2 h3 h4
  go_enter Tryz.func41, Tryz.ntmps41
  by_cases e1 : nm.toList = pn.toList
  · by_cases e2 : ve = pv
    all_goals
      go_upto_region 1 with fail
      go_quiet (fail)
      go_wp2_with fail
      go_ret
      refine ⟨congrArg (fun b => Ending.returned (Value.bool b)) ?_, bel_drewN (hw1 _) _⟩
      simp [strideB, e1, e2]
  · go_upto_region 1 with fail
    go_quiet (fail)
    go_wp2_with fail
    go_ret
    refine ⟨congrArg (fun b => Ending.returned (Value.bool b)) ?_, bel_drewN (hw1 _) _⟩
    simp [strideB, e1]

set_option maxRecDepth 100000 in
set_option maxHeartbeats 1000000 in
theorem implIndexIs {B : Nat} {T : List Sd} {v : Value} {w : World} (h : OwnT B w v T) (hl : T.length ≤ 1000000) (g1 g2 g : Nat) (n c q : Nat) (pn : ByteArray) (pv : Int) (hk : q < n) (hn : n ≤ 1000000)
    (h1 : w.cell? ⟨g1, 0, none⟩ = some (.slice (some ⟨g, 0, none⟩) n c)) (h2 : w.cell? ⟨g2, 0, none⟩ = some (.int .i64 (q : Int)))
    (h3 : w.cell? ⟨g, q * 2, none⟩ = some (.string pn)) (h4 : w.cell? ⟨g, q * 2 + 1, none⟩ = some (.int .i64 pv)) :
    Calls Tryz.prog 40 #[v, .func (.func 41) #[] #[.pointer (some ⟨g1, 0, none⟩), .pointer (some ⟨g2, 0, none⟩)]] w fun e w' => (∃ r : Int, e = .returned (.int .i64 r) ∧ FirstAt T (strideB ⟨pn, pv⟩) r) ∧ Below w.heap.size w w' := by
  obtain ⟨a, cap, rfl, hcs⟩ := h.value
  have HC : Hid _ := hcs
  have hlm' : (T.length : Int) ≤ 1000000 := by omega
  have CI := fun (nm : ByteArray) (ve fr : Int) (wr : World) (hb : Below w.heap.size w wr) => implIs nm ve fr g1 g2 g n c q pn pv wr hk hn ((hb.cell (p := ⟨g1, 0, none⟩) (cell_lt' h1)).trans h1) ((hb.cell (p := ⟨g2, 0, none⟩) (cell_lt' h2)).trans h2) ((hb.cell (p := ⟨g, q * 2, none⟩) (cell_lt' h3)).trans h3) ((hb.cell (p := ⟨g, q * 2 + 1, none⟩) (cell_lt' h4)).trans h4)
  have HCI : Hid _ := CI
  clear hcs h CI h1 h2 h3 h4 hk hn
  go_enter Tryz.func40, Tryz.ntmps40
  go_wp2_with fail
  go_loopw [8] (fun i8 wr => ∃ (k : Nat), i8 = .int .i64 (k : Int) ∧ k ≤ T.length ∧ (T.take k).any (strideB ⟨pn, pv⟩) = false ∧ Below w.heap.size w wr) (fun i8 _ => T.length - (intOf i8).toNat)
  case atStart => exact ⟨0, rfl, by omega, by simp, Below.refl _ _⟩
  case round =>
    obtain ⟨k, rfl, hk, hany, hb⟩ := hrel
    have HA : Hid _ := hany
    clear hany
    by_cases hkn : k < T.length
    · have hkn' : (k : Int) < (T.length : Int) := by omega
      obtain ⟨b, rfl, _, hbw, hcell⟩ := HC.out (by omega)
      obtain ⟨x1, x2, x3⟩ := hcell k hkn
      obtain ⟨x, hx⟩ : ∃ x, T[k] = x := ⟨_, rfl⟩
      have HX : Hid (T[k] = x) := hx
      rw [hx] at x1 x2 x3
      clear hx hcell
      obtain ⟨⟨nm, ve⟩, fr⟩ := x
      dsimp only at x1 x2 x3
      have d1 := (hb.cell (p := ⟨b, k * 3, none⟩) hbw).trans x1
      have d2 := (hb.cell (p := ⟨b, k * 3 + 1, none⟩) hbw).trans x2
      have d3 := (hb.cell (p := ⟨b, k * 3 + 2, none⟩) hbw).trans x3
      have cn := HCI.out nm ve fr wr hb
      obtain ⟨B1, hB1⟩ : ∃ B1, strideB ⟨pn, pv⟩ ⟨⟨nm, ve⟩, fr⟩ = B1 := ⟨_, rfl⟩
      rw [hB1] at cn
      have HB1 : Hid _ := hB1
      clear hB1
      cases B1
      · go_wp2_with (go_at_call 41; go_must (refine cn.mono ?_; rintro e w1 ⟨rfl, hb1⟩))
        exact ⟨⟨k + 1, rfl, by omega, none_take T _ k hkn HA.out (by rw [HX.out]; exact HB1.out), good_below hb hb1⟩, by simp [intOf]; omega⟩
      · go_wp2_with (go_at_call 41; go_must (refine cn.mono ?_; rintro e w1 ⟨rfl, hb1⟩))
        go_ret
        exact ⟨⟨_, rfl, .inr ⟨k, hkn, rfl, by rw [HX.out]; exact HB1.out, HA.out⟩⟩, good_below hb hb1⟩
    · have hkn' : ¬ ((k : Int) < (T.length : Int)) := by omega
      have hA := HA.out
      rw [List.take_of_length_le (by omega)] at hA
      have HAA : Hid _ := hA
      clear hA
      go_wp2_with fail
      go_ret
      exact ⟨⟨_, rfl, .inl ⟨rfl, HAA.out⟩⟩, hb⟩
end Go.Proofs.YthgjdcomanabiaaGreatDoor

namespace Go.Proofs.YthgjdcomanabiaaGreatDoor
open Go.ChangeShapes Go.WideShapes Go.ChangeAt Go.RowKit
set_option linter.unusedVariables false

set_option maxRecDepth 100000 in
theorem implClone (s : ByteArray) (w : World) (hs : s.size ≤ 1048576) : Calls Tryz.prog 68 #[.string s] w fun e w' => e = .returned (.string s) ∧ Below w.heap.size w w' := by
  have c := fun w => Tryz.stringslite_Clone s w (by omega)
  go_enter Tryz.func68, Tryz.ntmps68
  go_wp2_with (go_at_call 89; go_must (refine (c _).mono ?_; rintro e w1 ⟨rfl, hb1⟩))
  go_ret
  exact ⟨rfl, hb1⟩

set_option maxRecDepth 100000 in
set_option maxHeartbeats 1000000 in
theorem implOwnTexts {B : Nat} {w : World} {v : Value} {ss : List ByteArray} (h : OwnS B w v ss) (hl : ss.length ≤ 100000) (hsz : ∀ s ∈ ss, s.size ≤ 1048576) :
    Calls Tryz.prog 48 #[v] w fun e w' => (∃ p, e = .returned p ∧ OwnS w.heap.size w' p ss) ∧ Below w.heap.size w w' := by
  obtain ⟨a, cap, rfl, hc⟩ := h.value
  have HC : Hid _ := hc
  have HZ : Hid _ := hsz
  clear h hc hsz
  have hl' : (ss.length : Int) ≤ 100000 := by omega
  go_enter Tryz.func48, Tryz.ntmps48
  go_wp2_with fail
  go_loopw [3, 8] (fun i3 i8 wr => ∃ (k : Nat), i8 = .int .i64 (k : Int) ∧ k ≤ ss.length ∧ OwnS w.heap.size wr i3 (ss.take k) ∧ Below w.heap.size w wr) (fun _ i8 _ => ss.length - (intOf i8).toNat)
  case atStart => exact ⟨0, rfl, by omega, ⟨rfl, .inl ⟨rfl, rfl⟩⟩, Below.refl _ _⟩
  case round =>
    obtain ⟨k, rfl, hk, hown, hb⟩ := hrel
    have HOW : Hid (OwnS w.heap.size wr u3 (ss.take k)) := hown
    clear hown
    by_cases hkn : k < ss.length
    · have hkn' : (k : Int) < (ss.length : Int) := by omega
      obtain ⟨g, rfl, hcell⟩ := HC.out (by omega)
      have x1 := hcell k hkn
      have d1 := (hb.cell (p := ⟨g, k, none⟩) (cell_lt' x1)).trans x1
      have hz := HZ.out ss[k] (List.getElem_mem hkn)
      have htk : ss.take (k + 1) = ss.take k ++ [ss[k]] := List.take_succ_eq_append_getElem hkn
      obtain ⟨s, hs⟩ : ∃ s, ss[k] = s := ⟨_, rfl⟩
      rw [hs] at d1 hz htk
      have HTK : Hid _ := htk
      clear hs htk hcell x1
      have cc := implClone s wr hz
      obtain ⟨ti, hti, ht0, ht1, ht2⟩ := info9
      go_wp2_with (first
        | (go_at_call 68; go_must (refine cc.mono ?_; rintro e w1 ⟨rfl, hb1⟩))
        | (at_builtin; go_must (refine wpList_appendS rfl (.tmp 12) (.tmp 15) 40 rfl Tryz.underlying40 ti hti ht0 ht1 ht2 w.heap.size u3 (ss.take k) rfl ((OwnS.below HOW.out hb1).below ((Below.refl _ w1).alloc (Nat.le_refl _) _)) ⟨w1.heap.size, 0, none⟩ 1 s rfl (new_cell w1 s) (by simp; omega) (by have := hb.size; have := hb1.size; simp only [World.size_alloc]; omega) ?_; intro v4 w4 hown4 hB4 hgr4)))
      have hb2 := good_below hb hb1
      refine ⟨⟨k + 1, rfl, by omega, ?_, (hb2.alloc hb2.size _).trans hB4⟩, by simp [intOf]; omega⟩
      rw [HTK.out]; exact hown4
    · obtain rfl : k = ss.length := by omega
      have hkn' : ¬ ((ss.length : Int) < (ss.length : Int)) := by omega
      have ho := HOW.out
      rw [List.take_length] at ho
      have HO2 : Hid (OwnS w.heap.size wr u3 ss) := ho
      clear ho
      go_wp2_with fail
      go_ret
      exact ⟨⟨_, rfl, HO2.out⟩, hb⟩
end Go.Proofs.YthgjdcomanabiaaGreatDoor

namespace Go.Proofs.YthgjdcomanabiaaGreatDoor
open Go.ChangeShapes Go.WideShapes Go.ChangeAt Go.RowKit
set_option linter.unusedVariables false

set_option maxRecDepth 100000 in
set_option maxHeartbeats 4000000 in
theorem implOwnPicks {B : Nat} {w : World} {v : Value} {l : List Pk} (h : OwnP B w v l) (hl : l.length ≤ 100000) (hsz : ∀ p ∈ l, p.name.size ≤ 1048576) :
    Calls Tryz.prog 42 #[v] w fun e w' => (∃ p, e = .returned p ∧ OwnP w.heap.size w' p l) ∧ Below w.heap.size w w' := by
  obtain ⟨a, cap, rfl, hc⟩ := h.value
  have HC : Hid _ := hc
  have HZ : Hid _ := hsz
  clear h hc hsz
  have hl' : (l.length : Int) ≤ 100000 := by omega
  go_enter Tryz.func42, Tryz.ntmps42
  go_wp2_with fail
  go_loopw [3, 8] (fun i3 i8 wr => ∃ (k : Nat), i8 = .int .i64 (k : Int) ∧ k ≤ l.length ∧ OwnP w.heap.size wr i3 (l.take k) ∧ Below w.heap.size w wr) (fun _ i8 _ => l.length - (intOf i8).toNat)
  case atStart => exact ⟨0, rfl, by omega, ⟨rfl, .inl ⟨rfl, rfl⟩⟩, Below.refl _ _⟩
  case round =>
    obtain ⟨k, rfl, hk, hown, hb⟩ := hrel
    have HOW : Hid (OwnP w.heap.size wr u3 (l.take k)) := hown
    clear hown
    by_cases hkn : k < l.length
    · have hkn' : (k : Int) < (l.length : Int) := by omega
      obtain ⟨g, rfl, hcell⟩ := HC.out (by omega)
      obtain ⟨x1, x2⟩ := hcell k hkn
      have d1 := (hb.cell (p := ⟨g, k * 2, none⟩) (cell_lt' x1)).trans x1
      have d2 := (hb.cell (p := ⟨g, k * 2 + 1, none⟩) (cell_lt' x1)).trans x2
      have hz := HZ.out l[k] (List.getElem_mem hkn)
      have htk : l.take (k + 1) = l.take k ++ [l[k]] := List.take_succ_eq_append_getElem hkn
      obtain ⟨x, hx⟩ : ∃ x, l[k] = x := ⟨_, rfl⟩
      rw [hx] at d1 d2 hz htk
      have HTK : Hid _ := htk
      clear hx htk hcell x1 x2
      obtain ⟨xn, xv⟩ := x
      dsimp only at d1 d2 hz
      have bA : Below wr.heap.size wr (wr.alloc (.cells #[.string xn, .int .i64 xv] 74)) := (Below.refl _ wr).alloc (Nat.le_refl _) _
      have cc := implClone xn (wr.alloc (.cells #[.string xn, .int .i64 xv] 74)).drew hz
      have kp : ∀ w', Below (wr.alloc (.cells #[.string xn, .int .i64 xv] 74)).heap.size (wr.alloc (.cells #[.string xn, .int .i64 xv] 74)).drew w' → w'.cell? ⟨wr.heap.size, 0, none⟩ = some (.string xn) ∧ w'.cell? ⟨wr.heap.size, 1, none⟩ = some (.int .i64 xv) := fun w' hB => by
        have b1 : Blk (wr.alloc (.cells #[.string xn, .int .i64 xv] 74)).drew wr.heap.size 74 #[.string xn, .int .i64 xv] := heap_alloc_last wr _
        exact ⟨(b1.below hB).cell 0, (b1.below hB).cell 1⟩
      have KP : Hid _ := kp
      clear kp
      have hne : some wr.heap.size ≠ u3.ownBlock := fun e => Nat.lt_irrefl _ ((World.ownsRow.lt HOW.out _ e.symm).2)
      go_upto_region 5 with fail
      go_region_held3 (fun w' => w'.cell? ⟨wr.heap.size, 0, none⟩ = some (.string xn) ∧ w'.cell? ⟨wr.heap.size, 1, none⟩ = some (.int .i64 xv)) (first | go_keep | exact KP.out _ hb1 | exact KP.out _ (hb1.alloc hb1.size _) | exact ⟨hgr4.cell kq.1 hne, hgr4.cell kq.2 hne⟩) (first
        | (go_at_call 68; refine cc.mono ?_; rintro e w1 ⟨rfl, hb1⟩; have hs1 : wr.heap.size + 1 ≤ w1.heap.size := (World.size_alloc wr (.cells #[.string xn, .int .i64 xv] 74)) ▸ hb1.size; have kq := KP.out _ (hb1.alloc hb1.size (.cells #[.string xn, .int .i64 xv] 74)))
        | (refine step_appendP rfl (.tmp 12) (.tmp 19) rfl w.heap.size u3 (l.take k) (by simp [Act.eval]) ((OwnP.below HOW.out (bA.trans ((Below.refl _ _).drew.trans (hb1.mono bA.size)))).below ((Below.refl _ w1).alloc (Nat.le_refl _) _)) ⟨w1.heap.size, 0, none⟩ ⟨xn, xv⟩ (by simp [Act.eval]) (pk_new w1 xn xv) (by simp; omega) (by have := hb.size; simp only [World.size_alloc]; omega) ?_; intro va vn vc w4 hown4 hB4 hgr4))
      all_goals go_wp2_with fail
      all_goals
        have hb2 := good_below hb (bA.trans ((Below.refl _ _).drew.trans (hb1.mono bA.size)))
        refine ⟨⟨k + 1, rfl, by omega, ?_, (hb2.alloc hb2.size _).trans hB4⟩, by simp [intOf]; omega⟩
        rw [HTK.out]
        exact hown4
    · obtain rfl : k = l.length := by omega
      have hkn' : ¬ ((l.length : Int) < (l.length : Int)) := by omega
      have ho := HOW.out
      rw [List.take_length] at ho
      have HO2 : Hid (OwnP w.heap.size wr u3 l) := ho
      clear ho
      go_wp2_with fail
      go_ret
      exact ⟨⟨_, rfl, HO2.out⟩, hb⟩
end Go.Proofs.YthgjdcomanabiaaGreatDoor

namespace Go.Proofs.YthgjdcomanabiaaGreatDoor
open Go.ChangeShapes Go.WideShapes Go.ChangeAt Go.RowKit
set_option linter.unusedVariables false

set_option maxRecDepth 100000 in
set_option maxHeartbeats 1000000 in
theorem implSortTwo {B : Nat} {w : World} {v : Value} {l : List Pk} (h : OwnP B w v l) (hBw : B ≤ w.heap.size) (hl : l.length ≤ 1000000) :
    Calls Tryz.prog 59 #[v, .func (.func 60) #[] #[], .func (.func 61) #[] #[]] w fun e w' => e = .returned (.tuple #[]) ∧ (∃ l', Sorted l l' ∧ OwnP B w' v l') ∧ (∃ w1, Below w.heap.size w w1 ∧ w1.grownBy w' v.ownBlock) ∧ Below B w w' := by
  obtain ⟨a, cap, hv, _⟩ := h.value
  have HO : Hid (OwnP B w v l) := h
  subst hv
  clear h
  go_enter Tryz.func59, Tryz.ntmps59
  go_wp2_with (first
    | (go_at_call 84; go_must (refine (implByTwo _).mono ?_; rintro e w1 ⟨⟨g1, g2, rfl, has, hg1, hg2⟩, hb1⟩; have cs := implSortP (OwnP.below HO.out hb1) hl has; unfold cmpFn at *))
    | (go_at_call 83; go_must (refine cs.mono ?_; rintro e w2 ⟨rfl, l2, hso, hop, hgr⟩)))
  go_end0
  exact ⟨rfl, ⟨l2, hso, hop⟩, ⟨w1, hb1, hgr⟩, (hb1.mono hBw).grown hgr (Nat.le_trans hBw hb1.size) (OwnP.block HO.out)⟩
end Go.Proofs.YthgjdcomanabiaaGreatDoor

namespace Go.Proofs.YthgjdcomanabiaaGreatDoor
open Go.ChangeShapes Go.WideShapes Go.ChangeAt Go.RowKit
set_option linter.unusedVariables false

theorem enc_data (s : ByteArray) : encStr s.data.toList = .string s := by cases s; simp [encStr]
theorem map_enc (l : List ByteArray) : (l.map (fun s => s.data.toList)).map encStr = l.map Value.string := by
  rw [List.map_map]
  exact List.map_congr_left (fun s _ => enc_data s)
def unEnc (z : List UInt8) : ByteArray := ⟨z.toArray⟩
theorem enc_un (z : List UInt8) : encStr z = .string (unEnc z) := rfl
theorem un_map (l : List ByteArray) : (l.map (fun s => s.data.toList)).map unEnc = l := by
  rw [List.map_map]
  refine (List.map_congr_left (fun s _ => ?_)).trans (List.map_id l)
  cases s; simp [unEnc]
theorem enc_map (ts : List (List UInt8)) : (ts.map unEnc).map Value.string = ts.map encStr := by
  rw [List.map_map]; rfl
theorem less_un (x y : List UInt8) : lessB (unEnc x) (unEnc y) = decide (x < y) := by
  rw [lessB_eq]; exact decide_eq_decide.2 (by simp [unEnc])
/-- What slices.Sort leaves of texts: the same texts, in their order. -/
structure SortedS (l l' : List ByteArray) : Prop where
  perm : l'.Perm l
  rises : l'.Pairwise fun x y => lessB y x = false
theorem implSortS {B : Nat} {w : World} {v : Value} {l : List ByteArray} (h : OwnS B w v l) (hl : l.length ≤ 1000000) :
    Calls Tryz.prog 85 #[v] w fun e w' => e = .returned (.tuple #[]) ∧ ∃ l', SortedS l l' ∧ OwnS B w' v l' ∧ w.grownBy w' v.ownBlock := by
  by_cases h0 : l = []
  · subst h0
    obtain ⟨a, cap, rfl, _⟩ := h.value
    refine (Tryz.slices_Sort_string_none a cap w).mono ?_
    rintro e w' ⟨rfl, rfl⟩
    exact ⟨rfl, [], ⟨List.Perm.refl _, List.Pairwise.nil⟩, h, grown_refl _ _⟩
  · rcases h.2 with ⟨_, hz⟩ | ⟨g, cap, cur, rfl, hB, hg, hn1, hn2, hn3, hn4⟩
    · exact absurd (List.length_eq_zero_iff.1 hz) h0
    have hgw := (Array.getElem?_eq_some_iff.1 hg).1
    have ht : cur.toList.take (l.map (fun s => s.data.toList)).length = (l.map (fun s => s.data.toList)).map encStr := by
      rw [map_enc, List.length_map]; simpa using hn4
    have c := Tryz.slices_Sort_string g 0 cap (l.map (fun s => s.data.toList)) w (holds_of_block hg ht) hgw (by simp; omega)
    rw [List.length_map] at c
    refine c.mono ?_
    rintro e w' ⟨rfl, n, os, rfl⟩
    obtain ⟨ts, hts⟩ : ∃ ts, ((l.map (fun s => s.data.toList)).mergeSort fun x y => decide (x ≤ y)) = ts := ⟨_, rfl⟩
    have hp : ts.Perm (l.map (fun s => s.data.toList)) := hts ▸ List.mergeSort_perm _ _
    have hr : ts.Pairwise (fun x y => decide (x ≤ y) = true) := by
      rw [← hts]
      refine List.pairwise_mergeSort (fun a b c h1 h2 => ?_) (fun a b => ?_) _
      · rw [decide_eq_true_eq] at *; exact List.le_trans h1 h2
      · simp only [Bool.or_eq_true, decide_eq_true_eq]; exact List.le_total a b
    rw [hts]
    have hlen : (ts.map unEnc).length = l.length := by rw [List.length_map, hp.length_eq, List.length_map]
    refine ⟨rfl, ts.map unEnc, ⟨?_, ?_⟩, ?_, grownBy_sorted _⟩
    · have := hp.map unEnc
      rwa [un_map] at this
    · rw [List.pairwise_map]
      refine hr.imp (fun {a b} hab => ?_)
      rw [decide_eq_true_eq] at hab
      rw [less_un, decide_eq_false_iff_not]
      exact List.not_lt.2 hab
    · unfold OwnS
      rw [hlen, enc_map]
      have := ownsRow_sorted (n := n) (os := os) (ss := l.map (fun s => s.data.toList)) (ts := ts) hp.length_eq hB hg (by simpa using hn1) hn2 hn3
      rwa [List.length_map] at this

theorem compact_iff {d : Array (List UInt8)} {x : List UInt8} : x ∈ Lib.compactUpTo d d.size ↔ x ∈ d.toList := by
  unfold Lib.compactUpTo
  rw [List.mem_map]
  constructor
  · rintro ⟨i, hi, rfl⟩
    have hi' : i < d.size := List.mem_range.1 (List.mem_filter.1 hi).1
    rw [getElem!_pos d i hi']
    exact Array.getElem_mem_toList hi'
  · intro hx
    obtain ⟨j, hj, he⟩ := List.getElem_of_mem hx
    simp only [Array.length_toList] at hj
    have he' : d[j]! = x := by rw [getElem!_pos d j hj]; simpa using he
    clear he
    induction j using Nat.strongRecOn with
    | ind j ih =>
      cases hk : Lib.keeps d j
      · have : ¬ (j = 0 ∨ d[j]! ≠ d[j - 1]!) := by simpa [Lib.keeps] using hk
        have h1 : j ≠ 0 := fun e => this (.inl e)
        have h2 : d[j]! = d[j - 1]! := Classical.not_not.1 (fun e => this (.inr e))
        exact ih (j - 1) (by omega) (by omega) (h2 ▸ he')
      · exact ⟨j, List.mem_filter.2 ⟨List.mem_range.2 hj, hk⟩, he'⟩
theorem compact_rises {d : Array (List UInt8)} (h : ∀ i j, i < j → j < d.size → ¬ d[j]! < d[i]!) : (Lib.compactUpTo d d.size).Pairwise fun x y => x < y := by
  unfold Lib.compactUpTo
  rw [List.pairwise_map]
  refine List.Pairwise.imp_of_mem ?_ ((List.pairwise_lt_range (n := d.size)).filter _)
  intro a b ha hb hab
  obtain ⟨_, _⟩ := List.mem_filter.1 ha
  obtain ⟨hbr, hbk⟩ := List.mem_filter.1 hb
  have hbs := List.mem_range.1 hbr
  have hk : b = 0 ∨ d[b]! ≠ d[b - 1]! := by simpa [Lib.keeps] using hbk
  have hne : d[b]! ≠ d[b - 1]! := by rcases hk with e | e; · omega
                                     · exact e
  have h1 : d[b - 1]! < d[b]! := by
    have := h (b - 1) b (by omega) hbs
    exact Classical.not_not.1 (fun hn => hne (List.le_antisymm (List.not_lt.1 hn) (List.not_lt.1 this)))
  by_cases e : a = b - 1
  · rw [e]; exact h1
  · have := h a (b - 1) (by omega) (by omega)
    exact List.lt_of_le_of_lt (List.not_lt.1 this) h1
theorem implCompactS {B : Nat} {w : World} {v : Value} {l : List ByteArray} (h : OwnS B w v l) (hl : l.length ≤ 1000000) (hs : l.Pairwise fun x y => lessB y x = false) :
    Calls Tryz.prog 86 #[v] w fun e w' => ∃ q, e = .returned q ∧ OwnS B w' q (sortB l) ∧ w.grownBy w' v.ownBlock := by
  by_cases h0 : l = []
  · subst h0
    obtain ⟨a, cap, rfl, _⟩ := h.value
    refine (Tryz.slices_Compact_string_empty a cap w).mono ?_
    rintro e w' ⟨rfl, rfl⟩
    exact ⟨_, rfl, h, grown_refl _ _⟩
  · rcases h.2 with ⟨_, hz⟩ | ⟨g, cap, cur, rfl, hB, hg, hn1, hn2, hn3, hn4⟩
    · exact absurd (List.length_eq_zero_iff.1 hz) h0
    have hgw := (Array.getElem?_eq_some_iff.1 hg).1
    have ht : cur.toList.take (l.map (fun s => s.data.toList)).length = (l.map (fun s => s.data.toList)).map encStr := by
      rw [map_enc, List.length_map]; simpa using hn4
    have c := Tryz.slices_Compact_string g 0 cap (l.map (fun s => s.data.toList)) w (holds_of_block hg ht) (by simp; omega) (by simpa using hn1)
    rw [List.length_map] at c
    refine c.mono ?_
    rintro e w' ⟨rfl, q, rfl⟩
    obtain ⟨C, hC⟩ : ∃ C, Lib.compact (l.map (fun s => s.data.toList)) = C := ⟨_, rfl⟩
    have hCl : C.length ≤ l.length := by
      rw [← hC]
      have := Lib.compact_length_le (l.map (fun s => s.data.toList))
      rwa [List.length_map] at this
    have hCu : C = Lib.compactUpTo (l.map (fun s => s.data.toList)).toArray (l.map (fun s => s.data.toList)).toArray.size := by rw [← hC]; simp [Lib.compact]
    have hsorted : sortB l = C.map unEnc := by
      refine rises_eq (sortB_rises l) ?_ (fun x => ?_)
      · unfold Rises
        rw [List.pairwise_map, hCu]
        refine (compact_rises (fun i j hij hj => ?_)).imp (fun {a b} hab => ?_)
        · simp only [List.size_toArray, List.length_map] at hj
          have := List.pairwise_iff_getElem.1 hs i j (by omega) hj hij
          rw [lessB_eq, decide_eq_false_iff_not] at this
          rw [getElem!_pos _ j (by simpa using hj), getElem!_pos _ i (by simpa using (by omega : i < l.length))]
          simpa using this
        · rw [less_un, decide_eq_true_eq]; exact hab
      · rw [sortB_mem, List.mem_map, hCu]
        constructor
        · intro hx
          refine ⟨x.data.toList, compact_iff.2 (by simpa using ⟨x, hx, rfl⟩), ?_⟩
          cases x; simp [unEnc]
        · rintro ⟨z, hz, rfl⟩
          have := compact_iff.1 hz
          simp only [List.mem_map] at this
          obtain ⟨s, hs', rfl⟩ := this
          have : unEnc s.data.toList = s := by cases s; simp [unEnc]
          rw [this]; exact hs'
    rw [hC, hsorted]
    have hw : ∀ (d : Array (List UInt8)), (Sort.putRow encStr (Sort.ahead w q) g 0 d) = Sort.grow (Sort.putRow encStr (Sort.ahead w q) g 0 d) #[] := fun d => by
      unfold Sort.grow; rw [Array.append_empty]
    refine ⟨_, rfl, ?_, by rw [hw]; exact grownBy_sorted _⟩
    obtain ⟨ts, hts⟩ : ∃ ts, C ++ List.replicate (l.length - C.length) ([] : List UInt8) = ts := ⟨_, rfl⟩
    have htl : ts.length = l.length := by rw [← hts]; simp; omega
    rw [hts]
    have hb := heap_sorted (os := #[]) (n := q) ts.toArray hg
    rw [← hw] at hb
    refine ⟨by simp, .inr ⟨g, cap, _, by simp, hB, hb, by simp; omega, hn2, by simp [Sort.putCells, hn3], ?_⟩⟩
    have ht2 := take_putCells cur ts (by rw [htl, hn3]; omega)
    rw [List.length_map, Nat.mul_one, enc_map]
    have : C.length ≤ ts.length := by omega
    have h3 : (Sort.putCells encStr 0 ts.toArray cur).toList.take C.length = ((Sort.putCells encStr 0 ts.toArray cur).toList.take ts.length).take C.length := by rw [List.take_take, Nat.min_eq_left this]
    rw [h3, ht2, ← List.map_take, ← hts, List.take_left]
end Go.Proofs.YthgjdcomanabiaaGreatDoor

namespace Go.Proofs.YthgjdcomanabiaaGreatDoor
open Go.ChangeShapes Go.WideShapes Go.ChangeAt Go.RowKit
set_option linter.unusedVariables false

def missUp (R : List Pk) (nf : Pk → List Imp) (ws : List Imp) (T : List Sd) (k : Nat) : List ByteArray := missOf R ws ++ (T.take k).flatMap fun x => missOf R (nf x.item)
theorem missUp_succ {R : List Pk} {nf : Pk → List Imp} {ws : List Imp} {T : List Sd} {k : Nat} (hk : k < T.length) : missUp R nf ws T (k + 1) = missUp R nf ws T k ++ missOf R (nf T[k].item) := by
  unfold missUp
  rw [List.take_succ_eq_append_getElem hk, List.flatMap_append, List.append_assoc]
  simp
theorem missUp_all (R : List Pk) (nf : Pk → List Imp) (ws : List Imp) (T : List Sd) : missUp R nf ws T T.length = missAll R nf ws T := by
  unfold missUp missAll; rw [List.take_length]
theorem missUp_len {R : List Pk} {nf : Pk → List Imp} {ws : List Imp} {T : List Sd} (hw : ws.length ≤ 21) (hn : ∀ p ∈ R, (nf p).length ≤ 20) (hT : ∀ x ∈ T, x.item ∈ R) : ∀ k, k ≤ T.length → (missUp R nf ws T k).length ≤ 21 + 20 * k := by
  intro k
  induction k with
  | zero =>
    intro _
    have := miss_len R ws
    simp only [missUp, List.take_zero, List.flatMap_nil, List.append_nil]
    omega
  | succ k ih =>
    intro hk
    have hk' : k < T.length := by omega
    rw [missUp_succ hk', List.length_append]
    have h1 := ih (by omega)
    have h2 := miss_len R (nf T[k].item)
    have h3 := hn _ (hT _ (List.getElem_mem hk'))
    omega

set_option maxRecDepth 100000 in
set_option maxHeartbeats 4000000 in
theorem implMissing {S : Nat → Prop} {B Bt : Nat} {w : World} {sv lv : Value} {R : List Pk} {nf : Pk → List Imp} {ws : List Imp} {T : List Sd} (hS : ∀ b, S b → b < w.heap.size) (h : ShelfAt S B w sv R nf ws) (hg : Good R nf ws) (hT : OwnT Bt w lv T) (hTR : ∀ x ∈ T, x.item ∈ R) (hTl : T.length ≤ 200) :
    Calls Tryz.prog 62 #[sv, lv] w fun e w' => (∃ q, e = .returned q ∧ OwnS w.heap.size w' q (sortB (missAll R nf ws T))) ∧ Below w.heap.size w w' := by
  obtain ⟨rv, mb, wv, f, n, rfl, h2, h3, h4, h5⟩ := h
  obtain ⟨ra, rc, hrv, _⟩ := h2.value
  obtain ⟨wa, wc, hwv⟩ := h4.shape
  subst hrv hwv
  obtain ⟨la, lc, hlv, hlc⟩ := hT.value
  subst hlv
  have hbA : Below w.heap.size w (w.alloc (.cells #[.slice ra R.length rc, .map (some mb), .slice wa ws.length wc] 68)) := (Below.refl _ w).alloc (Nat.le_refl _) _
  have cR := fun (W : World) (hW : Below w.heap.size w W) (u : Value) (ns : List Imp) (hI : ImpsAt S w u ns) (hn : ns.length ≤ 100000) => implReach (w := W) (mv := .map (some mb)) (wv := .slice wa ws.length wc) (fun b hb => Nat.lt_of_lt_of_le (hS b hb) hW.size) (h2.below hW) (by have := hg.len; omega) hg.sort (hI.keep (cells_below hS hW)) hn ⟨_, rfl⟩ ⟨_, _, _, rfl⟩
  have cr := cR _ hbA _ ws h4 (by have := hg.wish; omega)
  have HCR : Hid _ := cR
  have H3 : Hid _ := h3
  have H5 : Hid _ := h5
  have HLC : Hid _ := hlc
  have HTR : Hid _ := hTR
  have HGN : Hid _ := hg.needs
  have hul := missUp_len (R := R) (nf := nf) (T := T) hg.wish hg.needs hTR
  have HUL : Hid _ := hul
  have hbk0 : Blk (w.alloc (.cells #[.slice ra R.length rc, .map (some mb), .slice wa ws.length wc] 68)) w.heap.size 68 #[.slice ra R.length rc, .map (some mb), .slice wa ws.length wc] := heap_alloc_last w _
  have HB0 : Hid _ := hbk0
  clear cR h2 h3 h4 h5 hlc hTR hg hS hT hul hbk0
  obtain ⟨M, hM⟩ : ∃ M, missAll R nf ws T = M := ⟨_, rfl⟩
  have HM : Hid (missAll R nf ws T = M) := hM
  rw [hM]
  clear hM
  obtain ⟨M0, hM0⟩ : ∃ M0, missOf R ws = M0 := ⟨_, rfl⟩
  have HM0 : Hid (missUp R nf ws T 0 = M0) := (show missUp R nf ws T 0 = M0 from by rw [← hM0]; simp [missUp])
  rw [hM0] at cr
  clear hM0
  have hTl' : (T.length : Int) ≤ 200 := by omega
  go_enter Tryz.func62, Tryz.ntmps62
  go_wp2_with (go_at_call 65; go_must (refine cr.mono ?_; rintro e w1 ⟨⟨p1, q1, f1, rfl, hso, hop, hos⟩, hb1⟩; clear hso hop))
  have hbw1 := good_below hbA hb1
  have HBX : Hid (Blk w1 w.heap.size 68 #[.slice ra R.length rc, .map (some mb), .slice wa ws.length wc]) := Blk.below HB0.out hb1
  have hos' := OwnS.mono hos hbA.size
  clear hos
  have HOS : Hid _ := hos'
  clear hos'
  have hs1 : w.heap.size < w1.heap.size := by have := hb1.size; simp only [World.size_alloc] at this; omega
  go_loopw [6, 20] (fun i6 i20 wr => ∃ (k : Nat), i20 = .int .i64 (k : Int) ∧ k ≤ T.length ∧ OwnS w.heap.size wr i6 (missUp R nf ws T k) ∧ Blk wr w.heap.size 68 #[.slice ra R.length rc, .map (some mb), .slice wa ws.length wc] ∧ Below w.heap.size w wr) (fun _ i20 _ => T.length - (intOf i20).toNat)
  case atStart => exact ⟨0, rfl, by omega, by rw [HM0.out]; exact HOS.out, HBX.out, hbw1⟩
  case round =>
    obtain ⟨k, rfl, hk, hos, hbx, hb⟩ := hrel
    have HOW : Hid (OwnS w.heap.size wr u6 (missUp R nf ws T k)) := hos
    clear hos
    by_cases hkn : k < T.length
    · have hkn' : (k : Int) < (T.length : Int) := by omega
      obtain ⟨g, rfl, _, hgw, hcell⟩ := HLC.out (by omega)
      obtain ⟨x1, x2, x3⟩ := hcell k hkn
      have d1 := (hb.cell (p := ⟨g, k * 3, none⟩) hgw).trans x1
      have d2 := (hb.cell (p := ⟨g, k * 3 + 1, none⟩) hgw).trans x2
      have d3 := (hb.cell (p := ⟨g, k * 3 + 2, none⟩) hgw).trans x3
      have hiR := HTR.out T[k] (List.getElem_mem hkn)
      have husc := missUp_succ (R := R) (nf := nf) (ws := ws) hkn
      obtain ⟨x, hx⟩ : ∃ x, T[k] = x := ⟨_, rfl⟩
      rw [hx] at d1 d2 d3 hiR husc
      clear hx hcell x1 x2 x3
      obtain ⟨⟨xn, xv⟩, fr⟩ := x
      dsimp only at d1 d2 d3 hiR husc
      obtain ⟨kl, hkl, hI⟩ := H5.out _ hiR
      have hnl := HGN.out _ hiR
      obtain ⟨na, nc, hnv⟩ := hI.shape
      unfold pkVal at hkl
      dsimp only at hkl
      have bA : Below wr.heap.size wr (wr.alloc (.cells #[.string xn, .int .i64 xv, .int .i64 fr] 80)).drew := ((Below.refl _ wr).alloc (Nat.le_refl _) _).drew
      have bAW := good_below hb bA
      have hlk := (NeedsAt.below H3.out bAW).look hkl
      have cr2 := HCR.out _ bAW _ _ hI (by omega)
      rw [hnv] at hlk cr2
      have kp : ∀ w', Below (wr.alloc (.cells #[.string xn, .int .i64 xv, .int .i64 fr] 80)).heap.size (wr.alloc (.cells #[.string xn, .int .i64 xv, .int .i64 fr] 80)).drew w' → w'.cell? ⟨w.heap.size, 0, none⟩ = some (.slice ra R.length rc) ∧ w'.cell? ⟨w.heap.size, 1, none⟩ = some (.map (some mb)) ∧ w'.cell? ⟨w.heap.size, 2, none⟩ = some (.slice wa ws.length wc) ∧ w'.cell? ⟨wr.heap.size, 0, none⟩ = some (.string xn) ∧ w'.cell? ⟨wr.heap.size, 1, none⟩ = some (.int .i64 xv) := fun w' hB => by
        have b1 : Blk (wr.alloc (.cells #[.string xn, .int .i64 xv, .int .i64 fr] 80)).drew wr.heap.size 80 #[.string xn, .int .i64 xv, .int .i64 fr] := heap_alloc_last wr _
        have b2 : Blk (wr.alloc (.cells #[.string xn, .int .i64 xv, .int .i64 fr] 80)).drew w.heap.size 68 #[.slice ra R.length rc, .map (some mb), .slice wa ws.length wc] := hbx.below bA
        exact ⟨(b2.below hB).cell 0, (b2.below hB).cell 1, (b2.below hB).cell 2, (b1.below hB).cell 0, (b1.below hB).cell 1⟩
      have KP : Hid _ := kp
      have HUS : Hid _ := husc
      obtain ⟨ML, hML⟩ : ∃ ML, missOf R (nf ⟨xn, xv⟩) = ML := ⟨_, rfl⟩
      have hMLl : ML.length ≤ 20 := by rw [← hML]; exact Nat.le_trans (miss_len _ _) hnl
      have HML : Hid (missOf R (nf ⟨xn, xv⟩) = ML) := hML
      rw [hML] at cr2
      obtain ⟨F2, hF2⟩ : ∃ F, foundOf R (nf ⟨xn, xv⟩) = F := ⟨_, rfl⟩
      rw [hF2] at cr2
      obtain ⟨NL, hNL⟩ : ∃ NL, (nf ⟨xn, xv⟩).length = NL := ⟨_, rfl⟩
      rw [hNL] at cr2 hlk
      have HBX2 : Hid _ := hbx
      have hbxA := hbx.below ((Below.refl _ wr).alloc (Nat.le_refl _) (.cells #[.string xn, .int .i64 xv, .int .i64 fr] 80))
      have e0 := hbxA.cell 0
      have e1 := hbxA.cell 1
      have e2 := hbxA.cell 2
      simp at e0 e1 e2
      clear hbxA
      clear kp husc hML hF2 hNL hnv hkl hI hiR hnl hbx
      have hulk := HUL.out k hk
      go_upto_region 5 with fail
      go_region_held3 (fun w' => w'.cell? ⟨w.heap.size, 0, none⟩ = some (.slice ra R.length rc) ∧ w'.cell? ⟨w.heap.size, 1, none⟩ = some (.map (some mb)) ∧ w'.cell? ⟨w.heap.size, 2, none⟩ = some (.slice wa ws.length wc) ∧ w'.cell? ⟨wr.heap.size, 0, none⟩ = some (.string xn) ∧ w'.cell? ⟨wr.heap.size, 1, none⟩ = some (.int .i64 xv)) (first | go_keep | exact KP.out _ (Below.refl _ _) | exact KP.out _ hb5) (first | (go_at_call 65; refine cr2.mono ?_; rintro e w5 ⟨⟨q2, q3, ff, rfl, hso, hop, hos⟩, hb5⟩; clear hso hop))
      all_goals
        have hb5w := bA.trans (hb5.mono bA.size)
        have hbW5 := good_below hb hb5w
        have ho5 := OwnS.below HOW.out hb5w
        have hB5 : w.heap.size ≤ w5.heap.size := hbW5.size
        obtain ⟨ti, hti, ht0, ht1, ht2⟩ := info9
        have HBX5 := Blk.below HBX2.out hb5w
        rcases hos.2 with ⟨rfl, hz⟩ | ⟨g5, c5, cur5, rfl, _, hg5, _⟩
        · have hML0 : ML = [] := List.length_eq_zero_iff.1 hz
          go_wp2_with (at_builtin; go_must (refine wpList_append_own_none rfl (.tmp 34) (.tmp 35) 40 rfl w.heap.size 9 ti 1 Tryz.underlying40 hti u6 (missUp R nf ws T k).length ((missUp R nf ws T k).map Value.string) rfl ho5 rfl ?_))
          refine ⟨⟨k + 1, rfl, by omega, ?_, HBX5, hbW5⟩, by simp [intOf]; omega⟩
          rw [HUS.out, HML.out, hML0, List.append_nil]
          exact ho5
        · have hcs := OwnS.cells hos
          go_wp2_with (at_builtin; go_must (refine wpList_appendSm rfl (.tmp 34) (.tmp 35) 40 rfl Tryz.underlying40 ti hti ht0 ht1 ht2 w.heap.size u6 (missUp R nf ws T k) rfl ho5 ⟨g5, 0, none⟩ c5 ML ML.length rfl rfl (fun j hj => by rw [add_at, Nat.zero_add]; exact hcs j hj) (by omega) hB5 ?_; intro v4 w4 hown4 hB4 hgr4 _))
          refine ⟨⟨k + 1, rfl, by omega, ?_, Blk.kept HBX5 hgr4 (row_blk (by decide) ho5 HBX5), hbW5.trans hB4⟩, by simp [intOf]; omega⟩
          rw [HUS.out, HML.out]
          exact hown4
    · obtain rfl : k = T.length := by omega
      have hkn' : ¬ ((T.length : Int) < (T.length : Int)) := by omega
      have ho := HOW.out
      have hlen := HUL.out T.length (Nat.le_refl _)
      rw [missUp_all, HM.out] at ho hlen
      have cs := implSortS ho (by omega)
      have HO2 : Hid (OwnS w.heap.size wr u6 M) := ho
      obtain ⟨a6, c6, hv6, _⟩ := ho.value
      clear ho
      subst hv6
      go_wp2_with (first
        | (go_at_call 85; go_must (refine cs.mono ?_; rintro e w5 ⟨rfl, l5, hso5, hos5, hgr5⟩; have cc := implCompactS hos5 (by rw [hso5.perm.length_eq]; omega) hso5.rises; have hp5 := hso5.perm; have HP5 : Hid _ := hp5; have HO5 : Hid _ := hos5; clear hso5 hos5 hp5))
        | (go_at_call 86; go_must (refine cc.mono ?_; rintro e w6 ⟨q6, rfl, hos6, hgr6⟩)))
      go_ret
      have b5 : Below w.heap.size w w5 := hb.grown hgr5 hb.size (OwnS.block HO2.out)
      have b6 : Below w.heap.size w w6 := b5.grown hgr6 b5.size (OwnS.block HO2.out)
      refine ⟨⟨_, rfl, ?_⟩, b6⟩
      have : sortB l5 = sortB M := sortB_eq (fun x => HP5.out.mem_iff)
      rw [← this]
      exact hos6
end Go.Proofs.YthgjdcomanabiaaGreatDoor

namespace Go.Proofs.YthgjdcomanabiaaGreatDoor
open Go.ChangeShapes Go.WideShapes Go.ChangeAt Go.RowKit
set_option linter.unusedVariables false

theorem wrap_i64 (q : Int) (h0 : -9223372036854775808 ≤ q) (h1 : q ≤ 9223372036854775807) : IntKind.i64.wrap q = q := by
  simp only [IntKind.wrap, IntKind.bits, IntKind.signed]
  simp
  omega
theorem lasts_end {A : List Pk} {k : Nat} (hk : k < A.length) (h : k + 1 = A.length) : lastsOf (A.drop k) = [A[k]] := by
  rw [List.drop_eq_getElem_cons hk, List.drop_eq_nil_of_le (by omega)]
  rfl
theorem lasts_at {A : List Pk} {k : Nat} (hk : k + 1 < A.length) : lastsOf (A.drop k) = if A[k + 1].name = A[k].name then lastsOf (A.drop (k + 1)) else A[k] :: lastsOf (A.drop (k + 1)) := by
  rw [List.drop_eq_getElem_cons (show k < A.length by omega), List.drop_eq_getElem_cons hk]
  rfl

set_option maxRecDepth 100000 in
set_option maxHeartbeats 4000000 in
theorem implGreatest {Bt : Nat} {w : World} {lv : Value} {T : List Sd} (hT : OwnT Bt w lv T) (hTl : T.length ≤ 200) :
    Calls Tryz.prog 63 #[lv] w fun e w' => (∃ q A, e = .returned q ∧ Sorted (T.map Sd.item) A ∧ OwnP w.heap.size w' q (lastsOf A)) ∧ Below w.heap.size w w' := by
  obtain ⟨la, lc, hlv, hlc⟩ := hT.value
  subst hlv
  have HLC : Hid _ := hlc
  clear hlc hT
  have hTl' : (T.length : Int) ≤ 200 := by omega
  go_enter Tryz.func63, Tryz.ntmps63
  go_wp2_with fail
  go_loopw [3, 11] (fun i3 i11 wr => ∃ (k : Nat), i11 = .int .i64 (k : Int) ∧ k ≤ T.length ∧ OwnP w.heap.size wr i3 ((T.take k).map Sd.item) ∧ Below w.heap.size w wr) (fun _ i11 _ => T.length - (intOf i11).toNat)
  case atStart => exact ⟨0, rfl, by omega, ⟨rfl, .inl ⟨rfl, rfl⟩⟩, Below.refl _ _⟩
  case round =>
    obtain ⟨k, rfl, hk, hop, hb⟩ := hrel
    have HOW : Hid (OwnP w.heap.size wr u3 ((T.take k).map Sd.item)) := hop
    clear hop
    by_cases hkn : k < T.length
    · have hkn' : (k : Int) < (T.length : Int) := by omega
      obtain ⟨g, rfl, _, hgw, hcell⟩ := HLC.out (by omega)
      obtain ⟨x1, x2, x3⟩ := hcell k hkn
      have d1 := (hb.cell (p := ⟨g, k * 3, none⟩) hgw).trans x1
      have d2 := (hb.cell (p := ⟨g, k * 3 + 1, none⟩) hgw).trans x2
      have d3 := (hb.cell (p := ⟨g, k * 3 + 2, none⟩) hgw).trans x3
      have htk : (T.take (k + 1)).map Sd.item = (T.take k).map Sd.item ++ [T[k].item] := by rw [List.take_succ_eq_append_getElem hkn, List.map_append]; rfl
      obtain ⟨x, hx⟩ : ∃ x, T[k] = x := ⟨_, rfl⟩
      rw [hx] at d1 d2 d3 htk
      have HTK : Hid _ := htk
      clear hx hcell x1 x2 x3 htk
      obtain ⟨⟨xn, xv⟩, fr⟩ := x
      dsimp only at d1 d2 d3
      have bA : Below wr.heap.size wr (wr.alloc (.cells #[.string xn, .int .i64 xv, .int .i64 fr] 80)) := (Below.refl _ wr).alloc (Nat.le_refl _) _
      have hs1 : w.heap.size ≤ wr.heap.size := hb.size
      go_wp2_with (at_builtin; go_must (refine wpList_appendP rfl (.tmp 15) (.tmp 18) rfl w.heap.size u3 ((T.take k).map Sd.item) rfl ((OwnP.below HOW.out bA).below ((Below.refl _ _).alloc (Nat.le_refl _) _)) ⟨wr.heap.size + 1, 0, none⟩ ⟨xn, xv⟩ rfl (by have := pk_new (wr.alloc (.cells #[.string xn, .int .i64 xv, .int .i64 fr] 80)) xn xv; rwa [World.size_alloc] at this) (by simp; omega) (by simp only [World.size_alloc]; omega) ?_; intro v4 w4 hown4 hB4 hgr4))
      have hb2 := good_below hb bA
      refine ⟨⟨k + 1, rfl, by omega, ?_, (hb2.alloc hb2.size _).trans hB4⟩, by simp [intOf]; omega⟩
      rw [HTK.out]; exact hown4
    · obtain rfl : k = T.length := by omega
      have hkn' : ¬ ((T.length : Int) < (T.length : Int)) := by omega
      have ho := HOW.out
      rw [List.take_length] at ho
      have cs := implSortTwo ho hb.size (by simp; omega)
      obtain ⟨a3, c3, hv3, _⟩ := ho.value
      clear ho HOW
      rw [List.length_map] at hv3
      subst hv3
      go_wp2_with (go_at_call 59; go_must (refine cs.mono ?_; rintro e w2 ⟨rfl, ⟨A, hso, hoA⟩, _, hb2⟩))
      have hb2w := hb.trans hb2
      have hAl : A.length = T.length := by rw [hso.perm.length_eq, List.length_map]
      obtain ⟨a4, c4, hv4, hcA⟩ := hoA.value
      simp only [Value.slice.injEq] at hv4
      obtain ⟨rfl, -, rfl⟩ := hv4
      have HAL : Hid (A.length = T.length) := hAl
      clear hAl
      have HSO : Hid _ := hso
      have HCA : Hid _ := hcA
      clear hso hoA hcA
      obtain ⟨F, hF⟩ : ∃ F, lastsOf A = F := ⟨_, rfl⟩
      have HF : Hid (lastsOf A = F) := hF
      clear hF
      go_loopw [4, 25] (fun i4 i25 wr => ∃ (k : Nat) (P' : List Pk), i25 = .int .i64 (k : Int) ∧ k ≤ T.length ∧ OwnP w2.heap.size wr i4 P' ∧ P' ++ lastsOf (A.drop k) = F ∧ P'.length ≤ k ∧ Below w2.heap.size w2 wr) (fun _ i25 _ => T.length - (intOf i25).toNat)
      case atStart => exact ⟨0, [], rfl, by omega, ⟨rfl, .inl ⟨rfl, rfl⟩⟩, by simpa using HF.out, by simp, Below.refl _ _⟩
      case round =>
        obtain ⟨k, P', rfl, hk2, hop, hef, hpl, hbr⟩ := hrel
        have HOW : Hid (OwnP w2.heap.size wr u4 P') := hop
        have HEF : Hid _ := hef
        clear hop hef
        by_cases hkn : k < T.length
        · have hkn2 : (k : Int) < (T.length : Int) := by omega
          have hkA : k < A.length := by rw [HAL.out]; omega
          obtain ⟨g, rfl, hcell⟩ := HCA.out (by rw [HAL.out]; omega)
          obtain ⟨x1, x2⟩ := hcell k hkA
          have hgw := cell_lt' x1
          have d1 := (hbr.cell (p := ⟨g, k * 2, none⟩) hgw).trans x1
          have d2 := (hbr.cell (p := ⟨g, k * 2 + 1, none⟩) hgw).trans x2
          have bA : ∀ n v, Below wr.heap.size wr ((wr.alloc (.cells #[.string n, .int .i64 v] 74))) := fun n v => (Below.refl _ wr).alloc (Nat.le_refl _) _
          have hs2 : w2.heap.size ≤ wr.heap.size := hbr.size
          by_cases hend : k + 1 = T.length
          · have hle := lasts_end hkA (by rw [HAL.out]; omega)
            have hwr : IntKind.i64.wrap ((T.length : Int) - 1) = (k : Int) := by rw [wrap_i64 _ (by omega) (by omega)]; omega
            have HEN : Hid (k + 1 = T.length) := hend
            clear hend
            obtain ⟨x, hx⟩ : ∃ x, A[k] = x := ⟨_, rfl⟩
            rw [hx] at d1 d2 hle
            have HLE : Hid _ := hle
            clear hx hcell x1 x2 hle
            obtain ⟨xn, xv⟩ := x
            dsimp only at d1 d2
            have bQ : ∀ nq, Below wr.heap.size wr (((wr.alloc (.cells #[.string xn, .int .i64 xv] 74)).drewN nq).alloc (.cells #[.string xn, .int .i64 xv] 74)) := fun nq => (bel_drewN (bA xn xv) nq).alloc (by simp [World.drewN]) _
            have bS : ∀ nq, Below wr.heap.size wr ((wr.alloc (.cells #[.string xn, .int .i64 xv] 74)).drewN nq) := fun nq => bel_drewN (bA xn xv) nq
            have hbkx : Blk (wr.alloc (.cells #[.string xn, .int .i64 xv] 74)) wr.heap.size 74 #[.string xn, .int .i64 xv] := heap_alloc_last wr _
            have z0 := hbkx.cell 0
            have z1 := hbkx.cell 1
            simp at z0 z1
            clear hbkx
            go_upto_region 11 with fail
            go_quiet (fail)
            go_wp2_with (at_builtin; go_must (refine wpList_appendP rfl (.tmp 46) (.tmp 48) rfl w2.heap.size u4 P' rfl (OwnP.below HOW.out (bQ nq)) ⟨wr.heap.size + 1, 0, none⟩ ⟨xn, xv⟩ rfl (by have := pk_new ((wr.alloc (.cells #[.string xn, .int .i64 xv] 74)).drewN nq) xn xv; rwa [show ((wr.alloc (.cells #[.string xn, .int .i64 xv] 74)).drewN nq).heap.size = wr.heap.size + 1 from World.size_alloc _ _] at this) (by omega) (Nat.le_trans hs2 (bQ nq).size) ?_; intro v4 w4 hown4 hB4 hgr4))
            have hend := HEN.out
            refine ⟨⟨k + 1, _, rfl, by omega, hown4, ?_, by simp; omega, (hbr.trans ((bQ nq).mono hs2)).trans hB4⟩, by simp [intOf]; omega⟩
            have he := HEF.out
            rw [HLE.out] at he
            rw [List.drop_eq_nil_of_le (by rw [HAL.out]; omega)]
            simpa [lastsOf] using he
          · have hkA1 : k + 1 < A.length := by rw [HAL.out]; omega
            have hwr : IntKind.i64.wrap ((T.length : Int) - 1) = (T.length : Int) - 1 := wrap_i64 _ (by omega) (by omega)
            have hbq : ((k : Int) == IntKind.i64.wrap ((T.length : Int) - 1)) = false := by rw [hwr]; simp; omega
            clear hwr
            obtain ⟨j, hj⟩ : ∃ j, j = k + 1 := ⟨_, rfl⟩
            have hwk : IntKind.i64.wrap ((k : Int) + 1) = (j : Int) := by rw [wrap_i64 _ (by omega) (by omega), hj]; omega
            have hkn3 : (j : Int) < (T.length : Int) := by omega
            have hla := lasts_at hkA1
            obtain ⟨y1, y2⟩ := hcell (k + 1) hkA1
            have d3 := (hbr.cell (p := ⟨g, (k + 1) * 2, none⟩) hgw).trans y1
            obtain ⟨x, hx⟩ : ∃ x, A[k] = x := ⟨_, rfl⟩
            obtain ⟨y, hy⟩ : ∃ y, A[k + 1] = y := ⟨_, rfl⟩
            rw [hx] at d1 d2 hla
            rw [hy] at hla d3
            rw [← hj] at d3
            have HJ : Hid (j = k + 1) := hj
            clear hj
            have HLA : Hid _ := hla
            clear hx hy hcell x1 x2 y1 y2 hla
            obtain ⟨xn, xv⟩ := x
            obtain ⟨yn, yv⟩ := y
            dsimp only at d1 d2 d3
            have d3A := ((bA xn xv).cell (p := ⟨g, j * 2, none⟩) (cell_lt' d3)).trans d3
            have hbkx : Blk (wr.alloc (.cells #[.string xn, .int .i64 xv] 74)) wr.heap.size 74 #[.string xn, .int .i64 xv] := heap_alloc_last wr _
            have z0 := hbkx.cell 0
            have z1 := hbkx.cell 1
            simp at z0 z1
            clear hbkx
            have bQ : ∀ nq, Below wr.heap.size wr (((wr.alloc (.cells #[.string xn, .int .i64 xv] 74)).drewN nq).alloc (.cells #[.string xn, .int .i64 xv] 74)) := fun nq => (bel_drewN (bA xn xv) nq).alloc (by simp [World.drewN]) _
            have bS : ∀ nq, Below wr.heap.size wr ((wr.alloc (.cells #[.string xn, .int .i64 xv] 74)).drewN nq) := fun nq => bel_drewN (bA xn xv) nq
            cases hne : yn.toList == xn.toList
            · go_upto_region 11 with fail
              go_quiet (fail)
              go_wp2_with (at_builtin; go_must (refine wpList_appendP rfl (.tmp 46) (.tmp 48) rfl w2.heap.size u4 P' rfl (OwnP.below HOW.out (bQ nq)) ⟨wr.heap.size + 1, 0, none⟩ ⟨xn, xv⟩ rfl (by have := pk_new ((wr.alloc (.cells #[.string xn, .int .i64 xv] 74)).drewN nq) xn xv; rwa [show ((wr.alloc (.cells #[.string xn, .int .i64 xv] 74)).drewN nq).heap.size = wr.heap.size + 1 from World.size_alloc _ _] at this) (by omega) (Nat.le_trans hs2 (bQ nq).size) ?_; intro v4 w4 hown4 hB4 hgr4))
              have hj := HJ.out
              refine ⟨⟨j, _, rfl, by omega, hown4, ?_, by simp; omega, (hbr.trans ((bQ nq).mono hs2)).trans hB4⟩, by simp [intOf]; omega⟩
              rw [hj]
              have he := HEF.out
              rw [HLA.out, if_neg (show ¬ ((⟨yn, yv⟩ : Pk).name = (⟨xn, xv⟩ : Pk).name) from fun e => by rw [beq_bytes] at hne; simp at hne; exact hne e)] at he
              simpa using he
            · go_upto_region 11 with fail
              go_quiet (fail)
              go_wp2_with fail
              have hj := HJ.out
              refine ⟨⟨j, P', rfl, by omega, OwnP.below HOW.out (bS nq), ?_, by omega, hbr.trans ((bS nq).mono hs2)⟩, by simp [intOf]; omega⟩
              rw [hj]
              have he := HEF.out
              rw [HLA.out, if_pos (show (⟨yn, yv⟩ : Pk).name = (⟨xn, xv⟩ : Pk).name from by rw [beq_bytes] at hne; simpa using hne)] at he
              exact he
        · obtain rfl : k = T.length := by omega
          have hkn2 : ¬ ((T.length : Int) < (T.length : Int)) := by omega
          have he := HEF.out
          rw [List.drop_eq_nil_of_le (by rw [HAL.out]; omega)] at he
          have he2 : P' = F := by simpa [lastsOf] using he
          go_wp2_with fail
          go_ret
          refine ⟨⟨_, rfl, A, HSO.out, ?_⟩, hb2w.trans (hbr.mono hb2w.size)⟩
          rw [HF.out, ← he2]
          exact OwnP.mono HOW.out hb2w.size
end Go.Proofs.YthgjdcomanabiaaGreatDoor

namespace Go.Proofs.YthgjdcomanabiaaGreatDoor
open Go.ChangeShapes Go.WideShapes Go.ChangeAt Go.RowKit
set_option linter.unusedVariables false

/-- What slices.Reverse answers over picks of one's own. -/
def ReverseC (f : Nat) : Prop := ∀ (B : Nat) (w : World) (v : Value) (l : List Pk), OwnP B w v l → l.length ≤ 1000000 → Calls Tryz.prog f #[v] w fun e w' => e = .returned (.tuple #[]) ∧ OwnP B w' v l.reverse ∧ Below B w w'
theorem PathAt.len {T : List Sd} {i : Nat} {p : List Pk} (h : PathAt T i p) : p.length ≤ i + 1 := by
  induction h with
  | start _ _ => simp
  | step _ _ h3 _ ih => simp; omega
/-- Where rowTo's loop stands. -/
def Back (T : List Sd) (P row : List Pk) (i : Int) : Prop := (i = -1 ∧ row.reverse = P) ∨ ∃ (k : Nat) (p : List Pk), i = (k : Int) ∧ PathAt T k p ∧ p ++ row.reverse = P

set_option maxRecDepth 100000 in
set_option maxHeartbeats 2000000 in
theorem implRowTo (hR : ReverseC 69) {B : Nat} {T : List Sd} {v : Value} {w : World} (h : OwnT B w v T) (hl : T.length ≤ 1000000) {k : Nat} {P : List Pk} (hp : PathAt T k P) :
    Calls Tryz.prog 43 #[v, .int .i64 (k : Int)] w fun e w' => (∃ u, e = .returned u ∧ OwnP w.heap.size w' u P) ∧ Below w.heap.size w w' := by
  obtain ⟨a, cap, rfl, hcs⟩ := h.value
  have HC : Hid _ := hcs
  have HR : Hid _ := hR
  have hlm' : (T.length : Int) ≤ 1000000 := by omega
  have hPl : P.length ≤ 1000000 := by have := hp.len; have := hp.lt; omega
  have o0 : OwnP w.heap.size w (.slice none 0 0) [] := ⟨rfl, .inl ⟨rfl, rfl⟩⟩
  have HP : Hid _ := hp
  have HPL : Hid _ := hPl
  clear hcs h hR hp hPl
  go_enter Tryz.func43, Tryz.ntmps43
  go_wp2_with fail
  go_loopw [1, 5] (fun i1 i5 wr => ∃ (i : Int) (row : List Pk), i1 = .int .i64 i ∧ Hid (Back T P row i) ∧ Hid (OwnP w.heap.size wr i5 row) ∧ Below w.heap.size w wr) (fun i1 _ _ => (intOf i1 + 1).toNat)
  case atStart => exact ⟨k, [], rfl, Or.inr ⟨k, P, rfl, HP.out, by simp⟩, o0, Below.refl _ _⟩
  case round =>
    obtain ⟨i, row, rfl, HBK, HOW, hb⟩ := hrel
    rcases HBK.out with ⟨rfl, hrow⟩ | ⟨q, p, rfl, hpq, hrow⟩
    · have HROW : Hid _ := hrow
      have hrl : row.length ≤ 1000000 := by have := HPL.out; rw [← hrow] at this; simpa using this
      have c69 := HR.out _ _ _ _ HOW.out hrl
      clear hrow hrl
      go_wp2_with (go_at_call 69; go_must (refine c69.mono ?_; rintro e w1 ⟨rfl, ho1, hb1⟩; have HO1 : Hid _ := ho1; clear ho1))
      go_ret
      refine ⟨⟨_, rfl, ?_⟩, hb.trans hb1⟩
      rw [← HROW.out]
      exact HO1.out
    · have hkn := hpq.lt
      have hkn' : (q : Int) < (T.length : Int) := by omega
      obtain ⟨b, rfl, _, hbw, hcell⟩ := HC.out (by omega)
      obtain ⟨x1, x2, x3⟩ := hcell q hkn
      have hT : T[q]? = some T[q] := List.getElem?_eq_getElem hkn
      obtain ⟨x, hx⟩ : ∃ x, T[q] = x := ⟨_, rfl⟩
      rw [hx] at x1 x2 x3 hT
      clear hx hcell
      obtain ⟨⟨xn, xv⟩, fr⟩ := x
      dsimp only at x1 x2 x3
      have d1 := (hb.cell (p := ⟨b, q * 3, none⟩) hbw).trans x1
      have d2 := (hb.cell (p := ⟨b, q * 3 + 1, none⟩) hbw).trans x2
      have hplen : p.length + row.length = P.length := by rw [← hrow]; simp
      have hpp := hpq.pos
      have HNX : Hid (Back T P (row ++ [⟨xn, xv⟩]) fr ∧ ((fr + 1).toNat < ((q : Int) + 1).toNat)) := (by
        cases hpq with
        | start k1 k2 =>
          rw [hT] at k1; cases k1
          dsimp only at k2
          subst k2
          exact ⟨.inl ⟨rfl, by rw [← hrow]; simp⟩, by omega⟩
        | step k1 k2 k3 k4 =>
          rw [hT] at k1; cases k1
          dsimp only at k2
          subst k2
          exact ⟨.inr ⟨_, _, rfl, k4, by rw [← hrow]; simp⟩, by omega⟩)
      have hrl : row.length ≤ 1000000 := by have := HPL.out; omega
      have HRL : Hid _ := hrl
      have HX3 : Hid (w.cell? ⟨b, q * 3 + 2, none⟩ = some (.int .i64 fr)) := x3
      clear hpq hrow hT x1 x2 x3 hplen hpp hrl
      go_wp2_with (at_builtin; go_must (refine wpList_appendP rfl (.tmp 13) (.tmp 19) rfl w.heap.size _ row rfl (OwnP.below HOW.out ((Below.refl _ _).alloc (Nat.le_refl _) _)) ⟨wr.heap.size, 0, none⟩ ⟨xn, xv⟩ rfl (pk_new wr xn xv) HRL.out (by have := hb.size; simp only [World.size_alloc]; omega) ?_; intro v4 w4 hown4 hB4 hgr4; have hb4 := (hb.alloc hb.size _).trans hB4; have d3 := (hb4.cell (p := ⟨b, q * 3 + 2, none⟩) hbw).trans HX3.out; have HO4 : Hid _ := hown4; clear hown4 hgr4 hB4))
      refine ⟨⟨fr, row ++ [(⟨xn, xv⟩ : Pk)], rfl, HNX.out.1, HO4.out, hb4⟩, ?_⟩
      simpa [intOf] using HNX.out.2
end Go.Proofs.YthgjdcomanabiaaGreatDoor

namespace Go.Proofs.YthgjdcomanabiaaGreatDoor
open Go.ChangeShapes Go.WideShapes Go.ChangeAt Go.RowKit
set_option linter.unusedVariables false

/-- What an Upgrade answers, whatever it is. -/
def UpgradeC (f : Nat) (T : World → Prop) (C : List Rel → List Imp → ByteArray → Int → List Pk × Int × List ByteArray) : Prop := ∀ (S : Nat → Prop) (l : List Rel) (ws : List Imp) (nm : ByteArray) (ve : Int) (v u : Value) (w : World), (∀ b, S b → b < w.heap.size) → RelsAt S w v l → ImpsAt S w u ws →
  l.length ≤ 1048576 → (∀ x ∈ l, RelOK 1048576 x) → ws.length ≤ 1048576 → (∀ x ∈ ws, ImpOK 1048576 x) → nm.size ≤ 1048576 → (Lit.int .i64 ve).wf = true → (∀ W, Below w.heap.size w W → T W) →
  Calls Tryz.prog f #[v, u, .string nm, .int .i64 ve] w fun e w' => (∃ p q, e = .returned (.tuple #[p, .int .i64 (C l ws nm ve).2.1, q]) ∧ OwnP w.heap.size w' p (C l ws nm ve).1 ∧ OwnS w.heap.size w' q (C l ws nm ve).2.2) ∧ Below w.heap.size w w'

set_option maxRecDepth 100000 in
set_option maxHeartbeats 2000000 in
theorem upgradeWalk {T : World → Prop} {C : List Rel → List Imp → ByteArray → Int → List Pk × Int × List ByteArray} (hSp : UpgradeC 19 T C) (hIm : UpgradeC 20 T C) (hlen : ∀ l ws nm ve, (C l ws nm ve).1.length ≤ 1000000 ∧ (C l ws nm ve).2.2.length ≤ 1000000)
    (w : World) (v u : Value) (l : List Rel) (ws : List Imp) (h : RelsAt (fun b => b < w.heap.size) w v l) (hf : ∀ y ∈ l, RelFit y) (h2 : ImpsAt (fun b => b < w.heap.size) w u ws) (hf2 : ∀ y ∈ ws, y.name.size ≤ maxLen) (nm : ByteArray) (ve : Int) (hnz : nm.size ≤ maxLen) (hve : (Lit.int .i64 ve).wf = true) (hT : ∀ W, Below w.heap.size w W → T W) :
    Calls Tryz.prog 4 #[v, u, .string nm, .int .i64 ve] w fun e w' => e = .returned (.bool true) ∧ Below w.heap.size w w' := by
  have c5 := szReleaseS (fun b hb => hb) h hf 1048576 (by omega) (by omega)
  have c10 := fun (W : World) (hW : Below w.heap.size w W) => szImportS (S := fun b => b < w.heap.size) (fun b hb => Nat.lt_of_lt_of_le hb hW.size) (h2.keep (cells_below (fun b hb => hb) hW)) hf2
  have HR : Hid (RelsAt (fun b => b < w.heap.size) w v l) := h
  have HI : Hid (ImpsAt (fun b => b < w.heap.size) w u ws) := h2
  have HT : Hid (∀ W, Below w.heap.size w W → T W) := hT
  have hlp := hlen l ws nm ve
  have cs := fun hz S v u w h1 h2 h3 h4 h5 h6 h7 => hSp S l ws nm ve v u w h1 h2 h3 h4 h5 h6 h7 hz hve
  have ci := fun hz S v u w h1 h2 h3 h4 h5 h6 h7 => hIm S l ws nm ve v u w h1 h2 h3 h4 h5 h6 h7 hz hve
  obtain ⟨P, hP⟩ : ∃ P, (C l ws nm ve).1 = P := ⟨_, rfl⟩
  obtain ⟨Q, hQ⟩ : ∃ Q, (C l ws nm ve).2.2 = Q := ⟨_, rfl⟩
  obtain ⟨c, hc⟩ : ∃ c, (C l ws nm ve).2.1 = c := ⟨_, rfl⟩
  rw [hP, hQ] at hlp
  rw [hP, hQ, hc] at cs ci
  clear hP hQ hc hSp hIm hlen
  obtain ⟨hP, hQ⟩ := hlp
  obtain ⟨a, cap, hv⟩ := h.shape
  obtain ⟨a2, cap2, hu⟩ := h2.shape
  subst hv hu
  clear h h2 hT hf hf2
  have ct7 : ∀ W, Below w.heap.size w W → (l.length : Int) ≤ 1048576 → (∀ x ∈ l, RelOK 1048576 x) → Calls Tryz.prog 9 #[.slice a l.length cap] W fun e w' => (∃ v', e = .returned v' ∧ RowR W.heap.size w'.heap.size w' v' l ∧ W.heap.size < w'.heap.size) ∧ Below W.heap.size W w' := fun W hW h1 h2 =>
    toReleaseS (S := fun b => b < w.heap.size) (fun b hb => Nat.lt_of_lt_of_le hb hW.size) (HR.out.keep (cells_below (fun b hb => hb) hW)) (by omega) (fun x hx => by have := (h2 x hx).2.1; omega)
  have ct12 : ∀ W, Below w.heap.size w W → (ws.length : Int) ≤ 1048576 → Calls Tryz.prog 10 #[.slice a2 ws.length cap2] W fun e w' => (∃ v', e = .returned v' ∧ RowI w' W.heap.size v' ws) ∧ Below W.heap.size W w' := fun W hW h1 =>
    toImportS (S := fun b => b < w.heap.size) (fun b hb => Nat.lt_of_lt_of_le hb hW.size) (HI.out.keep (cells_below (fun b hb => hb) hW)) (by omega)
  have hnz' : (nm.size : Int) ≤ 9223372036854775807 := by simp [maxLen] at hnz; omega
  by_cases hbig : 1048576 < nm.size
  · have hbig' : (1048576 : Int) < (nm.size : Int) := by omega
    go_enter Tryz.func4, Tryz.ntmps4
    go_wp2_with fail
    go_ret
    exact ⟨rfl, Below.refl _ _⟩
  have hbig' : ¬ ((1048576 : Int) < (nm.size : Int)) := by omega
  have cs := cs (by omega)
  have ci := ci (by omega)
  go_enter Tryz.func4, Tryz.ntmps4
  go_upto_region 4 with fail
  go_cut [9] from 24 (fun s9 wx => ∃ r : Int, s9 = .int .i64 r ∧ (r = -1 ∨ (0 ≤ r ∧ r ≤ 1048576 ∧ (l.length : Int) ≤ 1048576 ∧ ∀ x ∈ l, RelOK 1048576 x)) ∧ Below w.heap.size w wx)
  case first =>
    go_wp2_with (go_at_call 6; go_must (refine c5.mono ?_; rintro e w1 ⟨⟨r, rfl, hr⟩, hb1⟩))
    go_meet
    exact ⟨r, rfl, hr, hb1⟩
  case rest =>
    obtain ⟨r, rfl, hr, hb1⟩ := hcut
    rcases hr with rfl | ⟨hr0, hr1, hll, hok⟩
    · go_wp2_with fail
      go_ret
      exact ⟨rfl, hb1⟩
    · have hr2 : ¬ (r < 0) := by omega
      have HOK : Hid (∀ x ∈ l, RelOK 1048576 x) := hok
      clear hok c5
      have c10' := c10 _ hb1 r hr0 hr1
      clear c10
      go_upto_region 7 with fail
      go_cut [9] from 24 (fun s9 wx => ∃ r : Int, s9 = .int .i64 r ∧ (r = -1 ∨ (0 ≤ r ∧ (ws.length : Int) ≤ 1048576 ∧ ∀ x ∈ ws, ImpOK 1048576 x)) ∧ Below w.heap.size w wx)
      case first =>
        go_wp2_with (go_at_call 7; go_must (refine c10'.mono ?_; rintro e w2 ⟨⟨r', rfl, hr'⟩, hb2⟩))
        go_meet
        exact ⟨r', rfl, hr'.imp id (fun h => ⟨h.1, by omega, fun x hx => (h.2.2.2 x hx).mono (by omega)⟩), good_below hb1 hb2⟩
      case rest =>
        clear hr2 hr0 hr1 c10' hb1
        obtain ⟨r2, rfl, hr, hb2⟩ := hcut
        rcases hr with rfl | ⟨hr0, hwl, hok⟩
        · go_wp2_with fail
          go_ret
          exact ⟨rfl, hb2⟩
        · have hr2 : ¬ (r2 < 0) := by omega
          have HOK2 : Hid (∀ x ∈ ws, ImpOK 1048576 x) := hok
          clear hok
          obtain ⟨wb, hwb⟩ : ∃ wb, wb = wc := ⟨_, rfl⟩
          subst hwb
          have cs' := fun S v u W (hW : Below w.heap.size w W) h1 h2 h3 => cs S v u W h1 h2 h3 (by omega) HOK.out (by omega) HOK2.out (fun W' hW' => HT.out W' (good_below hW hW'))
          have ci' := fun S v u W (hW : Below w.heap.size w W) h1 h2 h3 => ci S v u W h1 h2 h3 (by omega) HOK.out (by omega) HOK2.out (fun W' hW' => HT.out W' (good_below hW hW'))
          clear cs ci
          go_upto_region 10 with fail
          go_cut [10, 11, 12] from 24 (fun s10 s11 s12 wx => s11 = .int .i64 c ∧ (∃ B1, OwnP B1 wx s10 P ∧ OwnS B1 wx s12 Q) ∧ Below w.heap.size w wx)
          case first =>
            go_wp2_with (first
              | (go_at_call 9; go_must (refine (ct7 _ hb2 hll HOK.out).mono ?_; rintro e w3 ⟨⟨y0, rfl, hr3, lt3⟩, b3⟩; have hb3 := good_below hb2 b3))
              | (go_at_call 10; go_must (refine (ct12 _ hb3 hwl).mono ?_; rintro e w4 ⟨⟨y1, rfl, hi4⟩, b4⟩; have hb4 := good_below hb3 b4; have t4 := two_at hr3 lt3 hi4 b4))
              | (go_at_call 19; go_must (refine (cs' _ _ _ _ hb4 (fun b hb => hb.2) t4.1 t4.2).mono ?_; rintro e w5 ⟨⟨p, q, rfl, ho5, hs5⟩, b5⟩; have hb5 := good_below hb4 b5)))
            go_meet
            exact ⟨rfl, ⟨_, ho5, hs5⟩, hb5⟩
          case rest =>
            obtain ⟨rfl, ⟨B1, ho0, hs0⟩, hb5⟩ := hcut
            clear hr0 hr2 hb2 cs'
            obtain ⟨w5, hw5⟩ : ∃ w5, w5 = wc := ⟨_, rfl⟩
            subst hw5
            have hms : ∀ m ∈ l.map (fun x => x.needs.length), m ≤ 1048576 := fun m hm => by
              obtain ⟨x, hx, rfl⟩ := List.mem_map.1 hm
              have := (HOK.out x hx).2.1
              omega
            have HMS : Hid (∀ m ∈ l.map (fun x => x.needs.length), m ≤ 1048576) := hms
            clear hms
            have hneg2 : ¬ ((1 : Int) + 2 * (P.length : Int) < 0) := by omega
            have hneg3 : ¬ ((1 : Int) + 2 * (P.length : Int) + (Q.length : Int) < 0) := by omega
            go_upto_region 37 with (first
              | (go_at_call 9; have hchk := n10; refine (ct7 _ (good_below hb5 k10) hll HOK.out).mono ?_; rintro e w11 ⟨⟨y0, rfl, hr11, lt11⟩, b11⟩; have n11 := good_below n10 b11; have j11 := good_below (good_below b7 b8) n11; have x11 := hr6.keep (fun b _ hb => j11.block b hb) lt6)
              | (go_at_call 9; go_must (refine (ct7 _ hb5 hll HOK.out).mono ?_; rintro e w6 ⟨⟨x0, rfl, hr6, lt6⟩, b6⟩))
              | (go_at_call 10; have hchk := n12; refine (ct12 _ (good_below hb5 (good_below k8 n12)) hwl).mono ?_; rintro e w13 ⟨⟨y1, rfl, hi13⟩, b13⟩; have n13 := good_below n12 b13; have x13 := hi7.keep ((good_below b8 n13).block _ hi7.lt))
              | (go_at_call 10; go_must (refine (ct12 _ (good_below hb5 b6) hwl).mono ?_; rintro e w7 ⟨⟨x1, rfl, hi7⟩, b7⟩; have t7 := two_at hr6 lt6 hi7 b7; have h57 : Hid (w5.heap.size ≤ w7.heap.size) := (good_below b6 b7).size))
              | (go_at_call 20; go_must (refine (ci' _ _ _ _ (good_below hb5 (good_below b6 b7)) (fun b hb => hb.2) t7.1 t7.2).mono ?_; rintro e w8 ⟨⟨p1, q1, rfl, ho8, hs8⟩, b8⟩; have k8 := good_below (good_below b6 b7) b8))
              | (go_at_call 12; have hchk := k16; refine (eqPickS hP ho16 (ho0.below k16)).mono ?_; rintro e w17 ⟨rfl, b17⟩; have k17 := good_below k16 b17)
              | (go_at_call 12; go_must (refine (eqPickS hP ho8 (ho0.below k8)).mono ?_; rintro e w9 ⟨rfl, b9⟩))
              | (go_at_call 21; have hchk := k17; refine (eqStringS hQ (hs16.below b17) (hs0.below k17)).mono ?_; rintro e w18 ⟨rfl, b18⟩; have k18 := good_below k17 b18; have n18 := good_below b17 b18)
              | (go_at_call 21; go_must (refine (eqStringS hQ (hs8.below b9) (hs0.below (good_below k8 b9))).mono ?_; rintro e w10 ⟨rfl, b10⟩; have n10 := good_below b9 b10; have k10 := good_below k8 n10))
              | (go_at_call 13; go_must (refine (eqReleaseS (fun b hb => Nat.lt_of_lt_of_le hb.2 j11.size) (fun b hb => hb.2) (x11.rels lt6) (hr11.rels lt11)).mono ?_; rintro e w12 ⟨rfl, b12⟩; have n12 := good_below n11 b12))
              | (go_at_call 14; go_must (refine (eqImportS (S1 := fun b => b < w13.heap.size) (S2 := fun b => b < w13.heap.size) (fun b hb => hb) (fun b hb => hb) (x13.imps x13.lt) (hi13.imps hi13.lt)).mono ?_; rintro e w14 ⟨rfl, b14⟩; have n14 := good_below n13 b14; have k14 := good_below k8 n14; have j14 := good_below (good_below b7 b8) n14; have x14 := hr6.keep (fun b _ hb => j14.block b hb) lt6; have y14 := x13.keep (b14.block _ x13.lt)))
              | (go_at_call 15; go_must (refine (markReleaseS 1 (by omega) (by omega) (by simpa using (by omega : l.length ≤ 1048576)) HMS.out lt6 j14.size x14.sh).mono ?_; rintro e w15 ⟨⟨r15, rfl, hr15, hs15⟩, o15⟩; have y15 := y14.keep (o15.block _ y14.lt (fun hb => by have := hb.2; omega))))
              | (go_at_call 16; go_must (refine (markImportS r15 hr15 (by simp at hs15; omega) (by omega) y15.sh).mono ?_; rintro e w16 ⟨rfl, o16, _⟩; have O16 : OutS (fun b => w5.heap.size ≤ b ∧ b < w7.heap.size) w14 w16 := (o15.mono (fun b hb => ⟨hb.1, by have := hb.2; have := hi7.lt; omega⟩)).trans (o16.mono (fun b hb => by subst hb; exact ⟨by omega, hi7.lt⟩)); have k16 := k14.trans (O16.below (fun b hb => hb.1) k14.size); have ho16 := (ho8.below n14).out O16 (fun b hb => hb.2); have hs16 := (hs8.below n14).out O16 (fun b hb => hb.2); have hneg : ¬ ((r15 : Int) + 3 * (ws.length : Int) < 0) := by omega))
              | (go_at_call 17; go_must (refine (markPickS 1 (by omega) (by omega) hP (ho16.below n18)).mono ?_; rintro e w19 ⟨rfl, o19, hm19⟩; have hs19 := (hs16.below n18).other (ho16.below n18) o19; have k19 := k18.trans (o19.below (fun b hb => Nat.le_trans h57.out (ho16.blk hb)) k18.size)))
              | (go_at_call 22; go_must (refine (markStringS (1 + 2 * P.length) (by omega) (by omega) hQ hs19).mono ?_; rintro e w20 ⟨rfl, o20, hms20⟩; have hm20 := hm19.other hs19 o20; have k20 := k19.trans (o20.below (fun b hb => Nat.le_trans h57.out (hs16.blk hb)) k19.size)))
              | (go_at_call 18; go_must (refine (heldPickS (by omega) (by omega) hP hm20).mono ?_; rintro e w21 ⟨rfl, b21⟩))
              | (go_at_call 23; go_must (refine (heldStringS (by omega) (by omega) hQ (hms20.below b21)).mono ?_; rintro e w22 ⟨rfl, b22⟩; have m22 := good_below b21 b22; have k22 := good_below k20 m22)))
            have hm22 := hm20.below m22
            have hms22 := hms20.below m22
            have hb22 := good_below hb5 k22
            have ho22 := ho0.below k22
            have hs22 := hs0.below k22
            clear hr6 hi7 t7 ho8 hs8 hr11 x11 hi13 x13 x14 y14 y15 o15 o16 O16 ho16 hs16 o19 o20 hm19 hs19 hms20 hm20 ho0 hs0 h57 b7 b8 b9 b10 b11 b12 b13 b14 b17 b18 b21 b22 n10 n11 n13 n14 n18 j11 j14 k8 k10 k14 k16 k17 k18 k19 k20 hchk m22
            go_cut [21, 22, 23] from 24 (fun s21 s22 s23 wx => s22 = .int .i64 c ∧ (∃ B2, OwnP B2 wx s21 P ∧ OwnS B2 wx s23 Q) ∧ Below w22.heap.size w22 wx)
            case first =>
              go_wp2_with (first
                | (go_at_call 9; go_must (refine (ct7 _ hb22 hll HOK.out).mono ?_; rintro e w23 ⟨⟨z0, rfl, hr23, lt23⟩, b23⟩; have hb23 := good_below hb22 b23))
                | (go_at_call 10; go_must (refine (ct12 _ hb23 hwl).mono ?_; rintro e w24 ⟨⟨z1, rfl, hi24⟩, b24⟩; have hb24 := good_below hb23 b24; have t24 := two_at hr23 lt23 hi24 b24))
                | (go_at_call 20; go_must (refine (ci' _ _ _ _ hb24 (fun b hb => hb.2) t24.1 t24.2).mono ?_; rintro e w25 ⟨⟨p2, q2, rfl, ho25, hs25⟩, b25⟩)))
              go_meet
              exact ⟨rfl, ⟨_, ho25, hs25⟩, good_below (good_below b23 b24) b25⟩
            case rest =>
              obtain ⟨rfl, ⟨B2, ho25, hs25⟩, b25⟩ := hcut
              go_wp2_with (first
                | (go_at_call 12; go_must (refine (eqPickS hP ho25 (ho22.below b25)).mono ?_; rintro e w26 ⟨rfl, b26⟩))
                | (go_at_call 21; go_must (refine (eqStringS hQ (hs25.below b26) (hs22.below (good_below b25 b26))).mono ?_; rintro e w27 ⟨rfl, b27⟩; have b27' := good_below (good_below b25 b26) b27))
                | (go_at_call 18; go_must (refine (heldPickS (by omega) (by omega) hP (hm22.below b27')).mono ?_; rintro e w28 ⟨rfl, b28⟩))
                | (go_at_call 23; go_must (refine (heldStringS (by omega) (by omega) hQ (hms22.below (good_below b27' b28))).mono ?_; rintro e w29 ⟨rfl, b29⟩)))
              go_ret
              exact ⟨rfl, good_below hb22 (good_below (good_below b27' b28) b29)⟩
end Go.Proofs.YthgjdcomanabiaaGreatDoor

namespace Go.Proofs.YthgjdcomanabiaaGreatDoor
open Go.ChangeShapes Go.WideShapes Go.ChangeAt Go.RowKit
set_option linter.unusedVariables false

/-- A release may stand for a name by these needs. -/
def fitsN (ns : List Imp) (nm : ByteArray) (r : Rel) : Bool := r.name.toList == nm.toList && ns.all fun m => !(m.name.toList == nm.toList && decide (m.mx < r.ver))
def newestV (l : List Rel) (ns : List Imp) (nm : ByteArray) : Int := l.foldl (fun v r => if fitsN ns nm r then max v r.ver else v) 0
/-- The needs that count when the newest ones are looked for. -/
def allNeeds (l : List Rel) (NS : List Nat) (ws : List Imp) : List Imp := ws ++ NS.flatMap fun n => match l[n]? with | some r => r.needs | none => []
def newestOf (l : List Rel) (NS : List Nat) (ws : List Imp) : List Pk := NS.map fun n => ⟨(pickAt l n).name, newestV l (allNeeds l NS ws) (pickAt l n).name⟩
theorem fitsN_iff (ns : List Imp) (nm : ByteArray) (r : Rel) : fitsN ns nm r = true ↔ r.name = nm ∧ ∀ m ∈ ns, m.name = nm → r.ver ≤ m.mx := by
  unfold fitsN
  rw [beq_bytes]
  simp only [Bool.and_eq_true, decide_eq_true_eq, List.all_eq_true, Bool.not_eq_true', Bool.and_eq_false_iff, decide_eq_false_iff_not]
  constructor
  · rintro ⟨h1, h2⟩
    refine ⟨h1, fun m hm e => ?_⟩
    rcases h2 m hm with h | h
    · rw [beq_bytes] at h; simp [e] at h
    · omega
  · rintro ⟨h1, h2⟩
    refine ⟨h1, fun m hm => ?_⟩
    by_cases e : m.name = nm
    · right; have := h2 m hm e; omega
    · left; rw [beq_bytes]; simpa using e
theorem newestV_ok (f : Rel → Bool) : ∀ (l : List Rel) (v : Int), (l.foldl (fun v r => if f r then max v r.ver else v) v = v ∨ ∃ r ∈ l, f r = true ∧ l.foldl (fun v r => if f r then max v r.ver else v) v = r.ver) ∧ v ≤ l.foldl (fun v r => if f r then max v r.ver else v) v ∧ ∀ r ∈ l, f r = true → r.ver ≤ l.foldl (fun v r => if f r then max v r.ver else v) v
  | [], v => ⟨.inl rfl, Int.le_refl _, fun r hr => by cases hr⟩
  | a :: l, v => by
    rw [List.foldl_cons]
    obtain ⟨h1, h2, h3⟩ := newestV_ok f l (if f a then max v a.ver else v)
    cases ha : f a
    · rw [ha] at h1 h2 h3
      simp only [Bool.false_eq_true, if_false] at h1 h2 h3 ⊢
      refine ⟨?_, h2, fun r hr hfr => ?_⟩
      · rcases h1 with h | ⟨r, hr, hf, he⟩
        · exact .inl h
        · exact .inr ⟨r, List.mem_cons_of_mem _ hr, hf, he⟩
      · rcases List.mem_cons.1 hr with rfl | hr
        · rw [ha] at hfr; cases hfr
        · exact h3 r hr hfr
    · rw [ha] at h1 h2 h3
      simp only [if_true] at h1 h2 h3 ⊢
      refine ⟨?_, by omega, fun r hr hfr => ?_⟩
      · rcases h1 with h | ⟨r, hr, hf, he⟩
        · by_cases hv : a.ver ≤ v
          · left; rw [h]; omega
          · right; exact ⟨a, by simp, ha, by rw [h]; omega⟩
        · exact .inr ⟨r, List.mem_cons_of_mem _ hr, hf, he⟩
      · rcases List.mem_cons.1 hr with rfl | hr
        · omega
        · exact h3 r hr hfr
/-- impl's way: the last one in order that is not above a limit. -/
def lastV (R : List Pk) (nm : ByteArray) (lim : Int) : Int := R.foldl (fun v p => if p.name = nm ∧ p.ver ≤ lim then p.ver else v) 0
theorem lastV_ok (nm : ByteArray) (lim : Int) : ∀ (R : List Pk) (v : Int), R.Pairwise (fun x y => pkLess y x = false) → (∀ p ∈ R, p.name = nm → v ≤ p.ver) →
    (R.foldl (fun v p => if p.name = nm ∧ p.ver ≤ lim then p.ver else v) v = v ∨ ∃ p ∈ R, (p.name = nm ∧ p.ver ≤ lim) ∧ R.foldl (fun v p => if p.name = nm ∧ p.ver ≤ lim then p.ver else v) v = p.ver) ∧
    v ≤ R.foldl (fun v p => if p.name = nm ∧ p.ver ≤ lim then p.ver else v) v ∧ ∀ p ∈ R, p.name = nm ∧ p.ver ≤ lim → p.ver ≤ R.foldl (fun v p => if p.name = nm ∧ p.ver ≤ lim then p.ver else v) v
  | [], v, _, _ => ⟨.inl rfl, Int.le_refl _, fun r hr => by cases hr⟩
  | a :: R, v, hp, hv => by
    obtain ⟨h1, h2⟩ := List.pairwise_cons.1 hp
    rw [List.foldl_cons]
    by_cases ha : a.name = nm ∧ a.ver ≤ lim
    · rw [if_pos ha]
      obtain ⟨k1, k2, k3⟩ := lastV_ok nm lim R a.ver h2 (fun p hp e => less_le (h1 p hp) (e.trans ha.1.symm))
      have hav := hv a (by simp) ha.1
      refine ⟨.inr ?_, by omega, fun p hp hfp => ?_⟩
      · rcases k1 with h | ⟨p, hp, hf, he⟩
        · exact ⟨a, by simp, ha, h⟩
        · exact ⟨p, List.mem_cons_of_mem _ hp, hf, he⟩
      · rcases List.mem_cons.1 hp with rfl | hp
        · exact k2
        · exact k3 p hp hfp
    · rw [if_neg ha]
      obtain ⟨k1, k2, k3⟩ := lastV_ok nm lim R v h2 (fun p hp e => hv p (List.mem_cons_of_mem _ hp) e)
      refine ⟨?_, k2, fun p hp hfp => ?_⟩
      · rcases k1 with h | ⟨p, hp, hf, he⟩
        · exact .inl h
        · exact .inr ⟨p, List.mem_cons_of_mem _ hp, hf, he⟩
      · rcases List.mem_cons.1 hp with rfl | hp
        · exact absurd hfp ha
        · exact k3 p hp hfp
/-- The limit of a name, claim by claim. -/
def limF (CL : List Cl) (v : Int) (nm : ByteArray) : Int := CL.foldl (fun v c => if c.need.name = nm then min v c.need.mx else v) v
theorem limF_le (nm : ByteArray) : ∀ (CL : List Cl) (v x : Int), x ≤ CL.foldl (fun v c => if c.need.name = nm then min v c.need.mx else v) v ↔ x ≤ v ∧ ∀ c ∈ CL, c.need.name = nm → x ≤ c.need.mx
  | [], v, x => by simp
  | a :: CL, v, x => by
    rw [List.foldl_cons, limF_le nm CL]
    by_cases ha : a.need.name = nm
    · rw [if_pos ha]
      constructor
      · rintro ⟨h1, h2⟩
        refine ⟨by omega, fun c hc e => ?_⟩
        rcases List.mem_cons.1 hc with rfl | hc
        · omega
        · exact h2 c hc e
      · rintro ⟨h1, h2⟩
        have := h2 a (by simp) ha
        exact ⟨by omega, fun c hc e => h2 c (List.mem_cons_of_mem _ hc) e⟩
    · rw [if_neg ha]
      constructor
      · rintro ⟨h1, h2⟩
        refine ⟨h1, fun c hc e => ?_⟩
        rcases List.mem_cons.1 hc with rfl | hc
        · exact absurd e ha
        · exact h2 c hc e
      · rintro ⟨h1, h2⟩
        exact ⟨h1, fun c hc e => h2 c (List.mem_cons_of_mem _ hc) e⟩
theorem newest_same {l : List Rel} {R : List Pk} {nf : Pk → List Imp} {ws : List Imp} {NS : List Nat} {CL : List Cl} (hs : Same l R nf) (hv : ∀ r ∈ l, 0 ≤ r.ver ∧ r.ver ≤ 999999) (hNS : ∀ n ∈ NS, n < l.length) (hC : SortedC (claimsOf nf ws (picksOf l NS)) CL) (nm : ByteArray) :
    lastV R nm (limF CL 999999 nm) = newestV l (allNeeds l NS ws) nm := by
  have hm : ∀ m : Imp, (∃ c ∈ CL, c.need = m) ↔ m ∈ allNeeds l NS ws := fun m => by
    unfold allNeeds
    rw [List.mem_append, List.mem_flatMap]
    constructor
    · rintro ⟨c, hc, rfl⟩
      rw [hC.perm.mem_iff] at hc
      unfold claimsOf at hc
      rcases List.mem_append.1 hc with h | h
      · obtain ⟨m, hm, rfl⟩ := List.mem_map.1 h
        exact .inl hm
      · obtain ⟨p, hp, h⟩ := List.mem_flatMap.1 h
        obtain ⟨m, hm, rfl⟩ := List.mem_map.1 h
        obtain ⟨n, hn, rfl⟩ := List.mem_map.1 hp
        have hl := hNS n hn
        rw [pick_at (List.getElem?_eq_getElem hl), hs.needs _ (List.getElem_mem hl)] at hm
        exact .inr ⟨n, hn, by rw [List.getElem?_eq_getElem hl]; exact hm⟩
    · rintro (h | ⟨n, hn, h⟩)
      · exact ⟨⟨⟨#[]⟩, m⟩, hC.perm.mem_iff.2 (List.mem_append.2 (.inl (List.mem_map.2 ⟨m, h, rfl⟩))), rfl⟩
      · have hl := hNS n hn
        rw [List.getElem?_eq_getElem hl] at h
        refine ⟨⟨(relPk l[n]).name, m⟩, hC.perm.mem_iff.2 (List.mem_append.2 (.inr (List.mem_flatMap.2 ⟨relPk l[n], List.mem_map.2 ⟨n, hn, pick_at (List.getElem?_eq_getElem hl)⟩, List.mem_map.2 ⟨m, ?_, rfl⟩⟩))), rfl⟩
        rw [hs.needs _ (List.getElem_mem hl)]
        exact h
  have hfit : ∀ r ∈ l, (fitsN (allNeeds l NS ws) nm r = true ↔ (relPk r).name = nm ∧ (relPk r).ver ≤ limF CL 999999 nm) := fun r hr => by
    rw [fitsN_iff]
    unfold limF
    rw [limF_le]
    constructor
    · rintro ⟨h1, h2⟩
      exact ⟨h1, (hv r hr).2, fun c hc e => h2 c.need ((hm _).1 ⟨c, hc, rfl⟩) e⟩
    · rintro ⟨h1, _, h2⟩
      refine ⟨h1, fun m hm' e => ?_⟩
      obtain ⟨c, hc, rfl⟩ := (hm m).2 hm'
      exact h2 c hc e
  obtain ⟨a1, a2, a3⟩ := newestV_ok (fitsN (allNeeds l NS ws) nm) l 0
  obtain ⟨b1, b2, b3⟩ := lastV_ok nm (limF CL 999999 nm) R 0 hs.rises (fun p hp _ => by obtain ⟨r, hr, rfl⟩ := (hs.mem p).1 hp; exact (hv r hr).1)
  unfold lastV newestV
  generalize (l.foldl (fun v r => if fitsN (allNeeds l NS ws) nm r then max v r.ver else v) 0) = A at *
  generalize (R.foldl (fun v p => if p.name = nm ∧ p.ver ≤ limF CL 999999 nm then p.ver else v) 0) = B at *
  have h1 : B ≤ A := by
    rcases b1 with h | ⟨p, hp, hf, he⟩
    · omega
    · obtain ⟨r, hr, rfl⟩ := (hs.mem p).1 hp
      have := a3 r hr ((hfit r hr).2 hf)
      have e : B = r.ver := he
      omega
  have h2 : A ≤ B := by
    rcases a1 with h | ⟨r, hr, hf, he⟩
    · omega
    · have := b3 (relPk r) ((hs.mem _).2 ⟨r, hr, rfl⟩) ((hfit r hr).1 hf)
      have e : r.ver ≤ B := this
      omega
  omega
end Go.Proofs.YthgjdcomanabiaaGreatDoor

namespace Go.Proofs.YthgjdcomanabiaaGreatDoor
open Go.ChangeShapes Go.WideShapes Go.ChangeAt Go.RowKit
set_option linter.unusedVariables false

/-- What a Newest answers, whatever it is. -/
def NewestC (f : Nat) (T : World → Prop) (C : List Rel → List Imp → List Pk × Int) : Prop := ∀ (S : Nat → Prop) (l : List Rel) (ws : List Imp) (v u : Value) (w : World), (∀ b, S b → b < w.heap.size) → RelsAt S w v l → ImpsAt S w u ws →
  l.length ≤ 1048576 → (∀ x ∈ l, RelOK 1048576 x) → ws.length ≤ 1048576 → (∀ x ∈ ws, ImpOK 1048576 x) → (∀ W, Below w.heap.size w W → T W) →
  Calls Tryz.prog f #[v, u] w fun e w' => (∃ p, e = .returned (.tuple #[p, .int .i64 (C l ws).2]) ∧ OwnP w.heap.size w' p (C l ws).1) ∧ Below w.heap.size w w'

set_option maxRecDepth 100000 in
set_option maxHeartbeats 2000000 in
theorem newestWalk {T : World → Prop} {C : List Rel → List Imp → List Pk × Int} (hSp : NewestC 24 T C) (hIm : NewestC 25 T C) (hlen : ∀ l ws, (C l ws).1.length ≤ 1000000)
    (w : World) (v u : Value) (l : List Rel) (ws : List Imp) (h : RelsAt (fun b => b < w.heap.size) w v l) (hf : ∀ y ∈ l, RelFit y) (h2 : ImpsAt (fun b => b < w.heap.size) w u ws) (hf2 : ∀ y ∈ ws, y.name.size ≤ maxLen) (hT : ∀ W, Below w.heap.size w W → T W) :
    Calls Tryz.prog 5 #[v, u] w fun e w' => e = .returned (.bool true) ∧ Below w.heap.size w w' := by
  have c5 := szReleaseS (fun b hb => hb) h hf 1048576 (by omega) (by omega)
  have c10 := fun (W : World) (hW : Below w.heap.size w W) => szImportS (S := fun b => b < w.heap.size) (fun b hb => Nat.lt_of_lt_of_le hb hW.size) (h2.keep (cells_below (fun b hb => hb) hW)) hf2
  have HR : Hid (RelsAt (fun b => b < w.heap.size) w v l) := h
  have HI : Hid (ImpsAt (fun b => b < w.heap.size) w u ws) := h2
  have HT : Hid (∀ W, Below w.heap.size w W → T W) := hT
  have hP := hlen l ws
  have cs := fun S v u w => hSp S l ws v u w
  have ci := fun S v u w => hIm S l ws v u w
  obtain ⟨P, hPP⟩ : ∃ P, (C l ws).1 = P := ⟨_, rfl⟩
  obtain ⟨c, hc⟩ : ∃ c, (C l ws).2 = c := ⟨_, rfl⟩
  rw [hPP] at hP
  rw [hPP, hc] at cs ci
  clear hPP hc hSp hIm hlen
  obtain ⟨a, cap, hv⟩ := h.shape
  obtain ⟨a2, cap2, hu⟩ := h2.shape
  subst hv hu
  clear h h2 hT hf hf2
  have ct7 : ∀ W, Below w.heap.size w W → (l.length : Int) ≤ 1048576 → (∀ x ∈ l, RelOK 1048576 x) → Calls Tryz.prog 9 #[.slice a l.length cap] W fun e w' => (∃ v', e = .returned v' ∧ RowR W.heap.size w'.heap.size w' v' l ∧ W.heap.size < w'.heap.size) ∧ Below W.heap.size W w' := fun W hW h1 h2 =>
    toReleaseS (S := fun b => b < w.heap.size) (fun b hb => Nat.lt_of_lt_of_le hb hW.size) (HR.out.keep (cells_below (fun b hb => hb) hW)) (by omega) (fun x hx => by have := (h2 x hx).2.1; omega)
  have ct12 : ∀ W, Below w.heap.size w W → (ws.length : Int) ≤ 1048576 → Calls Tryz.prog 10 #[.slice a2 ws.length cap2] W fun e w' => (∃ v', e = .returned v' ∧ RowI w' W.heap.size v' ws) ∧ Below W.heap.size W w' := fun W hW h1 =>
    toImportS (S := fun b => b < w.heap.size) (fun b hb => Nat.lt_of_lt_of_le hb hW.size) (HI.out.keep (cells_below (fun b hb => hb) hW)) (by omega)
  go_enter Tryz.func5, Tryz.ntmps5
  go_upto_region 2 with fail
  go_cut [5] from 17 (fun s5 wx => ∃ r : Int, s5 = .int .i64 r ∧ (r = -1 ∨ (0 ≤ r ∧ r ≤ 1048576 ∧ (l.length : Int) ≤ 1048576 ∧ ∀ x ∈ l, RelOK 1048576 x)) ∧ Below w.heap.size w wx)
  case first =>
    go_wp2_with (go_at_call 6; go_must (refine c5.mono ?_; rintro e w1 ⟨⟨r, rfl, hr⟩, hb1⟩))
    go_meet
    exact ⟨r, rfl, hr, hb1⟩
  case rest =>
    obtain ⟨r, rfl, hr, hb1⟩ := hcut
    rcases hr with rfl | ⟨hr0, hr1, hll, hok⟩
    · go_wp2_with fail
      go_ret
      exact ⟨rfl, hb1⟩
    · have hr2 : ¬ (r < 0) := by omega
      have HOK : Hid (∀ x ∈ l, RelOK 1048576 x) := hok
      clear hok c5
      have c10' := c10 _ hb1 r hr0 hr1
      clear c10
      go_upto_region 5 with fail
      go_cut [5] from 17 (fun s5 wx => ∃ r : Int, s5 = .int .i64 r ∧ (r = -1 ∨ (0 ≤ r ∧ (ws.length : Int) ≤ 1048576 ∧ ∀ x ∈ ws, ImpOK 1048576 x)) ∧ Below w.heap.size w wx)
      case first =>
        go_wp2_with (go_at_call 7; go_must (refine c10'.mono ?_; rintro e w2 ⟨⟨r', rfl, hr'⟩, hb2⟩))
        go_meet
        exact ⟨r', rfl, hr'.imp id (fun h => ⟨h.1, by omega, fun x hx => (h.2.2.2 x hx).mono (by omega)⟩), good_below hb1 hb2⟩
      case rest =>
        clear hr2 hr0 hr1 c10' hb1
        obtain ⟨r2, rfl, hr, hb2⟩ := hcut
        rcases hr with rfl | ⟨hr0, hwl, hok⟩
        · go_wp2_with fail
          go_ret
          exact ⟨rfl, hb2⟩
        · have hr2 : ¬ (r2 < 0) := by omega
          have HOK2 : Hid (∀ x ∈ ws, ImpOK 1048576 x) := hok
          clear hok
          obtain ⟨wb, hwb⟩ : ∃ wb, wb = wc := ⟨_, rfl⟩
          subst hwb
          have cs' := fun S v u W (hW : Below w.heap.size w W) h1 h2 h3 => cs S v u W h1 h2 h3 (by omega) HOK.out (by omega) HOK2.out (fun W' hW' => HT.out W' (good_below hW hW'))
          have ci' := fun S v u W (hW : Below w.heap.size w W) h1 h2 h3 => ci S v u W h1 h2 h3 (by omega) HOK.out (by omega) HOK2.out (fun W' hW' => HT.out W' (good_below hW hW'))
          clear cs ci
          go_upto_region 8 with fail
          go_cut [6, 7] from 17 (fun s6 s7 wx => s7 = .int .i64 c ∧ (∃ B1, OwnP B1 wx s6 P) ∧ Below w.heap.size w wx)
          case first =>
            go_wp2_with (first
              | (go_at_call 9; go_must (refine (ct7 _ hb2 hll HOK.out).mono ?_; rintro e w3 ⟨⟨y0, rfl, hr3, lt3⟩, b3⟩; have hb3 := good_below hb2 b3))
              | (go_at_call 10; go_must (refine (ct12 _ hb3 hwl).mono ?_; rintro e w4 ⟨⟨y1, rfl, hi4⟩, b4⟩; have hb4 := good_below hb3 b4; have t4 := two_at hr3 lt3 hi4 b4))
              | (go_at_call 24; go_must (refine (cs' _ _ _ _ hb4 (fun b hb => hb.2) t4.1 t4.2).mono ?_; rintro e w5 ⟨⟨p, rfl, ho5⟩, b5⟩; have hb5 := good_below hb4 b5)))
            go_meet
            exact ⟨rfl, ⟨_, ho5⟩, hb5⟩
          case rest =>
            obtain ⟨rfl, ⟨B1, ho0⟩, hb5⟩ := hcut
            clear hr0 hr2 hb2 cs'
            obtain ⟨w5, hw5⟩ : ∃ w5, w5 = wc := ⟨_, rfl⟩
            subst hw5
            have hms : ∀ m ∈ l.map (fun x => x.needs.length), m ≤ 1048576 := fun m hm => by
              obtain ⟨x, hx, rfl⟩ := List.mem_map.1 hm
              have := (HOK.out x hx).2.1
              omega
            have HMS : Hid (∀ m ∈ l.map (fun x => x.needs.length), m ≤ 1048576) := hms
            clear hms
            have hneg2 : ¬ ((1 : Int) + 2 * (P.length : Int) < 0) := by omega
            go_upto_region 31 with (first
              | (go_at_call 9; have hchk := n10; refine (ct7 _ (good_below hb5 k10) hll HOK.out).mono ?_; rintro e w11 ⟨⟨y0, rfl, hr11, lt11⟩, b11⟩; have n11 := good_below n10 b11; have j11 := good_below (good_below b7 b8) n11; have x11 := hr6.keep (fun b _ hb => j11.block b hb) lt6)
              | (go_at_call 9; go_must (refine (ct7 _ hb5 hll HOK.out).mono ?_; rintro e w6 ⟨⟨x0, rfl, hr6, lt6⟩, b6⟩))
              | (go_at_call 10; have hchk := n12; refine (ct12 _ (good_below hb5 (good_below k8 n12)) hwl).mono ?_; rintro e w13 ⟨⟨y1, rfl, hi13⟩, b13⟩; have n13 := good_below n12 b13; have x13 := hi7.keep ((good_below b8 n13).block _ hi7.lt))
              | (go_at_call 10; go_must (refine (ct12 _ (good_below hb5 b6) hwl).mono ?_; rintro e w7 ⟨⟨x1, rfl, hi7⟩, b7⟩; have t7 := two_at hr6 lt6 hi7 b7; have h57 : Hid (w5.heap.size ≤ w7.heap.size) := (good_below b6 b7).size))
              | (go_at_call 25; go_must (refine (ci' _ _ _ _ (good_below hb5 (good_below b6 b7)) (fun b hb => hb.2) t7.1 t7.2).mono ?_; rintro e w8 ⟨⟨p1, rfl, ho8⟩, b8⟩; have k8 := good_below (good_below b6 b7) b8))
              | (go_at_call 12; have hchk := k16; refine (eqPickS hP ho16 (ho0.below k16)).mono ?_; rintro e w17 ⟨rfl, b17⟩; have k17 := good_below k16 b17)
              | (go_at_call 12; go_must (refine (eqPickS hP ho8 (ho0.below k8)).mono ?_; rintro e w9 ⟨rfl, b9⟩; have n10 := b9; have k10 := good_below k8 n10))
              | (go_at_call 13; go_must (refine (eqReleaseS (fun b hb => Nat.lt_of_lt_of_le hb.2 j11.size) (fun b hb => hb.2) (x11.rels lt6) (hr11.rels lt11)).mono ?_; rintro e w12 ⟨rfl, b12⟩; have n12 := good_below n11 b12))
              | (go_at_call 14; go_must (refine (eqImportS (S1 := fun b => b < w13.heap.size) (S2 := fun b => b < w13.heap.size) (fun b hb => hb) (fun b hb => hb) (x13.imps x13.lt) (hi13.imps hi13.lt)).mono ?_; rintro e w14 ⟨rfl, b14⟩; have n14 := good_below n13 b14; have k14 := good_below k8 n14; have j14 := good_below (good_below b7 b8) n14; have x14 := hr6.keep (fun b _ hb => j14.block b hb) lt6; have y14 := x13.keep (b14.block _ x13.lt)))
              | (go_at_call 15; go_must (refine (markReleaseS 1 (by omega) (by omega) (by simpa using (by omega : l.length ≤ 1048576)) HMS.out lt6 j14.size x14.sh).mono ?_; rintro e w15 ⟨⟨r15, rfl, hr15, hs15⟩, o15⟩; have y15 := y14.keep (o15.block _ y14.lt (fun hb => by have := hb.2; omega))))
              | (go_at_call 16; go_must (refine (markImportS r15 hr15 (by simp at hs15; omega) (by omega) y15.sh).mono ?_; rintro e w16 ⟨rfl, o16, _⟩; have O16 : OutS (fun b => w5.heap.size ≤ b ∧ b < w7.heap.size) w14 w16 := (o15.mono (fun b hb => ⟨hb.1, by have := hb.2; have := hi7.lt; omega⟩)).trans (o16.mono (fun b hb => by subst hb; exact ⟨by omega, hi7.lt⟩)); have k16 := k14.trans (O16.below (fun b hb => hb.1) k14.size); have ho16 := (ho8.below n14).out O16 (fun b hb => hb.2); have hneg : ¬ ((r15 : Int) + 3 * (ws.length : Int) < 0) := by omega))
              | (go_at_call 17; go_must (refine (markPickS 1 (by omega) (by omega) hP (ho16.below b17)).mono ?_; rintro e w19 ⟨rfl, o19, hm19⟩; have k19 := k17.trans (o19.below (fun b hb => Nat.le_trans h57.out (ho16.blk hb)) k17.size)))
              | (go_at_call 18; go_must (refine (heldPickS (by omega) (by omega) hP hm19).mono ?_; rintro e w21 ⟨rfl, b21⟩; have k22 := good_below k19 b21)))
            have hm22 := hm19.below b21
            have hb22 := good_below hb5 k22
            have ho22 := ho0.below k22
            clear hr6 hi7 t7 ho8 hr11 x11 hi13 x13 x14 y14 y15 o15 o16 O16 ho16 o19 hm19 ho0 h57 b7 b8 b9 b11 b12 b13 b14 b17 n10 n11 n13 n14 j11 j14 k8 k10 k14 k16 k17 k19 hchk
            go_cut [15, 16] from 17 (fun s15 s16 wx => s16 = .int .i64 c ∧ (∃ B2, OwnP B2 wx s15 P) ∧ Below w21.heap.size w21 wx)
            case first =>
              go_wp2_with (first
                | (go_at_call 9; go_must (refine (ct7 _ hb22 hll HOK.out).mono ?_; rintro e w23 ⟨⟨z0, rfl, hr23, lt23⟩, b23⟩; have hb23 := good_below hb22 b23))
                | (go_at_call 10; go_must (refine (ct12 _ hb23 hwl).mono ?_; rintro e w24 ⟨⟨z1, rfl, hi24⟩, b24⟩; have hb24 := good_below hb23 b24; have t24 := two_at hr23 lt23 hi24 b24))
                | (go_at_call 25; go_must (refine (ci' _ _ _ _ hb24 (fun b hb => hb.2) t24.1 t24.2).mono ?_; rintro e w25 ⟨⟨p2, rfl, ho25⟩, b25⟩)))
              go_meet
              exact ⟨rfl, ⟨_, ho25⟩, good_below (good_below b23 b24) b25⟩
            case rest =>
              obtain ⟨rfl, ⟨B2, ho25⟩, b25⟩ := hcut
              go_wp2_with (first
                | (go_at_call 12; go_must (refine (eqPickS hP ho25 (ho22.below b25)).mono ?_; rintro e w26 ⟨rfl, b26⟩; have b27' := good_below b25 b26))
                | (go_at_call 18; go_must (refine (heldPickS (by omega) (by omega) hP (hm22.below b27')).mono ?_; rintro e w28 ⟨rfl, b28⟩)))
              go_ret
              exact ⟨rfl, good_below hb22 (good_below b27' b28)⟩
end Go.Proofs.YthgjdcomanabiaaGreatDoor

namespace Go.Proofs.YthgjdcomanabiaaGreatDoor
open Go.ChangeShapes Go.WideShapes Go.ChangeAt Go.RowKit
open Go.Sort (grow putRow putCells mapBlock onCells heap_grow_old ahead HoldsK flatK get_flatK size_flatK putRowK PermIn SortedIn SWO)
set_option linter.unusedVariables false

instance : Inhabited Cl := ⟨⟨⟨#[]⟩, ⟨⟨#[]⟩, 0, 0⟩⟩⟩
def Cl.cells (c : Cl) : List Value := [.string c.owner, .string c.need.name, .int .i64 c.need.mn, .int .i64 c.need.mx]
def clCells (l : List Cl) : List Value := l.flatMap Cl.cells
theorem clCells_length (l : List Cl) : (clCells l).length = l.length * 4 := flat_len (enc := Cl.cells) (k := 4) (fun _ => rfl) l
theorem clCells_append (l k : List Cl) : clCells (l ++ k) = clCells l ++ clCells k := by simp [clCells]
def OwnC (B : Nat) (w : World) (v : Value) (l : List Cl) : Prop := w.ownsRow B 94 4 v l.length (clCells l)
theorem OwnC.below {B : Nat} {w w' : World} {v : Value} {l : List Cl} (h : OwnC B w v l) (hb : Below w.heap.size w w') : OwnC B w' v l := by
  obtain ⟨hl, h⟩ := h
  refine ⟨hl, ?_⟩
  rcases h with h | ⟨g, cap, cur, hv, hB, hg, h1, h2, h3, h4⟩
  · exact .inl h
  · refine .inr ⟨g, cap, cur, hv, hB, ?_, h1, h2, h3, h4⟩
    rw [hb.block g (Array.getElem?_eq_some_iff.1 hg).1]; exact hg
theorem OwnC.block {B : Nat} {w : World} {v : Value} {l : List Cl} (h : OwnC B w v l) : ∀ k, v.ownBlock = some k → B ≤ k := by
  intro k hk
  rcases h.2 with ⟨rfl, _⟩ | ⟨g, cap, cur, rfl, hB, _⟩
  · simp [Value.ownBlock] at hk
  · simp [Value.ownBlock] at hk; omega
theorem OwnC.kept {B : Nat} {w w' : World} {v : Value} {l : List Cl} {row : Option Nat} (h : OwnC B w v l) (hg : w.grownBy w' row) (hne : v.ownBlock = none ∨ v.ownBlock ≠ row) : OwnC B w' v l := World.ownsRow.kept h hg hne
theorem OwnC.mono {B B' : Nat} {w : World} {v : Value} {l : List Cl} (h : OwnC B w v l) (hB : B' ≤ B) : OwnC B' w v l := by
  obtain ⟨hl, h⟩ := h
  refine ⟨hl, ?_⟩
  rcases h with h | ⟨g, cap, cur, hv, hg, h⟩
  · exact .inl h
  · exact .inr ⟨g, cap, cur, hv, Nat.le_trans hB hg, h⟩
theorem OwnC.value {B : Nat} {w : World} {v : Value} {l : List Cl} (h : OwnC B w v l) :
    ∃ a cap, v = .slice a l.length cap ∧ (0 < l.length → ∃ g, a = some ⟨g, 0, none⟩ ∧ B ≤ g ∧ g < w.heap.size ∧ ∀ j (hj : j < l.length), w.cell? ⟨g, j * 4, none⟩ = some (.string l[j].owner) ∧ w.cell? ⟨g, j * 4 + 1, none⟩ = some (.string l[j].need.name) ∧ w.cell? ⟨g, j * 4 + 2, none⟩ = some (.int .i64 l[j].need.mn) ∧ w.cell? ⟨g, j * 4 + 3, none⟩ = some (.int .i64 l[j].need.mx)) := by
  rcases h.2 with ⟨rfl, h0⟩ | ⟨g, cap, cur, rfl, hB, hg, h1, h2, h3, h4⟩
  · exact ⟨none, 0, by rw [h0], fun h => by omega⟩
  · refine ⟨_, cap, rfl, fun _ => ⟨g, rfl, hB, (Array.getElem?_eq_some_iff.1 hg).1, fun j hj => ?_⟩⟩
    have hget : ∀ q, q < 4 → cur[j * 4 + q]? = (Cl.cells l[j])[q]? := fun q hq => by
      have hlt : j * 4 + q < l.length * 4 := by omega
      have e := flat_get (enc := Cl.cells) (k := 4) (fun _ => rfl) (by omega) l (j * 4 + q) hlt
      have e1 : (j * 4 + q) / 4 = j := by omega
      have e2 : (j * 4 + q) % 4 = q := by omega
      simp only [e1, e2] at e
      rw [show l.flatMap Cl.cells = clCells l from rfl, ← h4, List.getElem?_take, if_pos hlt, Array.getElem?_toList] at e
      exact e
    have q0 := hget 0 (by omega)
    have q1 := hget 1 (by omega)
    have q2 := hget 2 (by omega)
    have q3 := hget 3 (by omega)
    simp only [World.cell?, hg]
    simp [Cl.cells] at q0 q1 q2 q3 ⊢
    exact ⟨q0, q1, q2, q3⟩
def zeroCl : Value := .agg #[.string ⟨#[]⟩, .string ⟨#[]⟩, .int .i64 0, .int .i64 0]
theorem info115 : ∃ i, Tryz.prog.info? 94 = some i ∧ i.zero = some zeroCl ∧ i.size = 4 ∧ i.bytes = 48 := by
  have hi : (Tryz.prog.info? 94).map (fun i => (i.zero, i.size, i.bytes)) = some (some zeroCl, 4, 48) := by kernel_rfl
  cases h : Tryz.prog.info? 94 with
  | none => rw [h] at hi; simp at hi
  | some i =>
    rw [h] at hi
    simp only [Option.map_some, Option.some.injEq, Prod.mk.injEq] at hi
    exact ⟨i, rfl, hi.1, hi.2.1, hi.2.2⟩
theorem wpList_appendC {ops : Array Oper} {rest : List Oper} {o : Oper} {a : Act} {w : World} {Q : Exit → Act → World → Prop} (hgd : o.guard = none) (s x : Operand)
    (ho : o.op = .call { callee := .builtin .append, args := #[s, x], argTypes := #[91, 91] })
    (B : Nat) (v : Value) (l : List Cl) (hs : a.eval s = v) (hown : OwnC B w v l) (ad : Addr) (t : Cl) (hx : a.eval x = .slice (some ad) 1 1) (hnews : ∀ (j : Nat) u, t.cells[j]? = some u → w.cell? (ad.add j) = some u)
    (hsz : l.length ≤ 1000000) (hB : B ≤ w.heap.size)
    (h : ∀ va vn vc w', OwnC B w' (.slice va vn vc) (l ++ [t]) → Below B w w' → w.grownBy w' v.ownBlock → wpList Tryz.prog ops Q rest (a.put o.dst (.slice va vn vc)) w') : wpList Tryz.prog ops Q (o :: rest) a w := by
  obtain ⟨i, hii, hz0, hz1, hz2⟩ := info115
  refine wpList_append_own w hgd s x 91 ho B 94 i zeroCl 4 48 Tryz.underlying91 hii hz0 hz1 hz2 rfl (by decide) v l.length (clCells l) hs hown ad 1 1 (clCells [t]) hx (by rw [clCells_length]; rfl) ?_ ?_ ?_ ?_ hB ?_
  · intro j u hj
    exact hnews j u (by simpa [clCells] using hj)
  · intro u hu
    simp only [clCells, List.flatMap_cons, List.flatMap_nil, List.append_nil, Cl.cells, List.mem_cons, List.mem_nil_iff, or_false] at hu
    rcases hu with rfl | rfl | rfl | rfl <;> rfl
  · unfold maxLen; omega
  · omega
  · intro v' w' h1 h2 h3
    have h4 : OwnC B w' v' (l ++ [t]) := by
      unfold OwnC
      rw [clCells_append, List.length_append]
      exact h1
    have h5 := (Below.refl _ w).grown h2 hB (OwnC.block hown)
    rcases h4.2 with ⟨rfl, _⟩ | ⟨g, cap, cur, rfl, _⟩
    · exact h _ _ _ w' h4 h5 h2
    · exact h _ _ _ w' h4 h5 h2
theorem cl_new (w : World) (ow nm : ByteArray) (mn mx : Int) (j : Nat) (u : Value) (hj : (Cl.cells ⟨ow, ⟨nm, mn, mx⟩⟩)[j]? = some u) : (w.alloc (.cells #[.string ow, .string nm, .int .i64 mn, .int .i64 mx] 94)).cell? ((⟨w.heap.size, 0, none⟩ : Addr).add j) = some u := by
  rw [addr_at]
  simp only [World.cell?, heap_alloc_last, Nat.zero_add]
  simpa [Cl.cells] using hj

/-- By owner, then by name. -/
def cmpC (x y : Cl) : Int := if cmpT x.owner y.owner = 0 then cmpT x.need.name y.need.name else cmpT x.owner y.owner
theorem ltC (x y : Cl) : ltOf cmpC x y = clLess x y := by
  unfold ltOf cmpC clLess cmpT
  by_cases hn : x.owner = y.owner
  · rw [hn, lessB_irrefl]
    simp only [Bool.false_eq_true, if_false, if_true, decide_true, Bool.true_and, Bool.false_or]
    by_cases hm : x.need.name = y.need.name
    · rw [hm, lessB_irrefl]; simp
    · cases hl : lessB x.need.name y.need.name <;> simp [hm]
  · cases hl : lessB x.owner y.owner <;> simp [hn]
theorem clLess_trans {x y z : Cl} (h : clLess x y = true) (k : clLess y z = true) : clLess x z = true := by
  rw [clLess_iff] at *
  rcases h with h | ⟨h1, h2⟩ <;> rcases k with k | ⟨k1, k2⟩
  · exact .inl (lessB_trans h k)
  · exact .inl (k1 ▸ h)
  · exact .inl (h1 ▸ k)
  · exact .inr ⟨h1.trans k1, lessB_trans h2 k2⟩
theorem less_or {x y : ByteArray} (h : lessB x y = false) : x = y ∨ lessB y x = true := by
  by_cases e : x = y
  · exact .inl e
  · rcases lessB_total e with q | q
    · rw [h] at q; cases q
    · exact .inr q
theorem clLess_no {x y : Cl} (h : clLess x y = false) : clLess y x = true ∨ (x.owner = y.owner ∧ x.need.name = y.need.name) := by
  have h1 : lessB x.owner y.owner = false := by
    cases q : lessB x.owner y.owner
    · rfl
    · rw [(clLess_iff x y).2 (.inl q)] at h; cases h
  rcases less_or h1 with e | e
  · have h2 : lessB x.need.name y.need.name = false := by
      cases q : lessB x.need.name y.need.name
      · rfl
      · rw [(clLess_iff x y).2 (.inr ⟨e, q⟩)] at h; cases h
    rcases less_or h2 with e2 | e2
    · exact .inr ⟨e, e2⟩
    · exact .inl ((clLess_iff y x).2 (.inr ⟨e.symm, e2⟩))
  · exact .inl ((clLess_iff y x).2 (.inl e))
theorem swoC : SWO (ltOf cmpC) where
  irrefl x := by rw [ltC]; exact clLess_irrefl x
  trans x y z h1 h2 := by rw [ltC] at *; exact clLess_trans h1 h2
  ntrans x y z h1 h2 := by
    rw [ltC] at *
    cases h : clLess x z
    · rfl
    · rcases clLess_no h1 with q | ⟨q1, q2⟩
      · rw [clLess_trans q h] at h2; cases h2
      · have : clLess y z = true := by
          rw [clLess_iff] at h ⊢
          rw [← q1, ← q2]; exact h
        rw [h2] at this; cases this
theorem sortedC_of {l : List Cl} {d' : Array Cl} (hp : PermIn 0 l.toArray.size l.toArray d') (hs : SortedIn (ltOf cmpC) 0 l.toArray.size d') : SortedC l d'.toList := by
  obtain ⟨h1, _, h3⟩ := hp
  refine ⟨?_, ?_⟩
  · rw [← h1] at h3
    conv at h3 => lhs; rw [Array.extract_size]
    rw [h1, Array.extract_size] at h3
    simpa using h3
  · rw [List.pairwise_iff_getElem]
    intro i j hi hj hij
    simp only [Array.length_toList] at hi hj
    have := hs i j (Nat.zero_le _) hij (by omega)
    rw [ltC, getElem!_pos d' j hj, getElem!_pos d' i hi] at this
    simpa using this
set_option maxRecDepth 100000 in
theorem implBy (ow nm : ByteArray) (mn mx : Int) (w : World) : Calls Tryz.prog 73 #[.agg #[.string ow, .string nm, .int .i64 mn, .int .i64 mx]] w fun e w' => e = .returned (.string ow) ∧ w' = w.alloc (.cells #[.string ow, .string nm, .int .i64 mn, .int .i64 mx] 94) := by
  go_enter Tryz.func73, Tryz.ntmps73
  go_wp2_with fail
  go_ret
  exact ⟨rfl, rfl⟩
set_option maxRecDepth 100000 in
theorem implAbout (ow nm : ByteArray) (mn mx : Int) (w : World) : Calls Tryz.prog 74 #[.agg #[.string ow, .string nm, .int .i64 mn, .int .i64 mx]] w fun e w' => e = .returned (.string nm) ∧ w' = w.alloc (.cells #[.string ow, .string nm, .int .i64 mn, .int .i64 mx] 94) := by
  go_enter Tryz.func74, Tryz.ntmps74
  go_wp2_with fail
  go_ret
  exact ⟨rfl, rfl⟩
end Go.Proofs.YthgjdcomanabiaaGreatDoor
