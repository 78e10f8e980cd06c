/-
  What impl's areNames, partsOf, isPath answer. No statement of the seat is proved here.
-/
import Derived.Test.YtbfgabldioknfaaDoorP0
import Derived.Test.YtbfgabldioknfaaDoorShelf
import Derived.Shelf.Strings.SplitCore
namespace Go.Proofs.YtbfgabldioknfaaDoor
open Go.ChangeShapes Go.WideShapes Go.ChangeAt Go.RowKit
set_option linter.unusedVariables false

theorem any_takeW {α : Type} (l : List α) (f : α → Bool) (k : Nat) (h : k < l.length) (h0 : (l.take k).any f = false) (h1 : f l[k] = false) : (l.take (k + 1)).any f = false := by
  rw [List.take_succ_eq_append_getElem h, List.any_append, h0]
  simp [h1]

def noName (s : ByteArray) : Bool := !nameOK s
set_option maxRecDepth 100000 in
theorem implNoName (s : ByteArray) (hz : s.size ≤ 1048576) (w : World) (hT : Lib.Utf8Tabs 0 1 w) : Calls Tryd.prog 28 #[.string s] w fun e w' => e = .returned (.bool (noName s)) ∧ Below w.heap.size w w' := by
  have cn := implNameOK s w hT
  clear hT
  unfold noName
  obtain ⟨b, hb⟩ : ∃ b, nameOK s = b := ⟨_, rfl⟩
  rw [hb] at cn ⊢
  clear hb
  go_enter Tryd.func28, Tryd.ntmps28
  go_wp2_with (go_at_call 16; go_must (refine cn.mono ?_; rintro e w1 ⟨rfl, hb1⟩))
  go_ret
  exact ⟨by simp, hb1⟩

set_option maxRecDepth 100000 in
set_option maxHeartbeats 1000000 in
theorem implIndexN (ss : List ByteArray) (a : Option Addr) (cap : Nat) (w : World) (hlen : ss.length ≤ 1000000) (hz : ∀ s ∈ ss, s.size ≤ 1048576) (hc : 0 < ss.length → ∃ g, a = some ⟨g, 0, none⟩ ∧ g < w.heap.size ∧ ∀ j (hj : j < ss.length), w.cell? ⟨g, j, none⟩ = some (.string ss[j])) (hT : Lib.Utf8Tabs 0 1 w) :
    Calls Tryd.prog 27 #[.slice a ss.length cap, .func (.func 28) #[] #[]] w fun e w' => (∃ r : Int, e = .returned (.int .i64 r) ∧ decide (0 ≤ r) = ss.any noName) ∧ Below w.heap.size w w' := by
  have HC : Hid (0 < ss.length → ∃ g, a = some ⟨g, 0, none⟩ ∧ g < w.heap.size ∧ ∀ j (hj : j < ss.length), w.cell? ⟨g, j, none⟩ = some (.string ss[j])) := hc
  have HZ : Hid (∀ s ∈ ss, s.size ≤ 1048576) := hz
  have HT : Hid (Lib.Utf8Tabs 0 1 w) := hT
  have hlen' : (ss.length : Int) ≤ 1000000 := by omega
  clear hc hT hz
  go_enter Tryd.func27, Tryd.ntmps27
  go_wp2_with fail
  go_loopw [8] (fun i8 wr => ∃ (k : Nat), i8 = .int .i64 (k : Int) ∧ k ≤ ss.length ∧ (ss.take k).any noName = false ∧ Below w.heap.size w wr) (fun i8 _ => ss.length - (intOf i8).toNat)
  case atStart => exact ⟨0, rfl, by omega, by simp, Below.refl _ _⟩
  case round =>
    obtain ⟨k, rfl, hk, hany, hb⟩ := hrel
    have HA : Hid ((ss.take k).any noName = false) := hany
    clear hany
    by_cases hkn : k < ss.length
    · have hkn' : (k : Int) < (ss.length : Int) := by omega
      obtain ⟨g, rfl, hg, hcell⟩ := HC.out (by omega)
      have x1 := hcell k hkn
      have z1 := HZ.out ss[k] (List.getElem_mem hkn)
      obtain ⟨x, hx⟩ : ∃ x, ss[k] = x := ⟨_, rfl⟩
      have HX : Hid (ss[k] = x) := hx
      rw [hx] at x1 z1
      clear hx hcell
      have d1 := (hb.cell (p := ⟨g, k, none⟩) hg).trans x1
      have cn := implNoName x z1 wr (Utf8Tabs_below HT.out hb)
      obtain ⟨B1, hB1⟩ : ∃ B1, noName x = B1 := ⟨_, rfl⟩
      rw [hB1] at cn
      have HB1 : Hid (noName x = B1) := hB1
      clear hB1
      cases B1
      · go_wp2_with (go_at_call 28; go_must (refine cn.mono ?_; rintro e w1 ⟨rfl, hb1⟩))
        exact ⟨⟨k + 1, rfl, by omega, any_takeW ss _ k hkn HA.out (by rw [HX.out]; exact HB1.out), good_below hb hb1⟩, by simp [intOf]; omega⟩
      · go_wp2_with (go_at_call 28; go_must (refine cn.mono ?_; rintro e w1 ⟨rfl, hb1⟩))
        go_ret
        refine ⟨⟨_, rfl, ?_⟩, good_below hb hb1⟩
        rw [List.any_eq_true.2 ⟨ss[k], List.getElem_mem hkn, by rw [HX.out]; exact HB1.out⟩]
        simp
    · have hkn' : ¬ ((k : Int) < (ss.length : Int)) := by omega
      have hA := HA.out
      rw [List.take_of_length_le (by omega)] at hA
      go_wp2_with fail
      go_ret
      refine ⟨⟨_, rfl, ?_⟩, hb⟩
      first
        | (rw [hA]; rfl)
        | omega
set_option maxRecDepth 100000 in
theorem implContainsN (ss : List ByteArray) (a : Option Addr) (cap : Nat) (w : World) (hlen : ss.length ≤ 1000000) (hz : ∀ s ∈ ss, s.size ≤ 1048576) (hc : 0 < ss.length → ∃ g, a = some ⟨g, 0, none⟩ ∧ g < w.heap.size ∧ ∀ j (hj : j < ss.length), w.cell? ⟨g, j, none⟩ = some (.string ss[j])) (hT : Lib.Utf8Tabs 0 1 w) :
    Calls Tryd.prog 17 #[.slice a ss.length cap, .func (.func 28) #[] #[]] w fun e w' => e = .returned (.bool (ss.any noName)) ∧ Below w.heap.size w w' := by
  have c := implIndexN ss a cap w hlen hz hc hT
  clear hc hT hz
  go_enter Tryd.func17, Tryd.ntmps17
  go_wp2_with (go_at_call 27; go_must (refine c.mono ?_; rintro e w1 ⟨⟨r, rfl, hr⟩, hb1⟩))
  go_ret
  refine ⟨congrArg (fun b => Ending.returned (Value.bool b)) ?_, hb1⟩
  rw [← hr]

set_option maxRecDepth 100000 in
theorem implNames (ss : List ByteArray) (a : Option Addr) (cap : Nat) (w : World) (hlen : ss.length ≤ 1000000) (hz : ∀ s ∈ ss, s.size ≤ 1048576) (hc : 0 < ss.length → ∃ g, a = some ⟨g, 0, none⟩ ∧ g < w.heap.size ∧ ∀ j (hj : j < ss.length), w.cell? ⟨g, j, none⟩ = some (.string ss[j])) (hT : Lib.Utf8Tabs 0 1 w) :
    Calls Tryd.prog 18 #[.slice a ss.length cap] w fun e w' => e = .returned (.bool (ss.all (nameOK))) ∧ Below w.heap.size w w' := by
  have c := implContainsN ss a cap w hlen hz hc hT
  have hn : ss.all (nameOK) = !(ss.any noName) := by rw [List.all_eq_not_any_not]; rfl
  rw [hn]
  obtain ⟨b, hb⟩ : ∃ b, ss.any noName = b := ⟨_, rfl⟩
  rw [hb] at c ⊢
  clear hb hn hT hc hz
  go_enter Tryd.func18, Tryd.ntmps18
  go_wp2_with (go_at_call 17; go_must (refine c.mono ?_; rintro e w1 ⟨rfl, hb1⟩))
  go_ret
  exact ⟨by simp, hb1⟩

/-- strings.SplitN at a point into five. -/
theorem info9s : (Tryd.prog.info? 9).map (fun i => (i.zero, i.size, i.bytes)) = some (some (.string ByteArray.empty), 1, 16) := by kernel_rfl
theorem implGen (s : ByteArray) (hz : s.size ≤ 1048576) (w : World) :
    Calls Tryd.prog 29 #[.string s, .string ⟨#[46]⟩, .int .i64 0, .int .i64 5] w fun e w' =>
      e = .returned (.slice (some ⟨w.heap.size, 0, none⟩) (Lib.splitB ⟨#[46]⟩ 0 (min 5 (s.size + 1) - 1) s).length (min 5 (s.size + 1))) ∧ w' = w.alloc (.cells (Lib.cellsOf (Lib.splitB ⟨#[46]⟩ 0 (min 5 (s.size + 1) - 1) s) (min 5 (s.size + 1))) 9) := by
  refine Any.strings_genSplit_core Tryd.lays221 info9s s ⟨#[46]⟩ 0 5 (min 5 (s.size + 1)) w (by omega) (by decide) (by decide) (fun x c hx => ?_) ?_ (by decide) (by decide) ?_
  · refine (Tryd.strings_Index_one x 46 _).mono ?_
    rintro e w' ⟨rfl, rfl⟩
    refine ⟨?_, rfl⟩
    rw [show Lib.indexB x ⟨#[46]⟩ = Lib.indexByte x.data.toList 46 from Lib.index_one _ _]
  · refine (Tryd.strings_Count_one s 46 w).mono ?_
    rintro e w' ⟨rfl, rfl⟩
    refine ⟨?_, rfl⟩
    rw [show Lib.countB s ⟨#[46]⟩ = Lib.countByte s.data.toList 46 from Lib.count_one _ _]
  · rw [if_neg (by decide)]; omega
set_option maxRecDepth 100000 in
theorem implSplit (s : ByteArray) (hz : s.size ≤ 1048576) (w : World) :
    Calls Tryd.prog 19 #[.string s, .string ⟨#[46]⟩, .int .i64 5] w fun e w' =>
      e = .returned (.slice (some ⟨w.heap.size, 0, none⟩) (Lib.splitB ⟨#[46]⟩ 0 (min 5 (s.size + 1) - 1) s).length (min 5 (s.size + 1))) ∧ w' = w.alloc (.cells (Lib.cellsOf (Lib.splitB ⟨#[46]⟩ 0 (min 5 (s.size + 1) - 1) s) (min 5 (s.size + 1))) 9) := by
  have c := implGen s hz w
  go_enter Tryd.func19, Tryd.ntmps19
  go_wp2_with (go_at_call 29; go_must (refine c.mono ?_; rintro e w' ⟨rfl, rfl⟩))
  go_ret
  exact ⟨rfl, rfl⟩
theorem split_small (sep : ByteArray) (sv : Nat) : ∀ (k : Nat) (s : ByteArray), ∀ x ∈ Lib.splitB sep sv k s, x.size ≤ s.size
  | 0, s => by
    intro x hx
    rw [Lib.splitB_zero] at hx
    simp at hx; subst hx; exact Nat.le_refl _
  | k + 1, s => by
    intro x hx
    unfold Lib.splitB at hx
    split at hx
    · simp at hx; subst hx; exact Nat.le_refl _
    · rcases List.mem_cons.1 hx with rfl | hx
      · simp only [ByteArray.size_extract]; omega
      · have := split_small sep sv k _ x hx
        simp only [ByteArray.size_extract] at this
        omega
theorem cells_split (w : World) (ps : List ByteArray) (N : Nat) (e : TypeId) (h : ps.length ≤ N) : ∀ j (hj : j < ps.length), (w.alloc (.cells (Lib.cellsOf ps N) e)).cell? ⟨w.heap.size, j, none⟩ = some (.string ps[j]) := by
  intro j hj
  have hb : Blk (w.alloc (.cells (Lib.cellsOf ps N) e)) w.heap.size e (Lib.cellsOf ps N) := heap_alloc_last w _
  rw [hb.cell]
  unfold Lib.cellsOf
  rw [List.getElem?_toArray, List.getElem?_append_left (by simpa using hj), List.getElem?_map, List.getElem?_eq_getElem hj]
  rfl
set_option maxRecDepth 100000 in
theorem implParts (s : ByteArray) (hz : s.size ≤ 1048576) (w : World) :
    Calls Tryd.prog 13 #[.string s] w fun e w' =>
      e = .returned (.slice (some ⟨w.heap.size, 0, none⟩) (partsF s).length (min 5 (s.size + 1))) ∧ w' = w.alloc (.cells (Lib.cellsOf (partsF s) (min 5 (s.size + 1))) 9) := by
  have c := implSplit s hz w
  change Calls Tryd.prog 19 #[.string s, .string ⟨#[46]⟩, .int .i64 5] w fun e w' => e = .returned (.slice (some ⟨w.heap.size, 0, none⟩) (partsF s).length (min 5 (s.size + 1))) ∧ w' = w.alloc (.cells (Lib.cellsOf (partsF s) (min 5 (s.size + 1))) 9) at c
  obtain ⟨ps, hp⟩ : ∃ ps, partsF s = ps := ⟨_, rfl⟩
  obtain ⟨K, hK⟩ : ∃ K, min 5 (s.size + 1) = K := ⟨_, rfl⟩
  rw [hp, hK] at c ⊢
  clear hp hK
  go_enter Tryd.func13, Tryd.ntmps13
  go_wp2_with (go_at_call 19; go_must (refine c.mono ?_; rintro e w' ⟨rfl, rfl⟩))
  go_ret
  exact ⟨rfl, rfl⟩
set_option maxRecDepth 100000 in
theorem implIsPath (s : ByteArray) (hz : s.size ≤ 1048576) (w : World) (hT : Lib.Utf8Tabs 0 1 w) : Calls Tryd.prog 11 #[.agg #[.string s]] w fun e w' => e = .returned (.bool (pathB nameOK s)) ∧ Below w.heap.size w w' := by
  have hw1 : ∀ o, Below w.heap.size w (w.alloc o) := fun o => (Below.refl _ w).alloc (Nat.le_refl _) _
  have cs := fun w => implParts s hz w
  have hps : (partsF s).all nameOK = pathB nameOK s := path_split s
  have hsm : ∀ x ∈ partsF s, x.size ≤ 1048576 := fun x hx => Nat.le_trans (split_small ⟨#[46]⟩ 0 (min 5 (s.size + 1) - 1) s x hx) hz
  have hl : (partsF s).length ≤ min 5 (s.size + 1) - 1 + 1 := Lib.splitB_length_le ⟨#[46]⟩ 0 (min 5 (s.size + 1) - 1) s
  obtain ⟨ps, hp⟩ : ∃ ps, partsF s = ps := ⟨_, rfl⟩
  obtain ⟨K, hK⟩ : ∃ K, min 5 (s.size + 1) = K := ⟨_, rfl⟩
  rw [hp] at hps hsm hl
  simp only [hp] at cs
  rw [hK] at hl
  simp only [hK] at cs
  have hK1 : ps.length ≤ K := by omega
  have cn := fun w1 (hT1 : Lib.Utf8Tabs 0 1 w1) => implNames ps (some ⟨w1.heap.size, 0, none⟩) K (w1.alloc (.cells (Lib.cellsOf ps K) 9)) (by omega) hsm (fun _ => ⟨_, rfl, by simp, cells_split w1 ps K _ hK1⟩) (Utf8Tabs_below hT1 ((Below.refl _ w1).alloc (Nat.le_refl _) _))
  rw [hps] at cn
  have hT2 : Lib.Utf8Tabs 0 1 (w.alloc (.cells #[.string s] 28)) := Utf8Tabs_below hT (hw1 _)
  have cn' := cn _ hT2
  rw [World.size_alloc] at cn'
  obtain ⟨b, hb⟩ : ∃ b, pathB nameOK s = b := ⟨_, rfl⟩
  rw [hb] at cn' ⊢
  clear hb cn hT hT2 hps hsm hl hp hK hK1
  go_enter Tryd.func11, Tryd.ntmps11
  go_wp2_with (first
    | (go_at_call 13; go_must (refine (cs _).mono ?_; rintro e w1 ⟨rfl, rfl⟩; simp only [World.size_alloc]))
    | (go_at_call 18; go_must (refine cn'.mono ?_; rintro e w2 ⟨rfl, hb2⟩)))
  go_ret
  exact ⟨rfl, good_below ((hw1 _).alloc (by simp) _) hb2⟩

end Go.Proofs.YtbfgabldioknfaaDoor
