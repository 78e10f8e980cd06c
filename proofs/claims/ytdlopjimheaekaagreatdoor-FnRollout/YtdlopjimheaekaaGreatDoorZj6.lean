/-
  What impl's areNames, isPath, arePaths, areSingle, isLongWord answer. spec.l08Over: its walk. Settings laid over one another, as plain data. What impl's isWithin, meets, areEntries, areLayers answer. What impl's areEntries, areLayers answer: their walks. Settings that rise by path; layers in their order: plain facts. A map of settings; what impl's lay does to it. No statement of the seat is proved here.
-/
import Derived.Test.YtdlopjimheaekaaGreatDoorZj5
import Derived.Shelf.Strings.SplitCore
import Derived.Deep.CutBlock
import Derived.Deep.CutRange
import Derived.Maps.RangeWalk
namespace Go.Proofs.YtdlopjimheaekaaGreatDoor
open Go.ChangeShapes Go.WideShapes Go.ChangeAt Go.RowKit
set_option linter.unusedVariables false

theorem any_takeW {α : Type} (l : List α) (f : α → Bool) (k : Nat) (h : k < l.length) (h0 : (l.take k).any f = false) (h1 : f l[k] = false) : (l.take (k + 1)).any f = false := by
  rw [List.take_succ_eq_append_getElem h, List.any_append, h0]
  simp [h1]

def noName (s : ByteArray) : Bool := !nameOK s
set_option maxRecDepth 100000 in
theorem implNoName (s : ByteArray) (hz : s.size ≤ 1048576) (w : World) (hT : Lib.Utf8Tabs 0 1 w) : Calls Tryz.prog 47 #[.string s] w fun e w' => e = .returned (.bool (noName s)) ∧ Below w.heap.size w w' := by
  have cn := implNameOK s w hT
  clear hT
  unfold noName
  obtain ⟨b, hb⟩ : ∃ b, nameOK s = b := ⟨_, rfl⟩
  rw [hb] at cn ⊢
  clear hb
  go_enter Tryz.func47, Tryz.ntmps47
  go_wp2_with (go_at_call 48; go_must (refine cn.mono ?_; rintro e w1 ⟨rfl, hb1⟩))
  go_ret
  exact ⟨by simp, hb1⟩

set_option maxRecDepth 100000 in
set_option maxHeartbeats 1000000 in
theorem implIndexN (ss : List ByteArray) (a : Option Addr) (cap : Nat) (w : World) (hlen : ss.length ≤ 1000000) (hz : ∀ s ∈ ss, s.size ≤ 1048576) (hc : 0 < ss.length → ∃ g, a = some ⟨g, 0, none⟩ ∧ g < w.heap.size ∧ ∀ j (hj : j < ss.length), w.cell? ⟨g, j, none⟩ = some (.string ss[j])) (hT : Lib.Utf8Tabs 0 1 w) :
    Calls Tryz.prog 79 #[.slice a ss.length cap, .func (.func 47) #[] #[]] w fun e w' => (∃ r : Int, e = .returned (.int .i64 r) ∧ decide (0 ≤ r) = ss.any noName) ∧ Below w.heap.size w w' := by
  have HC : Hid (0 < ss.length → ∃ g, a = some ⟨g, 0, none⟩ ∧ g < w.heap.size ∧ ∀ j (hj : j < ss.length), w.cell? ⟨g, j, none⟩ = some (.string ss[j])) := hc
  have HZ : Hid (∀ s ∈ ss, s.size ≤ 1048576) := hz
  have HT : Hid (Lib.Utf8Tabs 0 1 w) := hT
  have hlen' : (ss.length : Int) ≤ 1000000 := by omega
  clear hc hT hz
  go_enter Tryz.func79, Tryz.ntmps79
  go_wp2_with fail
  go_loopw [8] (fun i8 wr => ∃ (k : Nat), i8 = .int .i64 (k : Int) ∧ k ≤ ss.length ∧ (ss.take k).any noName = false ∧ Below w.heap.size w wr) (fun i8 _ => ss.length - (intOf i8).toNat)
  case atStart => exact ⟨0, rfl, by omega, by simp, Below.refl _ _⟩
  case round =>
    obtain ⟨k, rfl, hk, hany, hb⟩ := hrel
    have HA : Hid ((ss.take k).any noName = false) := hany
    clear hany
    by_cases hkn : k < ss.length
    · have hkn' : (k : Int) < (ss.length : Int) := by omega
      obtain ⟨g, rfl, hg, hcell⟩ := HC.out (by omega)
      have x1 := hcell k hkn
      have z1 := HZ.out ss[k] (List.getElem_mem hkn)
      obtain ⟨x, hx⟩ : ∃ x, ss[k] = x := ⟨_, rfl⟩
      have HX : Hid (ss[k] = x) := hx
      rw [hx] at x1 z1
      clear hx hcell
      have d1 := (hb.cell (p := ⟨g, k, none⟩) hg).trans x1
      have cn := implNoName x z1 wr (Utf8Tabs_below HT.out hb)
      obtain ⟨B1, hB1⟩ : ∃ B1, noName x = B1 := ⟨_, rfl⟩
      rw [hB1] at cn
      have HB1 : Hid (noName x = B1) := hB1
      clear hB1
      cases B1
      · go_wp2_with (go_at_call 47; go_must (refine cn.mono ?_; rintro e w1 ⟨rfl, hb1⟩))
        exact ⟨⟨k + 1, rfl, by omega, any_takeW ss _ k hkn HA.out (by rw [HX.out]; exact HB1.out), good_below hb hb1⟩, by simp [intOf]; omega⟩
      · go_wp2_with (go_at_call 47; go_must (refine cn.mono ?_; rintro e w1 ⟨rfl, hb1⟩))
        go_ret
        refine ⟨⟨_, rfl, ?_⟩, good_below hb hb1⟩
        rw [List.any_eq_true.2 ⟨ss[k], List.getElem_mem hkn, by rw [HX.out]; exact HB1.out⟩]
        simp
    · have hkn' : ¬ ((k : Int) < (ss.length : Int)) := by omega
      have hA := HA.out
      rw [List.take_of_length_le (by omega)] at hA
      go_wp2_with fail
      go_ret
      refine ⟨⟨_, rfl, ?_⟩, hb⟩
      first
        | (rw [hA]; rfl)
        | omega
set_option maxRecDepth 100000 in
theorem implContainsN (ss : List ByteArray) (a : Option Addr) (cap : Nat) (w : World) (hlen : ss.length ≤ 1000000) (hz : ∀ s ∈ ss, s.size ≤ 1048576) (hc : 0 < ss.length → ∃ g, a = some ⟨g, 0, none⟩ ∧ g < w.heap.size ∧ ∀ j (hj : j < ss.length), w.cell? ⟨g, j, none⟩ = some (.string ss[j])) (hT : Lib.Utf8Tabs 0 1 w) :
    Calls Tryz.prog 44 #[.slice a ss.length cap, .func (.func 47) #[] #[]] w fun e w' => e = .returned (.bool (ss.any noName)) ∧ Below w.heap.size w w' := by
  have c := implIndexN ss a cap w hlen hz hc hT
  clear hc hT hz
  go_enter Tryz.func44, Tryz.ntmps44
  go_wp2_with (go_at_call 79; go_must (refine c.mono ?_; rintro e w1 ⟨⟨r, rfl, hr⟩, hb1⟩))
  go_ret
  refine ⟨congrArg (fun b => Ending.returned (Value.bool b)) ?_, hb1⟩
  rw [← hr]

set_option maxRecDepth 100000 in
theorem implNames (ss : List ByteArray) (a : Option Addr) (cap : Nat) (w : World) (hlen : ss.length ≤ 1000000) (hz : ∀ s ∈ ss, s.size ≤ 1048576) (hc : 0 < ss.length → ∃ g, a = some ⟨g, 0, none⟩ ∧ g < w.heap.size ∧ ∀ j (hj : j < ss.length), w.cell? ⟨g, j, none⟩ = some (.string ss[j])) (hT : Lib.Utf8Tabs 0 1 w) :
    Calls Tryz.prog 21 #[.slice a ss.length cap] w fun e w' => e = .returned (.bool (ss.all (nameOK))) ∧ Below w.heap.size w w' := by
  have c := implContainsN ss a cap w hlen hz hc hT
  have hn : ss.all (nameOK) = !(ss.any noName) := by rw [List.all_eq_not_any_not]; rfl
  rw [hn]
  obtain ⟨b, hb⟩ : ∃ b, ss.any noName = b := ⟨_, rfl⟩
  rw [hb] at c ⊢
  clear hb hn hT hc hz
  go_enter Tryz.func21, Tryz.ntmps21
  go_wp2_with (go_at_call 44; go_must (refine c.mono ?_; rintro e w1 ⟨rfl, hb1⟩))
  go_ret
  exact ⟨by simp, hb1⟩

/-- strings.SplitN at a point into five. -/
theorem info9s : (Tryz.prog.info? 9).map (fun i => (i.zero, i.size, i.bytes)) = some (some (.string ByteArray.empty), 1, 16) := by kernel_rfl
theorem implGen (s : ByteArray) (hz : s.size ≤ 1048576) (w : World) :
    Calls Tryz.prog 141 #[.string s, .string ⟨#[46]⟩, .int .i64 0, .int .i64 5] w fun e w' =>
      e = .returned (.slice (some ⟨w.heap.size, 0, none⟩) (Lib.splitB ⟨#[46]⟩ 0 (min 5 (s.size + 1) - 1) s).length (min 5 (s.size + 1))) ∧ w' = w.alloc (.cells (Lib.cellsOf (Lib.splitB ⟨#[46]⟩ 0 (min 5 (s.size + 1) - 1) s) (min 5 (s.size + 1))) 9) := by
  refine Any.strings_genSplit_core Tryz.lays221 info9s s ⟨#[46]⟩ 0 5 (min 5 (s.size + 1)) w (by omega) (by decide) (by decide) (fun x c hx => ?_) ?_ (by decide) (by decide) ?_
  · refine (Tryz.strings_Index_one x 46 _).mono ?_
    rintro e w' ⟨rfl, rfl⟩
    refine ⟨?_, rfl⟩
    rw [show Lib.indexB x ⟨#[46]⟩ = Lib.indexByte x.data.toList 46 from Lib.index_one _ _]
  · refine (Tryz.strings_Count_one s 46 w).mono ?_
    rintro e w' ⟨rfl, rfl⟩
    refine ⟨?_, rfl⟩
    rw [show Lib.countB s ⟨#[46]⟩ = Lib.countByte s.data.toList 46 from Lib.count_one _ _]
  · rw [if_neg (by decide)]; omega
set_option maxRecDepth 100000 in
theorem implSplit (s : ByteArray) (hz : s.size ≤ 1048576) (w : World) :
    Calls Tryz.prog 119 #[.string s, .string ⟨#[46]⟩, .int .i64 5] w fun e w' =>
      e = .returned (.slice (some ⟨w.heap.size, 0, none⟩) (Lib.splitB ⟨#[46]⟩ 0 (min 5 (s.size + 1) - 1) s).length (min 5 (s.size + 1))) ∧ w' = w.alloc (.cells (Lib.cellsOf (Lib.splitB ⟨#[46]⟩ 0 (min 5 (s.size + 1) - 1) s) (min 5 (s.size + 1))) 9) := by
  have c := implGen s hz w
  go_enter Tryz.func119, Tryz.ntmps119
  go_wp2_with (go_at_call 141; go_must (refine c.mono ?_; rintro e w' ⟨rfl, rfl⟩))
  go_ret
  exact ⟨rfl, rfl⟩
theorem split_small (sep : ByteArray) (sv : Nat) : ∀ (k : Nat) (s : ByteArray), ∀ x ∈ Lib.splitB sep sv k s, x.size ≤ s.size
  | 0, s => by
    intro x hx
    rw [Lib.splitB_zero] at hx
    simp at hx; subst hx; exact Nat.le_refl _
  | k + 1, s => by
    intro x hx
    unfold Lib.splitB at hx
    split at hx
    · simp at hx; subst hx; exact Nat.le_refl _
    · rcases List.mem_cons.1 hx with rfl | hx
      · simp only [ByteArray.size_extract]; omega
      · have := split_small sep sv k _ x hx
        simp only [ByteArray.size_extract] at this
        omega
theorem cells_split (w : World) (ps : List ByteArray) (N : Nat) (e : TypeId) (h : ps.length ≤ N) : ∀ j (hj : j < ps.length), (w.alloc (.cells (Lib.cellsOf ps N) e)).cell? ⟨w.heap.size, j, none⟩ = some (.string ps[j]) := by
  intro j hj
  have hb : Blk (w.alloc (.cells (Lib.cellsOf ps N) e)) w.heap.size e (Lib.cellsOf ps N) := heap_alloc_last w _
  rw [hb.cell]
  unfold Lib.cellsOf
  rw [List.getElem?_toArray, List.getElem?_append_left (by simpa using hj), List.getElem?_map, List.getElem?_eq_getElem hj]
  rfl
/-- A text's parts, as SplitN into five gives them. -/
def partsF (t : ByteArray) : List ByteArray := Lib.splitB ⟨#[46]⟩ 0 (min 5 (t.size + 1) - 1) t
set_option maxRecDepth 100000 in
theorem implParts (s : ByteArray) (hz : s.size ≤ 1048576) (w : World) :
    Calls Tryz.prog 99 #[.string s] w fun e w' =>
      e = .returned (.slice (some ⟨w.heap.size, 0, none⟩) (partsF s).length (min 5 (s.size + 1))) ∧ w' = w.alloc (.cells (Lib.cellsOf (partsF s) (min 5 (s.size + 1))) 9) := by
  have c := implSplit s hz w
  change Calls Tryz.prog 119 #[.string s, .string ⟨#[46]⟩, .int .i64 5] w fun e w' => e = .returned (.slice (some ⟨w.heap.size, 0, none⟩) (partsF s).length (min 5 (s.size + 1))) ∧ w' = w.alloc (.cells (Lib.cellsOf (partsF s) (min 5 (s.size + 1))) 9) at c
  obtain ⟨ps, hp⟩ : ∃ ps, partsF s = ps := ⟨_, rfl⟩
  obtain ⟨K, hK⟩ : ∃ K, min 5 (s.size + 1) = K := ⟨_, rfl⟩
  rw [hp, hK] at c ⊢
  clear hp hK
  go_enter Tryz.func99, Tryz.ntmps99
  go_wp2_with (go_at_call 119; go_must (refine c.mono ?_; rintro e w' ⟨rfl, rfl⟩))
  go_ret
  exact ⟨rfl, rfl⟩
set_option maxRecDepth 100000 in
theorem implIsPath (s : ByteArray) (hz : s.size ≤ 1048576) (w : World) (hT : Lib.Utf8Tabs 0 1 w) : Calls Tryz.prog 76 #[.agg #[.string s]] w fun e w' => e = .returned (.bool (pathB nameOK s)) ∧ Below w.heap.size w w' := by
  have hw1 : ∀ o, Below w.heap.size w (w.alloc o) := fun o => (Below.refl _ w).alloc (Nat.le_refl _) _
  have cs := fun w => implParts s hz w
  have hps : (partsF s).all nameOK = pathB nameOK s := path_split s
  have hsm : ∀ x ∈ partsF s, x.size ≤ 1048576 := fun x hx => Nat.le_trans (split_small ⟨#[46]⟩ 0 (min 5 (s.size + 1) - 1) s x hx) hz
  have hl : (partsF s).length ≤ min 5 (s.size + 1) - 1 + 1 := Lib.splitB_length_le ⟨#[46]⟩ 0 (min 5 (s.size + 1) - 1) s
  obtain ⟨ps, hp⟩ : ∃ ps, partsF s = ps := ⟨_, rfl⟩
  obtain ⟨K, hK⟩ : ∃ K, min 5 (s.size + 1) = K := ⟨_, rfl⟩
  rw [hp] at hps hsm hl
  simp only [hp] at cs
  rw [hK] at hl
  simp only [hK] at cs
  have hK1 : ps.length ≤ K := by omega
  have cn := fun w1 (hT1 : Lib.Utf8Tabs 0 1 w1) => implNames ps (some ⟨w1.heap.size, 0, none⟩) K (w1.alloc (.cells (Lib.cellsOf ps K) 9)) (by omega) hsm (fun _ => ⟨_, rfl, by simp, cells_split w1 ps K _ hK1⟩) (Utf8Tabs_below hT1 ((Below.refl _ w1).alloc (Nat.le_refl _) _))
  rw [hps] at cn
  have hT2 : Lib.Utf8Tabs 0 1 (w.alloc (.cells #[.string s] 84)) := Utf8Tabs_below hT (hw1 _)
  have cn' := cn _ hT2
  rw [World.size_alloc] at cn'
  obtain ⟨b, hb⟩ : ∃ b, pathB nameOK s = b := ⟨_, rfl⟩
  rw [hb] at cn' ⊢
  clear hb cn hT hT2 hps hsm hl hp hK hK1
  go_enter Tryz.func76, Tryz.ntmps76
  go_wp2_with (first
    | (go_at_call 99; go_must (refine (cs _).mono ?_; rintro e w1 ⟨rfl, rfl⟩; simp only [World.size_alloc]))
    | (go_at_call 21; go_must (refine cn'.mono ?_; rintro e w2 ⟨rfl, hb2⟩)))
  go_ret
  exact ⟨rfl, good_below ((hw1 _).alloc (by simp) _) hb2⟩

def noPath (s : ByteArray) : Bool := !pathB nameOK s
set_option maxRecDepth 100000 in
theorem implNoPath (s : ByteArray) (hz : s.size ≤ 1048576) (w : World) (hT : Lib.Utf8Tabs 0 1 w) : Calls Tryz.prog 102 #[.string s] w fun e w' => e = .returned (.bool (noPath s)) ∧ Below w.heap.size w w' := by
  have cn := implIsPath s hz w hT
  clear hT
  unfold noPath
  obtain ⟨b, hb⟩ : ∃ b, pathB nameOK s = b := ⟨_, rfl⟩
  rw [hb] at cn ⊢
  clear hb
  go_enter Tryz.func102, Tryz.ntmps102
  go_wp2_with (go_at_call 76; go_must (refine cn.mono ?_; rintro e w1 ⟨rfl, hb1⟩))
  go_ret
  exact ⟨by simp, hb1⟩

set_option maxRecDepth 100000 in
set_option maxHeartbeats 1000000 in
theorem implIndexP (ss : List ByteArray) (a : Option Addr) (cap : Nat) (w : World) (hlen : ss.length ≤ 1000000) (hz : ∀ s ∈ ss, s.size ≤ 1048576) (hc : 0 < ss.length → ∃ g, a = some ⟨g, 0, none⟩ ∧ g < w.heap.size ∧ ∀ j (hj : j < ss.length), w.cell? ⟨g, j, none⟩ = some (.string ss[j])) (hT : Lib.Utf8Tabs 0 1 w) :
    Calls Tryz.prog 79 #[.slice a ss.length cap, .func (.func 102) #[] #[]] w fun e w' => (∃ r : Int, e = .returned (.int .i64 r) ∧ decide (0 ≤ r) = ss.any noPath) ∧ Below w.heap.size w w' := by
  have HC : Hid (0 < ss.length → ∃ g, a = some ⟨g, 0, none⟩ ∧ g < w.heap.size ∧ ∀ j (hj : j < ss.length), w.cell? ⟨g, j, none⟩ = some (.string ss[j])) := hc
  have HZ : Hid (∀ s ∈ ss, s.size ≤ 1048576) := hz
  have HT : Hid (Lib.Utf8Tabs 0 1 w) := hT
  have hlen' : (ss.length : Int) ≤ 1000000 := by omega
  clear hc hT hz
  go_enter Tryz.func79, Tryz.ntmps79
  go_wp2_with fail
  go_loopw [8] (fun i8 wr => ∃ (k : Nat), i8 = .int .i64 (k : Int) ∧ k ≤ ss.length ∧ (ss.take k).any noPath = false ∧ Below w.heap.size w wr) (fun i8 _ => ss.length - (intOf i8).toNat)
  case atStart => exact ⟨0, rfl, by omega, by simp, Below.refl _ _⟩
  case round =>
    obtain ⟨k, rfl, hk, hany, hb⟩ := hrel
    have HA : Hid ((ss.take k).any noPath = false) := hany
    clear hany
    by_cases hkn : k < ss.length
    · have hkn' : (k : Int) < (ss.length : Int) := by omega
      obtain ⟨g, rfl, hg, hcell⟩ := HC.out (by omega)
      have x1 := hcell k hkn
      have z1 := HZ.out ss[k] (List.getElem_mem hkn)
      obtain ⟨x, hx⟩ : ∃ x, ss[k] = x := ⟨_, rfl⟩
      have HX : Hid (ss[k] = x) := hx
      rw [hx] at x1 z1
      clear hx hcell
      have d1 := (hb.cell (p := ⟨g, k, none⟩) hg).trans x1
      have cn := implNoPath x z1 wr (Utf8Tabs_below HT.out hb)
      obtain ⟨B1, hB1⟩ : ∃ B1, noPath x = B1 := ⟨_, rfl⟩
      rw [hB1] at cn
      have HB1 : Hid (noPath x = B1) := hB1
      clear hB1
      cases B1
      · go_wp2_with (go_at_call 102; go_must (refine cn.mono ?_; rintro e w1 ⟨rfl, hb1⟩))
        exact ⟨⟨k + 1, rfl, by omega, any_takeW ss _ k hkn HA.out (by rw [HX.out]; exact HB1.out), good_below hb hb1⟩, by simp [intOf]; omega⟩
      · go_wp2_with (go_at_call 102; go_must (refine cn.mono ?_; rintro e w1 ⟨rfl, hb1⟩))
        go_ret
        refine ⟨⟨_, rfl, ?_⟩, good_below hb hb1⟩
        rw [List.any_eq_true.2 ⟨ss[k], List.getElem_mem hkn, by rw [HX.out]; exact HB1.out⟩]
        simp
    · have hkn' : ¬ ((k : Int) < (ss.length : Int)) := by omega
      have hA := HA.out
      rw [List.take_of_length_le (by omega)] at hA
      go_wp2_with fail
      go_ret
      refine ⟨⟨_, rfl, ?_⟩, hb⟩
      first
        | (rw [hA]; rfl)
        | omega
set_option maxRecDepth 100000 in
theorem implContainsP (ss : List ByteArray) (a : Option Addr) (cap : Nat) (w : World) (hlen : ss.length ≤ 1000000) (hz : ∀ s ∈ ss, s.size ≤ 1048576) (hc : 0 < ss.length → ∃ g, a = some ⟨g, 0, none⟩ ∧ g < w.heap.size ∧ ∀ j (hj : j < ss.length), w.cell? ⟨g, j, none⟩ = some (.string ss[j])) (hT : Lib.Utf8Tabs 0 1 w) :
    Calls Tryz.prog 44 #[.slice a ss.length cap, .func (.func 102) #[] #[]] w fun e w' => e = .returned (.bool (ss.any noPath)) ∧ Below w.heap.size w w' := by
  have c := implIndexP ss a cap w hlen hz hc hT
  clear hc hT hz
  go_enter Tryz.func44, Tryz.ntmps44
  go_wp2_with (go_at_call 79; go_must (refine c.mono ?_; rintro e w1 ⟨⟨r, rfl, hr⟩, hb1⟩))
  go_ret
  refine ⟨congrArg (fun b => Ending.returned (Value.bool b)) ?_, hb1⟩
  rw [← hr]

set_option maxRecDepth 100000 in
theorem implPaths (ss : List ByteArray) (a : Option Addr) (cap : Nat) (w : World) (hlen : ss.length ≤ 1000000) (hz : ∀ s ∈ ss, s.size ≤ 1048576) (hc : 0 < ss.length → ∃ g, a = some ⟨g, 0, none⟩ ∧ g < w.heap.size ∧ ∀ j (hj : j < ss.length), w.cell? ⟨g, j, none⟩ = some (.string ss[j])) (hT : Lib.Utf8Tabs 0 1 w) :
    Calls Tryz.prog 81 #[.slice a ss.length cap] w fun e w' => e = .returned (.bool (ss.all (pathB nameOK))) ∧ Below w.heap.size w w' := by
  have c := implContainsP ss a cap w hlen hz hc hT
  have hn : ss.all (pathB nameOK) = !(ss.any noPath) := by rw [List.all_eq_not_any_not]; rfl
  rw [hn]
  obtain ⟨b, hb⟩ : ∃ b, ss.any noPath = b := ⟨_, rfl⟩
  rw [hb] at c ⊢
  clear hb hn hT hc hz
  go_enter Tryz.func81, Tryz.ntmps81
  go_wp2_with (go_at_call 44; go_must (refine c.mono ?_; rintro e w1 ⟨rfl, hb1⟩))
  go_ret
  exact ⟨by simp, hb1⟩

set_option maxRecDepth 100000 in
theorem implSingle (ss : List ByteArray) (a : Option Addr) (cap : Nat) (w : World) (hlen : ss.length ≤ 1000000) (hz : ∀ s ∈ ss, s.size ≤ 1048576) (hc : 0 < ss.length → ∃ g, a = some ⟨g, 0, none⟩ ∧ g < w.heap.size ∧ ∀ j (hj : j < ss.length), w.cell? ⟨g, j, none⟩ = some (.string ss[j])) :
    Calls Tryz.prog 22 #[.slice a ss.length cap] w fun e w' => e = .returned (.bool (!dupFrom ss [])) ∧ Below w.heap.size w w' := by
  have c := implTwice ss a cap w hlen hz hc
  obtain ⟨b, hb⟩ : ∃ b, dupFrom ss [] = b := ⟨_, rfl⟩
  rw [hb] at c ⊢
  clear hb hc hz
  go_enter Tryz.func22, Tryz.ntmps22
  go_wp2_with (go_at_call 49; go_must (refine c.mono ?_; rintro e w1 ⟨⟨t, rfl⟩, hb1⟩))
  go_ret
  exact ⟨by simp, hb1⟩
set_option maxRecDepth 100000 in
theorem implLong (s : ByteArray) (hz : s.size ≤ 1048576) (w : World) : Calls Tryz.prog 77 #[.string s] w fun e w' => e = .returned (.bool (!decide (s.size ≤ 200))) ∧ w' = w := by
  have hz' : (s.size : Int) ≤ 1048576 := by omega
  go_enter Tryz.func77, Tryz.ntmps77
  go_wp2_with fail
  go_ret
  refine ⟨congrArg (fun b => Ending.returned (Value.bool b)) ?_, rfl⟩
  by_cases h : s.size ≤ 200
  · simp [h]; omega
  · simp [h]; omega
end Go.Proofs.YtdlopjimheaekaaGreatDoor

namespace Go.Proofs.YtdlopjimheaekaaGreatDoor
open Go.ChangeShapes Go.WideShapes Go.ChangeAt Go.RowKit
set_option linter.unusedVariables false

def lessL (x y : LayV) : Bool := decide (x.x.rank < y.x.rank) || (x.x.rank == y.x.rank && Go.Op.bytesLess x.x.name.toList y.x.name.toList)
/-- Where a layer is put, going down from a place. -/
def posUp (out : List LayV) (y : LayV) : Nat → Nat
  | 0 => 0
  | k + 1 => match out[k]? with
    | some z => if lessL y z then posUp out y k else k + 1
    | none => k + 1
def posN (out : List LayV) (y : LayV) : Nat := posUp out y out.length
def overStep (out : List LayV) (y : LayV) : List LayV := (out.take (posN out y) ++ [y]) ++ out.drop (posN out y)
def overF (lv : List LayV) : List LayV := lv.foldl overStep []

set_option maxRecDepth 100000 in
set_option maxHeartbeats 4000000 in
theorem specOver {S : Nat → Prop} {lv : List LayV} {v : Value} {w : World} (hS : ∀ b, S b → b < w.heap.size) (h : LayVsAt S w v lv) (hone : LayVsOne lv) (hsl : ∀ x ∈ lv, ∃ a n c, x.nv = .slice a n c) (hl : lv.length ≤ 20) :
    Calls Tryz.prog 75 #[v] w fun e w' => (∃ p, e = .returned p ∧ OwnLayVs w.heap.size w' p (overF lv)) ∧ Below w.heap.size w w' := by
  obtain ⟨_, a, cap, rfl, hc⟩ := h
  have HC : Hid _ := hc
  have HS : Hid (∀ b, S b → b < w.heap.size) := hS
  have HONE : Hid (LayVsOne lv) := hone
  have HSL : Hid (∀ x ∈ lv, ∃ a n c, x.nv = .slice a n c) := hsl
  have hl' : (lv.length : Int) ≤ 20 := by omega
  unfold overF
  obtain ⟨F, hF⟩ : ∃ F, lv.foldl overStep [] = F := ⟨_, rfl⟩
  have HF : Hid (lv.foldl overStep [] = F) := hF
  rw [hF]
  clear hF hc hS hone hsl
  have HE : Hid (OwnLayVs w.heap.size (w.alloc (.cells #[] 27)) (.slice (some ⟨w.heap.size, 0, none⟩) 0 0) []) := OwnLayVs.empty w.heap.size w (Nat.le_refl _)
  go_enter Tryz.func75, Tryz.ntmps75
  go_wp2_with fail
  go_loopw [3, 4] (fun i3 i4 wr => ∃ (k g cp : Nat) (out : List LayV), i4 = .int .i64 (k : Int) ∧ i3 = .slice (some ⟨g, 0, none⟩) out.length cp ∧ k ≤ lv.length ∧ out.length = k ∧ OwnLayVs w.heap.size wr (.slice (some ⟨g, 0, none⟩) out.length cp) out ∧ LayVsOne out ∧ (lv.drop k).foldl overStep out = F ∧ Below w.heap.size w wr) (fun _ i4 _ => lv.length - (intOf i4).toNat)
  case atStart => exact ⟨0, w.heap.size, 0, [], rfl, rfl, by omega, rfl, HE.out, fun x hx => (by cases hx), HF.out, (Below.refl _ w).alloc (Nat.le_refl _) _⟩
  case round =>
    obtain ⟨k, g, cp, out, rfl, rfl, hk, hok, hown, hon, hfold, hb⟩ := hrel
    obtain ⟨wo, hwo⟩ : ∃ wo, wo = wr := ⟨_, rfl⟩
    subst hwo
    have HOW : Hid (OwnLayVs w.heap.size wo (.slice (some ⟨g, 0, none⟩) out.length cp) out) := hown
    have HFO : Hid ((lv.drop k).foldl overStep out = F) := hfold
    have HON : Hid (LayVsOne out) := hon
    have HBL : Hid (Below w.heap.size w wo) := hb
    have HKK : Hid (out.length = k) := hok
    have hol : (out.length : Int) ≤ 20 := by omega
    clear hfold hon hok
    by_cases hkn : k < lv.length
    · have hkn' : (k : Int) < (lv.length : Int) := by omega
      obtain ⟨b, off, rfl, hbS, hcell⟩ := HC.out (by omega)
      have hbw := HS.out b hbS
      obtain ⟨c0, c1, c2⟩ := hcell k hkn
      have hnx : (lv.drop (k + 1)).foldl overStep (overStep out lv[k]) = F := by
        have := HFO.out
        rw [List.drop_eq_getElem_cons hkn, List.foldl_cons] at this
        exact this
      have hy1 := HONE.out lv[k] (List.getElem_mem hkn)
      have hy2 := HSL.out lv[k] (List.getElem_mem hkn)
      obtain ⟨y, hy⟩ : ∃ y, lv[k] = y := ⟨_, rfl⟩
      rw [hy] at c0 c1 c2 hnx hy1 hy2
      obtain ⟨⟨yn, yr, ye⟩, yv⟩ := y
      dsimp only at c0 c1 c2 hy1 hy2
      obtain ⟨ya, yl, yc, hyv⟩ := hy2
      subst hyv
      have HNX : Hid ((lv.drop (k + 1)).foldl overStep (overStep out ⟨⟨yn, yr, ye⟩, .slice ya yl yc⟩) = F) := hnx
      have C0 : Hid (w.cell? ⟨b, off + k * 3, none⟩ = some (.string yn)) := c0
      have C1 : Hid (w.cell? ⟨b, off + k * 3 + 1, none⟩ = some (.int .i64 yr)) := c1
      have C2 : Hid (w.cell? ⟨b, off + k * 3 + 2, none⟩ = some (.slice ya yl yc)) := c2
      have HY1 : Hid ((Value.slice ya yl yc).oneCell' = true) := hy1
      have hlt := hown.lt
      clear hnx hy hcell HFO c0 c1 c2 hy1 hown
      go_upto_block 2 with fail
      go_cut [5] from 16 to 61 (fun s5 wx => ∃ j : Nat, s5 = .int .i64 (j : Int) ∧ j ≤ out.length ∧ posN out ⟨⟨yn, yr, ye⟩, .slice ya yl yc⟩ = j ∧ Below wo.heap.size wo wx)
      case first =>
        obtain ⟨Pn, hPn⟩ : ∃ Pn, posN out ⟨⟨yn, yr, ye⟩, .slice ya yl yc⟩ = Pn := ⟨_, rfl⟩
        have HPN : Hid (posN out ⟨⟨yn, yr, ye⟩, .slice ya yl yc⟩ = Pn) := hPn
        clear hPn
        go_wp2_with fail
        go_loopw [5] (fun i5 wz => ∃ j : Nat, i5 = .int .i64 (j : Int) ∧ j ≤ out.length ∧ posUp out ⟨⟨yn, yr, ye⟩, .slice ya yl yc⟩ j = Pn ∧ Below wo.heap.size wo wz) (fun i5 _ => (intOf i5).toNat)
        case atStart => exact ⟨out.length, rfl, by omega, HPN.out, Below.refl _ _⟩
        case round =>
          obtain ⟨j, rfl, hj, hpo, hbz⟩ := hrel
          have HPO : Hid (posUp out ⟨⟨yn, yr, ye⟩, .slice ya yl yc⟩ j = Pn) := hpo
          clear hpo
          cases j with
          | zero =>
            go_upto_region 6 with fail
            go_quiet (fail)
            go_wp2_with fail
            go_meet
            exact ⟨0, rfl, by omega, HPN.out.trans HPO.out.symm, bel_drewN hbz nq⟩
          | succ j =>
            have hjl : j < out.length := by omega
            have hjl' : (j : Int) < (out.length : Int) := by omega
            have hj1 : ((j + 1 : Nat) : Int) - 1 = (j : Int) := by omega
            have hj2 : (0 : Int) < ((j + 1 : Nat) : Int) := by omega
            have hbw2 := good_below HBL.out hbz
            have d0 := (hbw2.cell (p := ⟨b, off + k * 3, none⟩) hbw).trans C0.out
            have d1 := (hbw2.cell (p := ⟨b, off + k * 3 + 1, none⟩) hbw).trans C1.out
            obtain ⟨z0, z1, _⟩ := (HOW.out.below hbz).cells j hjl
            have hstep : posUp out ⟨⟨yn, yr, ye⟩, .slice ya yl yc⟩ (j + 1) = if lessL ⟨⟨yn, yr, ye⟩, .slice ya yl yc⟩ out[j] then posUp out ⟨⟨yn, yr, ye⟩, .slice ya yl yc⟩ j else j + 1 := by
              conv => lhs; unfold posUp
              rw [List.getElem?_eq_getElem hjl]
            obtain ⟨z, hz⟩ : ∃ z, out[j] = z := ⟨_, rfl⟩
            rw [hz] at z0 z1 hstep
            obtain ⟨⟨zn, zr, ze⟩, zv⟩ := z
            dsimp only at z0 z1
            have HST : Hid (posUp out ⟨⟨yn, yr, ye⟩, .slice ya yl yc⟩ (j + 1) = if lessL ⟨⟨yn, yr, ye⟩, .slice ya yl yc⟩ ⟨⟨zn, zr, ze⟩, zv⟩ then posUp out ⟨⟨yn, yr, ye⟩, .slice ya yl yc⟩ j else j + 1) := hstep
            clear hz hstep
            by_cases hlt1 : yr < zr
            · go_upto_region 6 with fail
              go_quiet (fail)
              go_wp2_with fail
              refine ⟨⟨j, rfl, by omega, ?_, bel_drewN hbz nq⟩, by simp [intOf]⟩
              rw [← HPO.out, HST.out, if_pos (by unfold lessL; simp [hlt1])]
            · by_cases heq : yr = zr
              · subst heq
                cases hless : Go.Op.bytesLess yn.toList zn.toList
                · go_upto_region 6 with fail
                  go_quiet (fail)
                  go_wp2_with fail
                  go_meet
                  refine ⟨j + 1, rfl, by omega, ?_, bel_drewN hbz nq⟩
                  rw [HPN.out, ← HPO.out, HST.out, if_neg (by unfold lessL; simp [hless])]
                · go_upto_region 6 with fail
                  go_quiet (fail)
                  go_wp2_with fail
                  refine ⟨⟨j, rfl, by omega, ?_, bel_drewN hbz nq⟩, by simp [intOf]⟩
                  rw [← HPO.out, HST.out, if_pos (by unfold lessL; simp [hless])]
              · have heq' : (yr == zr) = false := by simpa using heq
                go_upto_region 6 with fail
                go_quiet (fail)
                go_wp2_with fail
                go_meet
                refine ⟨j + 1, rfl, by omega, ?_, bel_drewN hbz nq⟩
                rw [HPN.out, ← HPO.out, HST.out, if_neg (by unfold lessL; simp [hlt1, heq])]
      case rest =>
        obtain ⟨j, rfl, hj, hpos, hbz⟩ := hcut
        have HPOS : Hid (posN out ⟨⟨yn, yr, ye⟩, .slice ya yl yc⟩ = j) := hpos
        obtain ⟨wD, hwD⟩ : ∃ wD, wD = wc := ⟨_, rfl⟩
        subst hwD
        have hcp1 : (j : Int) ≤ (cp : Int) := by omega
        have hcp2 : (cp : Int) ≤ 9223372036854775807 := by have := hlt.2.2.2.1; simp [maxLen] at this; omega
        have hj' : (j : Int) ≤ (out.length : Int) := by omega
        have hlcp : (out.length : Int) ≤ (cp : Int) := by omega
        have hbwD := good_below HBL.out hbz
        have HOD : Hid (OwnLayVs w.heap.size wD (.slice (some ⟨g, 0, none⟩) out.length cp) out) := HOW.out.below hbz
        have hdon : LayVsOne (out.drop j) := fun x hx => HON.out x (List.mem_of_mem_drop hx)
        have HDON : Hid (LayVsOne (out.drop j)) := hdon
        clear hpos hdon
        by_cases hcpj : cp = j
        · subst hcpj
          have HD : Hid (out.drop cp = []) := (show out.drop cp = [] from by rw [List.drop_eq_nil_iff]; omega)
          have HDON0 : Hid (LayVsOne ([] : List LayV)) := fun x hx => by cases hx
          go_upto_region 8 with fail
          go_cut [6] from 62 to 66 (fun s6 wx => (∃ g6 c6, s6 = .slice (some ⟨g6, 0, none⟩) 0 c6 ∧ wD.heap.size ≤ g6 ∧ OwnLayVs wD.heap.size wx (.slice (some ⟨g6, 0, none⟩) 0 c6) []) ∧ Below wD.heap.size wD wx)
          case first =>
            have HE2 : Hid (OwnLayVs wD.heap.size (wD.alloc (.cells #[] 27)) (.slice (some ⟨wD.heap.size, 0, none⟩) 0 0) []) := OwnLayVs.empty wD.heap.size wD (Nat.le_refl _)
            go_wp2_with (at_builtin; go_must (refine wpList_appendLayVs rfl (.tmp 62) (.tmp 65) rfl wD.heap.size (.slice (some ⟨wD.heap.size, 0, none⟩) 0 0) [] rfl HE2.out (.slice (some ⟨g, 0, none⟩) 0 0) [] rfl (S := fun _ => True) ⟨by simp [maxLen], _, _, rfl, fun h => absurd h (by simp)⟩ (by simp) (by simp) HDON0.out ?_; intro v4 w4 hown4 hB4 hgr4 hnil4; obtain ⟨g4, c4, rfl, hg4⟩ := hown4.solid (fun e => by have := hnil4 e; simp at this)))
            go_meet
            refine ⟨⟨g4, c4, by simp, hg4, ?_⟩, ((Below.refl _ wD).alloc (Nat.le_refl _) _).trans hB4⟩
            simpa using hown4
          case rest =>
            obtain ⟨⟨g6, c6, rfl, hg6, hn6⟩, hb6⟩ := hcut
            obtain ⟨wE, hwE⟩ : ∃ wE, wE = wc := ⟨_, rfl⟩
            subst hwE
            have hbE := good_below hbwD hb6
            have d0 := (hbE.cell (p := ⟨b, off + k * 3, none⟩) hbw).trans C0.out
            have d1 := (hbE.cell (p := ⟨b, off + k * 3 + 1, none⟩) hbw).trans C1.out
            have d2 := (hbE.cell (p := ⟨b, off + k * 3 + 2, none⟩) hbw).trans C2.out
            have HT : Hid (OwnLayVs w.heap.size wE (.slice (some ⟨g, 0, none⟩) cp cp) (out.take cp)) := OwnLayVs.take (OwnLayVs.below HOD.out hb6) cp hj
            have HN6 : Hid (OwnLayVs wD.heap.size wE (.slice (some ⟨g6, 0, none⟩) 0 c6) []) := hn6
            have HG6 : Hid (g6 ≠ g) := fun e => by have := hbz.size; have := hlt.1; omega
            have hst : overStep out ⟨⟨yn, yr, ye⟩, .slice ya yl yc⟩ = (out.take cp ++ [(⟨⟨yn, yr, ye⟩, .slice ya yl yc⟩ : LayV)]) ++ [] := by unfold overStep; rw [HPOS.out, HD.out]
            have HST : Hid (overStep out ⟨⟨yn, yr, ye⟩, .slice ya yl yc⟩ = (out.take cp ++ [(⟨⟨yn, yr, ye⟩, .slice ya yl yc⟩ : LayV)]) ++ []) := hst
            have hsl : ((out.take cp ++ [(⟨⟨yn, yr, ye⟩, .slice ya yl yc⟩ : LayV)]) ++ []).length = out.length + 1 := by simp; omega
            have HSL2 : Hid (((out.take cp ++ [(⟨⟨yn, yr, ye⟩, .slice ya yl yc⟩ : LayV)]) ++ []).length = out.length + 1) := hsl
            have HBE : Hid (Below w.heap.size w wE) := hbE
            have hws : w.heap.size ≤ wE.heap.size := hbE.size
            have hone1 : LayVsOne [(⟨⟨yn, yr, ye⟩, .slice ya yl yc⟩ : LayV)] := fun x hx => by simp at hx; subst hx; exact HY1.out
            have HO1 : Hid (LayVsOne [(⟨⟨yn, yr, ye⟩, .slice ya yl yc⟩ : LayV)]) := hone1
            have HON2 : Hid (LayVsOne ((out.take cp ++ [(⟨⟨yn, yr, ye⟩, .slice ya yl yc⟩ : LayV)]) ++ [])) := fun x hx => by
              rcases List.mem_append.1 hx with q | q
              · rcases List.mem_append.1 q with q | q
                · exact HON.out x (List.mem_of_mem_take q)
                · exact HO1.out x q
              · exact HDON0.out x q
            clear hn6 hst hsl hone1 hbz hbE hb
            go_upto_region 9 with fail
            go_region_law (first
              | (refine step_appendLayVs rfl (.tmp 69) (.tmp 74) rfl w.heap.size (.slice (some ⟨g, 0, none⟩) cp cp) (out.take cp) (by simp [Act.eval]) (OwnLayVs.below HT.out (((Below.refl _ wE).alloc (Nat.le_refl _) _).drew)) (.slice (some ⟨wE.heap.size, 0, none⟩) 1 1) [(⟨⟨yn, yr, ye⟩, .slice ya yl yc⟩ : LayV)] (by simp [Act.eval]) ((LayVsAt.new wE ⟨⟨yn, yr, ye⟩, .slice ya yl yc⟩).keep (fun b i _ => rfl)) (by simp; omega) (by simp; omega) HO1.out ?_; intro va vn vc w5 hown5 hB5 hgr5 hnil5; have hn5 := (OwnLayVs.below HN6.out (((Below.refl _ wE).alloc (Nat.le_refl _) (.cells #[.string yn, .int .i64 yr, .slice ya yl yc] 27)).drew)).kept hgr5 (.inr (by simp [Value.ownBlock]; exact HG6.out)); have hB5' := ((HBE.out.alloc hws (.cells #[.string yn, .int .i64 yr, .slice ya yl yc] 27)).drew).trans hB5)
              | (refine step_appendLayVs rfl (.tmp 75) (.tmp 76) rfl w.heap.size (.slice va vn vc) (out.take cp ++ [(⟨⟨yn, yr, ye⟩, .slice ya yl yc⟩ : LayV)]) (by simp [Act.eval]) hown5 (.slice (some ⟨g6, 0, none⟩) 0 c6) [] (by simp [Act.eval]) hn5.at (by simp; omega) hB5'.size HDON0.out ?_; intro va6 vn6 vc6 w6 hown6 hB6 hgr6 hnil6; obtain ⟨g7, c7, e7, hg7⟩ := hown6.solid (fun e => by have := hnil5 (hnil6 e); simp at this); rw [HSL2.out] at e7; simp only [Value.slice.injEq] at e7; obtain ⟨rfl, rfl, rfl⟩ := e7; have hB6' := hB5'.trans hB6))
            all_goals
              go_wp2_with fail
              exact ⟨⟨k + 1, g7, vc6, (out.take cp ++ [(⟨⟨yn, yr, ye⟩, .slice ya yl yc⟩ : LayV)]) ++ [], rfl, by rw [HSL2.out], by omega, by rw [HSL2.out]; have := HKK.out; omega, by rw [HSL2.out]; exact hown6, HON2.out, by rw [← HST.out]; exact HNX.out, hB6'⟩, by simp [intOf]; omega⟩
        · go_upto_region 8 with fail
          go_cut [6] from 62 to 66 (fun s6 wx => (∃ g6 c6, s6 = .slice (some ⟨g6, 0, none⟩) (out.length - j) c6 ∧ wD.heap.size ≤ g6 ∧ OwnLayVs wD.heap.size wx (.slice (some ⟨g6, 0, none⟩) (out.length - j) c6) (out.drop j)) ∧ Below wD.heap.size wD wx)
          case first =>
            have HE2 : Hid (OwnLayVs wD.heap.size (wD.alloc (.cells #[] 27)) (.slice (some ⟨wD.heap.size, 0, none⟩) 0 0) []) := OwnLayVs.empty wD.heap.size wD (Nat.le_refl _)
            have hcpj2 : ¬ (j = cp) := fun e => hcpj e.symm
            go_wp2_with (at_builtin; go_must (refine wpList_appendLayVs rfl (.tmp 62) (.tmp 65) rfl wD.heap.size (.slice (some ⟨wD.heap.size, 0, none⟩) 0 0) [] rfl HE2.out _ (out.drop j) rfl (OwnLayVs.dropAt (OwnLayVs.below HOD.out ((Below.refl _ _).alloc (Nat.le_refl _) _)) j hj _) (by simp; omega) (by simp) HDON.out ?_; intro v4 w4 hown4 hB4 hgr4 hnil4; obtain ⟨g4, c4, rfl, hg4⟩ := hown4.solid (fun e => by have := hnil4 e; simp at this)))
            go_meet
            refine ⟨⟨g4, c4, by simp, hg4, ?_⟩, ((Below.refl _ wD).alloc (Nat.le_refl _) _).trans hB4⟩
            simpa using hown4
          case rest =>
            obtain ⟨⟨g6, c6, rfl, hg6, hn6⟩, hb6⟩ := hcut
            obtain ⟨wE, hwE⟩ : ∃ wE, wE = wc := ⟨_, rfl⟩
            subst hwE
            have hbE := good_below hbwD hb6
            have d0 := (hbE.cell (p := ⟨b, off + k * 3, none⟩) hbw).trans C0.out
            have d1 := (hbE.cell (p := ⟨b, off + k * 3 + 1, none⟩) hbw).trans C1.out
            have d2 := (hbE.cell (p := ⟨b, off + k * 3 + 2, none⟩) hbw).trans C2.out
            have HT : Hid (OwnLayVs w.heap.size wE (.slice (some ⟨g, 0, none⟩) j cp) (out.take j)) := OwnLayVs.take (OwnLayVs.below HOD.out hb6) j hj
            have HN6 : Hid (OwnLayVs wD.heap.size wE (.slice (some ⟨g6, 0, none⟩) (out.length - j) c6) (out.drop j)) := hn6
            have HG6 : Hid (g6 ≠ g) := fun e => by have := hbz.size; have := hlt.1; omega
            have hst : overStep out ⟨⟨yn, yr, ye⟩, .slice ya yl yc⟩ = (out.take j ++ [(⟨⟨yn, yr, ye⟩, .slice ya yl yc⟩ : LayV)]) ++ out.drop j := by unfold overStep; rw [HPOS.out]
            have HST : Hid (overStep out ⟨⟨yn, yr, ye⟩, .slice ya yl yc⟩ = (out.take j ++ [(⟨⟨yn, yr, ye⟩, .slice ya yl yc⟩ : LayV)]) ++ out.drop j) := hst
            have hsl : ((out.take j ++ [(⟨⟨yn, yr, ye⟩, .slice ya yl yc⟩ : LayV)]) ++ out.drop j).length = out.length + 1 := by simp; omega
            have HSL2 : Hid (((out.take j ++ [(⟨⟨yn, yr, ye⟩, .slice ya yl yc⟩ : LayV)]) ++ out.drop j).length = out.length + 1) := hsl
            have HBE : Hid (Below w.heap.size w wE) := hbE
            have hws : w.heap.size ≤ wE.heap.size := hbE.size
            have hone1 : LayVsOne [(⟨⟨yn, yr, ye⟩, .slice ya yl yc⟩ : LayV)] := fun x hx => by simp at hx; subst hx; exact HY1.out
            have HO1 : Hid (LayVsOne [(⟨⟨yn, yr, ye⟩, .slice ya yl yc⟩ : LayV)]) := hone1
            have HON2 : Hid (LayVsOne ((out.take j ++ [(⟨⟨yn, yr, ye⟩, .slice ya yl yc⟩ : LayV)]) ++ out.drop j)) := fun x hx => by
              rcases List.mem_append.1 hx with q | q
              · rcases List.mem_append.1 q with q | q
                · exact HON.out x (List.mem_of_mem_take q)
                · exact HO1.out x q
              · exact HDON.out x q
            clear hn6 hst hsl hone1 hbz hbE hb
            go_upto_region 9 with fail
            go_region_law (first
              | (refine step_appendLayVs rfl (.tmp 69) (.tmp 74) rfl w.heap.size (.slice (some ⟨g, 0, none⟩) j cp) (out.take j) (by simp [Act.eval]) (OwnLayVs.below HT.out (((Below.refl _ wE).alloc (Nat.le_refl _) _).drew)) (.slice (some ⟨wE.heap.size, 0, none⟩) 1 1) [(⟨⟨yn, yr, ye⟩, .slice ya yl yc⟩ : LayV)] (by simp [Act.eval]) ((LayVsAt.new wE ⟨⟨yn, yr, ye⟩, .slice ya yl yc⟩).keep (fun b i _ => rfl)) (by simp; omega) (by simp; omega) HO1.out ?_; intro va vn vc w5 hown5 hB5 hgr5 hnil5; have hn5 := (OwnLayVs.below HN6.out (((Below.refl _ wE).alloc (Nat.le_refl _) (.cells #[.string yn, .int .i64 yr, .slice ya yl yc] 27)).drew)).kept hgr5 (.inr (by simp [Value.ownBlock]; exact HG6.out)); have hB5' := ((HBE.out.alloc hws (.cells #[.string yn, .int .i64 yr, .slice ya yl yc] 27)).drew).trans hB5)
              | (refine step_appendLayVs rfl (.tmp 75) (.tmp 76) rfl w.heap.size (.slice va vn vc) (out.take j ++ [(⟨⟨yn, yr, ye⟩, .slice ya yl yc⟩ : LayV)]) (by simp [Act.eval]) hown5 (.slice (some ⟨g6, 0, none⟩) (out.length - j) c6) (out.drop j) (by simp [Act.eval]) hn5.at (by simp; omega) hB5'.size HDON.out ?_; intro va6 vn6 vc6 w6 hown6 hB6 hgr6 hnil6; obtain ⟨g7, c7, e7, hg7⟩ := hown6.solid (fun e => by have := hnil5 (hnil6 e); simp at this); rw [HSL2.out] at e7; simp only [Value.slice.injEq] at e7; obtain ⟨rfl, rfl, rfl⟩ := e7; have hB6' := hB5'.trans hB6))
            all_goals
              go_wp2_with fail
              exact ⟨⟨k + 1, g7, vc6, (out.take j ++ [(⟨⟨yn, yr, ye⟩, .slice ya yl yc⟩ : LayV)]) ++ out.drop j, rfl, by rw [HSL2.out], by omega, by rw [HSL2.out]; have := HKK.out; omega, by rw [HSL2.out]; exact hown6, HON2.out, by rw [← HST.out]; exact HNX.out, hB6'⟩, by simp [intOf]; omega⟩
    · obtain rfl : k = lv.length := by omega
      have hkn' : ¬ ((lv.length : Int) < (lv.length : Int)) := by omega
      have hfin := HFO.out
      simp at hfin
      subst hfin
      go_wp2_with fail
      go_ret
      exact ⟨⟨_, rfl, HOW.out⟩, hb⟩
end Go.Proofs.YtdlopjimheaekaaGreatDoor

namespace Go.Proofs.YtdlopjimheaekaaGreatDoor
open Go.ChangeShapes Go.WideShapes Go.ChangeAt Go.RowKit
set_option linter.unusedVariables false

def newS (e : Entry) (nm : ByteArray) : Setting := ⟨e.path, e.text, nm⟩
def hits (o : Setting) (e : Entry) : Bool := withinB o.path e.path || withinB e.path o.path
/-- What is left of the settings behind an entry, and whether it is put. -/
def restUp (out : List Setting) (e : Entry) (nm : ByteArray) : Nat → List Setting × Bool
  | 0 => ([], e.text.toList == [126])
  | j + 1 => match out[j]? with
    | none => restUp out e nm j
    | some o => bif hits o e then restUp out e nm j
      else bif !(restUp out e nm j).2 && Go.Op.bytesLess e.path.toList o.path.toList then (((restUp out e nm j).1 ++ [newS e nm]) ++ [o], true)
      else ((restUp out e nm j).1 ++ [o], (restUp out e nm j).2)
def layStep (nm : ByteArray) (out : List Setting) (e : Entry) : List Setting :=
  bif (restUp out e nm out.length).2 then (restUp out e nm out.length).1 else (restUp out e nm out.length).1 ++ [newS e nm]
def layLayer (out : List Setting) (x : Layer) : List Setting := x.entries.foldl (layStep x.name) out
def laidF (l : List Layer) : List Setting := l.foldl layLayer []

section
variable {out : List Setting} {e : Entry} {nm : ByteArray}
theorem restUp_hit {j : Nat} {o : Setting} {r : List Setting} {p : Bool} (hr : restUp out e nm j = (r, p)) (ho : out[j]? = some o) (h : hits o e = true) : restUp out e nm (j + 1) = (r, p) := by
  conv => lhs; unfold restUp
  rw [ho]; simp only [h, cond_true, hr]
theorem restUp_put {j : Nat} {o : Setting} {r : List Setting} (hr : restUp out e nm j = (r, false)) (ho : out[j]? = some o) (h : hits o e = false) (hl : Go.Op.bytesLess e.path.toList o.path.toList = true) : restUp out e nm (j + 1) = ((r ++ [newS e nm]) ++ [o], true) := by
  conv => lhs; unfold restUp
  rw [ho]; simp only [h, cond_false, hr, hl, Bool.not_false, Bool.and_true, cond_true]
theorem restUp_keep {j : Nat} {o : Setting} {r : List Setting} {p : Bool} (hr : restUp out e nm j = (r, p)) (ho : out[j]? = some o) (h : hits o e = false) (hl : (!p && Go.Op.bytesLess e.path.toList o.path.toList) = false) : restUp out e nm (j + 1) = (r ++ [o], p) := by
  conv => lhs; unfold restUp
  rw [ho]; simp only [h, cond_false, hr, hl]
theorem restUp_len : ∀ (j : Nat), (restUp out e nm j).1.length ≤ j + (bif (restUp out e nm j).2 then 1 else 0)
  | 0 => by unfold restUp; simp
  | j + 1 => by
    have ih := restUp_len j
    obtain ⟨r, p, hr⟩ : ∃ r p, restUp out e nm j = (r, p) := ⟨_, _, rfl⟩
    rw [hr] at ih
    dsimp only at ih
    cases ho : out[j]? with
    | none =>
      have : restUp out e nm (j + 1) = (r, p) := by
        conv => lhs; unfold restUp
        rw [ho]; exact hr
      rw [this]; dsimp only; omega
    | some o =>
      cases hh : hits o e
      · cases hq : (!p && Go.Op.bytesLess e.path.toList o.path.toList)
        · rw [restUp_keep hr ho hh hq]; simp; omega
        · have hp : p = false := by cases p <;> simp_all
          subst hp
          rw [restUp_put hr ho hh (by simpa using hq)]
          simp at ih ⊢; omega
      · rw [restUp_hit hr ho hh]; dsimp only; omega
theorem restUp_mem {P : Setting → Prop} (h : ∀ o ∈ out, P o) (hn : P (newS e nm)) : ∀ (j : Nat), ∀ o ∈ (restUp out e nm j).1, P o
  | 0 => by unfold restUp; intro o ho; cases ho
  | j + 1 => by
    have ih := restUp_mem h hn j
    obtain ⟨r, p, hr⟩ : ∃ r p, restUp out e nm j = (r, p) := ⟨_, _, rfl⟩
    rw [hr] at ih
    dsimp only at ih
    cases ho : out[j]? with
    | none =>
      have : restUp out e nm (j + 1) = (r, p) := by
        conv => lhs; unfold restUp
        rw [ho]; exact hr
      rw [this]; exact ih
    | some o =>
      have hoP := h o (List.mem_of_getElem? ho)
      cases hh : hits o e
      · cases hq : (!p && Go.Op.bytesLess e.path.toList o.path.toList)
        · rw [restUp_keep hr ho hh hq]
          intro x hx
          rcases List.mem_append.1 hx with q | q
          · exact ih x q
          · simp at q; subst q; exact hoP
        · have hp : p = false := by cases p <;> simp_all
          subst hp
          rw [restUp_put hr ho hh (by simpa using hq)]
          intro x hx
          rcases List.mem_append.1 hx with q | q
          · rcases List.mem_append.1 q with q | q
            · exact ih x q
            · simp at q; subst q; exact hn
          · simp at q; subst q; exact hoP
      · rw [restUp_hit hr ho hh]; exact ih
theorem layStep_len : (layStep nm out e).length ≤ out.length + 1 := by
  have := restUp_len (out := out) (e := e) (nm := nm) out.length
  unfold layStep
  cases h : (restUp out e nm out.length).2
  · rw [h] at this; simp at this ⊢; omega
  · rw [h] at this; simp at this ⊢; omega
theorem layStep_mem {P : Setting → Prop} (h : ∀ o ∈ out, P o) (hn : P (newS e nm)) : ∀ o ∈ layStep nm out e, P o := by
  have := restUp_mem h hn out.length
  unfold layStep
  cases hp : (restUp out e nm out.length).2
  · simp only [cond_false]
    intro x hx
    rcases List.mem_append.1 hx with q | q
    · exact this x q
    · simp at q; subst q; exact hn
  · simp only [cond_true]; exact this
theorem layStep_put {r : List Setting} (h : restUp out e nm out.length = (r, true)) : layStep nm out e = r := by
  unfold layStep; rw [h]; rfl
theorem layStep_end {r : List Setting} (h : restUp out e nm out.length = (r, false)) : layStep nm out e = r ++ [newS e nm] := by
  unfold layStep; rw [h]; rfl
end

theorem overStep_mem {out : List LayV} {y x : LayV} (h : x ∈ overStep out y) : x ∈ out ∨ x = y := by
  unfold overStep at h
  rcases List.mem_append.1 h with q | q
  · rcases List.mem_append.1 q with q | q
    · exact .inl (List.mem_of_mem_take q)
    · simp at q; exact .inr q
  · exact .inl (List.mem_of_mem_drop q)
theorem overStep_len (out : List LayV) (y : LayV) : (overStep out y).length = out.length + 1 := by
  unfold overStep; simp; omega
theorem overFold_mem {x : LayV} : ∀ (lv out : List LayV), x ∈ lv.foldl overStep out → x ∈ out ∨ x ∈ lv
  | [], out, h => .inl h
  | y :: lv, out, h => by
    rw [List.foldl_cons] at h
    rcases overFold_mem lv _ h with q | q
    · rcases overStep_mem q with q | q
      · exact .inl q
      · exact .inr (by rw [q]; exact List.mem_cons_self ..)
    · exact .inr (List.mem_cons_of_mem _ q)
theorem overFold_len : ∀ (lv out : List LayV), (lv.foldl overStep out).length = out.length + lv.length
  | [], out => rfl
  | y :: lv, out => by rw [List.foldl_cons, overFold_len lv, overStep_len]; simp; omega
theorem over_mem {lv : List LayV} {x : LayV} (h : x ∈ overF lv) : x ∈ lv := by
  rcases overFold_mem lv [] h with q | q
  · cases q
  · exact q
theorem over_len (lv : List LayV) : (overF lv).length = lv.length := by
  unfold overF; rw [overFold_len]; simp
end Go.Proofs.YtdlopjimheaekaaGreatDoor

namespace Go.Proofs.YtdlopjimheaekaaGreatDoor
open Go.ChangeShapes Go.WideShapes Go.ChangeAt Go.RowKit
set_option linter.unusedVariables false

def preB (p q : ByteArray) : Bool := decide (q.size ≤ p.size) && ((p.extract 0 q.size).toList == q.toList)
theorem pre_self (p : ByteArray) : preB p p = true := by
  unfold preB
  have : (p.extract 0 p.size).toList = p.toList := by
    rw [toList_data, toList_data, Lib.extract_data]
    exact List.take_of_length_le (by simp)
  rw [this]; simp
theorem within_no {p q : ByteArray} (h : preB p q = false) : withinB p q = false := by
  unfold withinB
  have h1 : (p.toList == q.toList) = false := by
    rw [beq_bytes]
    refine decide_eq_false (fun e => ?_)
    subst e
    rw [pre_self] at h; cases h
  rw [h1]
  unfold preB at h
  by_cases h2 : q.size < p.size
  · rw [decide_eq_true (show q.size ≤ p.size by omega), Bool.true_and] at h
    rw [h]; simp
  · rw [decide_eq_false h2]; simp
theorem within_eq {p q : ByteArray} (h : preB p q = true) (hs : ¬ q.size < p.size) : withinB p q = true := by
  unfold preB at h
  simp only [Bool.and_eq_true, decide_eq_true_eq] at h
  have hz : q.size = p.size := by omega
  have : (p.extract 0 q.size).toList = p.toList := by
    rw [toList_data, toList_data, Lib.extract_data, hz]
    exact List.take_of_length_le (by simp)
  rw [this] at h
  unfold withinB
  rw [h.2]; rfl
theorem within_more {p q : ByteArray} (h : preB p q = true) (hs : q.size < p.size) : withinB p q = decide (byteAt p q.size = 46) := by
  unfold preB at h
  simp only [Bool.and_eq_true, decide_eq_true_eq] at h
  have h1 : (p.toList == q.toList) = false := by
    rw [beq_bytes]
    refine decide_eq_false (fun e => ?_)
    subst e; omega
  unfold withinB
  rw [h1, h.2, decide_eq_true hs]; simp
set_option maxRecDepth 100000 in
set_option maxHeartbeats 1000000 in
theorem implWithin (p q : ByteArray) (hp : p.size ≤ 1048576) (hq : q.size ≤ 1048576) (w : World) :
    Calls Tryz.prog 80 #[.agg #[.string p], .string q] w fun e w' => e = .returned (.bool (withinB p q)) ∧ Below w.heap.size w w' := by
  have hw1 : ∀ o, Below w.heap.size w (w.alloc o) := fun o => (Below.refl _ w).alloc (Nat.le_refl _) _
  have cc := fun w => Tryz.strings_CutPrefix p q w
  rw [← Lib.hasPrefix_raw] at cc
  cases hB : preB p q
  · have hB' := hB
    unfold preB at hB'
    rw [hB', Lib.trimPrefix_miss p q hB'] at cc
    rw [within_no hB]
    clear hB hB'
    go_enter Tryz.func80, Tryz.ntmps80
    go_wp2_with (go_at_call 101; go_must (refine (cc _).mono ?_; rintro e w1 ⟨rfl, rfl⟩))
    go_ret
    exact ⟨rfl, hw1 _⟩
  · have hB' := hB
    unfold preB at hB'
    have hB2 := hB'
    simp only [Bool.and_eq_true, decide_eq_true_eq] at hB2
    rw [hB', Lib.trimPrefix_hit p q hB2.1 hB2.2] at cc
    have hRl : (p.extract q.size p.size).data.toList = p.data.toList.drop q.size := by
      rw [Lib.extract_data]
      exact List.take_of_length_le (by simp)
    by_cases hs : q.size < p.size
    · rw [within_more hB hs]
      have hR0 : 0 < (p.extract q.size p.size).size := by simp only [ByteArray.size_extract]; omega
      have hRx : (p.extract q.size p.size)[0].toNat = byteAt p q.size := by
        unfold byteAt
        rw [dif_pos hs]
        have h1 := byt_list (p.extract q.size p.size) 0 hR0
        rw [hRl, List.getElem?_drop, Nat.add_zero, byt_list p q.size hs] at h1
        simp only [Option.some.injEq] at h1
        rw [h1]
      have hRz : (p.extract q.size p.size).size ≤ 1048576 := by simp only [ByteArray.size_extract]; omega
      have hRe : ((p.extract q.size p.size).toList == []) = false := by
        rw [toList_data, hRl, beq_eq_false_iff_ne]
        intro e
        have := congrArg List.length e
        simp at this
        omega
      obtain ⟨x, hx⟩ : ∃ x, byteAt p q.size = x := ⟨_, rfl⟩
      rw [hx] at hRx ⊢
      generalize p.extract q.size p.size = R at cc hR0 hRx hRz hRe
      have hR0' : (0 : Int) < (R.size : Int) := by omega
      have hRz' : (R.size : Int) ≤ 1048576 := by omega
      clear hB hB' hB2 hRl hx hs hp hq
      by_cases hx46 : x = 46
      · subst hx46
        go_enter Tryz.func80, Tryz.ntmps80
        go_wp2_with (go_at_call 101; go_must (refine (cc _).mono ?_; rintro e w1 ⟨rfl, rfl⟩))
        go_ret
        exact ⟨by simp, hw1 _⟩
      · have hxb : ((x : Int) == 46) = false := by rw [beq_eq_false_iff_ne]; omega
        rw [decide_eq_false hx46]
        go_enter Tryz.func80, Tryz.ntmps80
        go_wp2_with (go_at_call 101; go_must (refine (cc _).mono ?_; rintro e w1 ⟨rfl, rfl⟩))
        go_ret
        exact ⟨by simp, hw1 _⟩
    · rw [within_eq hB hs]
      have hRe : ((p.extract q.size p.size).toList == []) = true := by
        rw [toList_data, hRl]
        simp; omega
      generalize p.extract q.size p.size = R at cc hRe
      clear hB hB' hB2 hRl hs hp hq
      go_enter Tryz.func80, Tryz.ntmps80
      go_wp2_with (go_at_call 101; go_must (refine (cc _).mono ?_; rintro e w1 ⟨rfl, rfl⟩))
      go_ret
      exact ⟨by simp, hw1 _⟩
set_option maxRecDepth 100000 in
theorem implMeets (p q : ByteArray) (hp : p.size ≤ 1048576) (hq : q.size ≤ 1048576) (w : World) :
    Calls Tryz.prog 45 #[.agg #[.string p], .string q] w fun e w' => e = .returned (.bool (withinB p q || withinB q p)) ∧ Below w.heap.size w w' := by
  have hw1 : ∀ o, Below w.heap.size w (w.alloc o) := fun o => (Below.refl _ w).alloc (Nat.le_refl _) _
  have c1 := fun w => implWithin p q hp hq w
  have c2 := fun w => implWithin q p hq hp w
  have hbk : Blk (w.alloc (.cells #[.string p] 84)) w.heap.size 84 #[.string p] := heap_alloc_last w _
  have HBK : Hid (Blk (w.alloc (.cells #[.string p] 84)) w.heap.size 84 #[.string p]) := hbk
  obtain ⟨A, hA⟩ : ∃ A, withinB p q = A := ⟨_, rfl⟩
  obtain ⟨B, hB⟩ : ∃ B, withinB q p = B := ⟨_, rfl⟩
  rw [hA] at c1 ⊢
  rw [hB] at c2 ⊢
  clear hA hB hbk
  cases A
  · go_enter Tryz.func45, Tryz.ntmps45
    go_wp2_with (first
      | (go_at_call 80; have hchk := hb1; (refine (c2 _).mono ?_; rintro e w2 ⟨rfl, hb2⟩))
      | (go_at_call 80; go_must (refine (c1 _).mono ?_; rintro e w1 ⟨rfl, hb1⟩; have hk1 := Blk.below HBK.out hb1; have e0 := hk1.cell 0; simp at e0)))
    go_ret
    exact ⟨by simp, good_below (good_below (hw1 _) hb1) hb2⟩
  · go_enter Tryz.func45, Tryz.ntmps45
    go_wp2_with (go_at_call 80; go_must (refine (c1 _).mono ?_; rintro e w1 ⟨rfl, hb1⟩))
    go_ret
    exact ⟨by simp, good_below (hw1 _) hb1⟩

/-! Entries and layers that are right, as the program asks. -/
theorem has_of {α : Type} (f : α → ByteArray) (l : List α) (i : Nat) (t : ByteArray) : hasB ((l.map f).take i) t = (l.take i).any fun q => (f q).toList == t.toList := by
  unfold hasB
  rw [← List.map_take, List.any_map]
  rfl
theorem range_split {α : Type} (f : α → ByteArray) (g : α → Bool) (l : List α) : rangeB (fun pre x => g x && !(pre.any fun q => (f q).toList == (f x).toList)) l = (l.all g && !dupFrom (l.map f) []) := by
  cases ha : l.all g
  · rw [List.all_eq_false] at ha
    obtain ⟨x, hx, hb⟩ := ha
    obtain ⟨i, hi, rfl⟩ := List.getElem_of_mem hx
    exact range_bad hi (by rw [Bool.eq_false_iff.2 hb]; rfl)
  · cases hd : dupFrom (l.map f) []
    · refine range_all (fun i hi => ?_)
      rw [List.all_eq_true] at ha
      rw [ha _ (List.getElem_mem hi), Bool.true_and, ← has_of, Bool.not_eq_true']
      cases hh : hasB ((l.map f).take i) (f l[i])
      · rfl
      · have := (dup_iff (l.map f) []).2 ⟨i, by simpa using hi, by simpa using hh⟩
        rw [hd] at this; cases this
    · obtain ⟨i, hi, h⟩ := (dup_iff (l.map f) []).1 hd
      have hi' : i < l.length := by simpa using hi
      refine range_bad hi' ?_
      rw [← has_of]
      simp at h
      rw [h]; simp
theorem entries_split (nameB : ByteArray → Bool) (es : List Entry) : entriesB nameB es = (es.all (fun e => decide (e.text.size ≤ 200)) && ((es.map Entry.path).all (pathB nameB) && !dupFrom (es.map Entry.path) [])) := by
  have h := range_split Entry.path (fun e => pathB nameB e.path && decide (e.text.size ≤ 200)) es
  unfold entriesB
  rw [show entryB nameB = fun pre x => (pathB nameB x.path && decide (x.text.size ≤ 200)) && !(pre.any fun q => q.path.toList == x.path.toList) from rfl, h]
  rw [← Bool.and_assoc]
  congr 1
  rw [List.all_map]
  induction es with
  | nil => rfl
  | cons a t ih =>
    simp only [List.all_cons, Function.comp]
    rw [show (t.all fun e => pathB nameB e.path && decide (e.text.size ≤ 200)) = ((t.all fun e => decide (e.text.size ≤ 200)) && t.all (pathB nameB ∘ Entry.path)) from ih (range_split _ _ _)]
    cases pathB nameB a.path <;> cases decide (a.text.size ≤ 200) <;> simp [Function.comp_def]
theorem layers_split (nameB : ByteArray → Bool) (l : List Layer) (h20 : l.length ≤ 20) : layersB nameB l = (l.all (fun x => decide (x.entries.length ≤ 100) && entriesB nameB x.entries) && ((l.map Layer.name).all nameB && !dupFrom (l.map Layer.name) [])) := by
  have h := range_split Layer.name (fun x => nameB x.name && (decide (x.entries.length ≤ 100) && entriesB nameB x.entries)) l
  unfold layersB
  rw [decide_eq_true h20, Bool.true_and]
  have e : layerB nameB = fun pre x => (nameB x.name && (decide (x.entries.length ≤ 100) && entriesB nameB x.entries)) && !(pre.any fun q => q.name.toList == x.name.toList) := by
    funext pre x
    unfold layerB
    cases nameB x.name <;> cases decide (x.entries.length ≤ 100) <;> cases (pre.any fun q => q.name.toList == x.name.toList) <;> cases entriesB nameB x.entries <;> rfl
  rw [e, h, ← Bool.and_assoc]
  congr 1
  rw [List.all_map]
  clear h h20 e
  induction l with
  | nil => rfl
  | cons a t ih =>
    simp only [List.all_cons, Function.comp]
    rw [ih]
    cases nameB a.name <;> cases (decide (a.entries.length ≤ 100) && entriesB nameB a.entries) <;> simp [Function.comp_def]
end Go.Proofs.YtdlopjimheaekaaGreatDoor

namespace Go.Proofs.YtdlopjimheaekaaGreatDoor
open Go.ChangeShapes Go.WideShapes Go.ChangeAt Go.RowKit
set_option linter.unusedVariables false

theorem OwnTxts.row {B : Nat} {w : World} {v : Value} {l : List ByteArray} (h : OwnTxts B w v l) : ∃ a cap, v = .slice a l.length cap ∧ (0 < l.length → ∃ g, a = some ⟨g, 0, none⟩ ∧ g < w.heap.size ∧ ∀ j (hj : j < l.length), w.cell? ⟨g, j, none⟩ = some (.string l[j])) := by
  obtain ⟨a, cap, hv, _, hc⟩ := h.value
  refine ⟨a, cap, hv, fun h0 => ?_⟩
  obtain ⟨g, h1, _, h3, h4⟩ := hc h0
  exact ⟨g, h1, h3, h4⟩
theorem TxtsAt.newAt (w : World) (x : ByteArray) (g : Nat) (hg : w.heap.size = g) : TxtsAt (fun b => b = g) (w.alloc (.cells #[.string x] 9)) (.slice (some ⟨g, 0, none⟩) 1 1) [x] := by
  subst hg; exact TxtsAt.new w x
set_option maxRecDepth 100000 in
set_option maxHeartbeats 4000000 in
theorem implEntries {S : Nat → Prop} {es : List Entry} {v : Value} {w : World} (hS : ∀ b, S b → b < w.heap.size) (h : EntrysAt S w v es) (hok : ∀ y ∈ es, EntrysOK 1048576 y) (hT : Lib.Utf8Tabs 0 1 w) :
    Calls Tryz.prog 46 #[v] w fun e w' => e = .returned (.bool (decide (es.length ≤ 100) && entriesB nameOK es)) ∧ Below w.heap.size w w' := by
  obtain ⟨hlm, a, cap, rfl, hc⟩ := h
  have HC : Hid _ := hc
  have HS : Hid (∀ b, S b → b < w.heap.size) := hS
  have HOK : Hid (∀ y ∈ es, EntrysOK 1048576 y) := hok
  have HT : Hid (Lib.Utf8Tabs 0 1 w) := hT
  have hlm' : (es.length : Int) ≤ 9223372036854775807 := by simp [maxLen] at hlm; omega
  clear hc hS hok hlm hT
  by_cases h100 : es.length ≤ 100
  · have h100' : ¬ ((100 : Int) < (es.length : Int)) := by omega
    rw [decide_eq_true h100, Bool.true_and, entries_split]
    obtain ⟨F, hF⟩ : ∃ F, (es.all (fun e => decide (e.text.size ≤ 200)) && ((es.map Entry.path).all (pathB nameOK) && !dupFrom (es.map Entry.path) [])) = F := ⟨_, rfl⟩
    have HF : Hid ((es.all (fun e => decide (e.text.size ≤ 200)) && ((es.map Entry.path).all (pathB nameOK) && !dupFrom (es.map Entry.path) [])) = F) := hF
    rw [hF]
    clear hF
    go_enter Tryz.func46, Tryz.ntmps46
    go_wp2_with fail
    go_loopw [3, 11] (fun i3 i11 wr => ∃ (k : Nat) (oa : Option Addr) (oc : Nat), i11 = .int .i64 (k : Int) ∧ i3 = .slice oa k oc ∧ k ≤ es.length ∧ OwnTxts w.heap.size wr (.slice oa k oc) ((es.take k).map Entry.path) ∧ (es.take k).all (fun e => decide (e.text.size ≤ 200)) = true ∧ Below w.heap.size w wr) (fun _ i11 _ => es.length - (intOf i11).toNat)
    case atStart => exact ⟨0, none, 0, rfl, rfl, by omega, OwnTxts.nil _ _, by simp, Below.refl _ _⟩
    case round =>
      obtain ⟨k, oa, oc, rfl, rfl, hk, hown, hall, hb⟩ := hrel
      have HAL : Hid ((es.take k).all (fun e => decide (e.text.size ≤ 200)) = true) := hall
      have HOW : Hid (OwnTxts w.heap.size wr (.slice oa k oc) ((es.take k).map Entry.path)) := hown
      clear hall hown
      by_cases hkn : k < es.length
      · have hkn' : (k : Int) < (es.length : Int) := by omega
        obtain ⟨b, off, rfl, hbS, hcell⟩ := HC.out (by omega)
        obtain ⟨x0, x1⟩ := hcell k hkn
        have hbw := HS.out b hbS
        have htk : es.take (k + 1) = es.take k ++ [es[k]] := List.take_succ_eq_append_getElem hkn
        have hoy := HOK.out es[k] (List.getElem_mem hkn)
        have hbad : decide (es[k].text.size ≤ 200) = false → (es.all (fun e => decide (e.text.size ≤ 200))) = false := fun h => by
          rw [List.all_eq_false]; exact ⟨es[k], List.getElem_mem hkn, by rw [h]; simp⟩
        obtain ⟨y, hy⟩ : ∃ y, es[k] = y := ⟨_, rfl⟩
        rw [hy] at x0 x1 htk hoy hbad
        obtain ⟨yp, yt⟩ := y
        unfold EntrysOK at hoy
        dsimp only at x0 x1 hoy hbad
        have d0 := (hb.cell (p := ⟨b, off + k * 2, none⟩) hbw).trans x0
        have d1 := (hb.cell (p := ⟨b, off + k * 2 + 1, none⟩) hbw).trans x1
        have cl := fun w => implLong yt (by omega) w
        have HTK : Hid (es.take (k + 1) = es.take k ++ [(⟨yp, yt⟩ : Entry)]) := htk
        have HBAD : Hid (decide (yt.size ≤ 200) = false → (es.all (fun e => decide (e.text.size ≤ 200))) = false) := hbad
        have hbs := hb.size
        have hbb := hb.alloc hbs (.cells #[.string yp, .string yt] 73)
        clear hy hoy htk hbad x0 x1 hcell
        by_cases h200 : yt.size ≤ 200
        · rw [decide_eq_true h200] at cl
          go_wp2_with (first
            | (go_at_call 77; go_must (refine (cl _).mono ?_; rintro e w1 ⟨rfl, rfl⟩))
            | (at_builtin; go_must (refine wpList_appendTxts rfl (.tmp 18) (.tmp 21) rfl w.heap.size (.slice oa k oc) ((es.take k).map Entry.path) rfl (OwnTxts.below HOW.out (((Below.refl _ wr).alloc (Nat.le_refl _) _).alloc (by simp) _)) _ [yp] rfl (TxtsAt.newAt _ yp _ (by simp)) (by simp <;> omega) (by simp only [World.size_alloc]; omega) ?_; intro v9 w9 hown9 hB9 hgr9 hnil9; obtain ⟨a9, c9, e9, -⟩ := hown9.value; have hl9 : ((es.take k).map Entry.path ++ [yp]).length = k + 1 := (by simp <;> omega); rw [hl9] at e9; subst e9)))
          refine ⟨⟨k + 1, a9, c9, rfl, rfl, by omega, ?_, ?_, ((hbb.alloc hbb.size _).trans hB9)⟩, by simp [intOf]; omega⟩
          · rw [HTK.out, List.map_append]; exact hown9
          · rw [HTK.out, List.all_append, HAL.out]; simp [h200]
        · rw [decide_eq_false h200] at cl
          go_wp2_with (go_at_call 77; go_must (refine (cl _).mono ?_; rintro e w1 ⟨rfl, rfl⟩))
          go_ret
          refine ⟨?_, hbb⟩
          have hF := HF.out
          rw [HBAD.out (decide_eq_false h200)] at hF
          rw [← hF]; rfl
      · obtain rfl : k = es.length := by omega
        have hkn' : ¬ ((es.length : Int) < (es.length : Int)) := by omega
        have hall := HAL.out
        have hown := HOW.out
        rw [List.take_length] at hall hown
        have hF := HF.out
        rw [hall, Bool.true_and] at hF
        obtain ⟨a9, c9, e9, hrow⟩ := hown.row
        rw [List.length_map] at e9
        simp only [Value.slice.injEq] at e9
        obtain ⟨rfl, -, rfl⟩ := e9
        have hzz : ∀ s ∈ es.map Entry.path, s.size ≤ 1048576 := fun s hs => by
          obtain ⟨y, hy, rfl⟩ := List.mem_map.1 hs
          have := (HOK.out y hy).1
          omega
        have cp := implPaths (es.map Entry.path) oa oc wr (by rw [List.length_map]; omega) hzz hrow (Utf8Tabs_below HT.out hb)
        have cs := fun w1 (hb1 : Below wr.heap.size wr w1) => implSingle (es.map Entry.path) oa oc w1 (by rw [List.length_map]; omega) hzz (fun h0 => by
          obtain ⟨g, h1, h2, h3⟩ := hrow h0
          exact ⟨g, h1, Nat.lt_of_lt_of_le h2 hb1.size, fun j hj => (hb1.cell (p := ⟨g, j, none⟩) h2).trans (h3 j hj)⟩)
        simp only [List.length_map] at cp cs
        obtain ⟨A, hA⟩ : ∃ A, (es.map Entry.path).all (pathB nameOK) = A := ⟨_, rfl⟩
        obtain ⟨D, hD⟩ : ∃ D, dupFrom (es.map Entry.path) [] = D := ⟨_, rfl⟩
        rw [hA] at cp hF
        rw [hD] at cs hF
        subst hF
        clear hA hD hall hown hrow hzz
        cases A
        · go_wp2_with (go_at_call 81; go_must (refine cp.mono ?_; rintro e w1 ⟨rfl, hb1⟩))
          go_ret
          exact ⟨by simp, good_below hb hb1⟩
        · go_wp2_with (first
            | (go_at_call 81; go_must (refine cp.mono ?_; rintro e w1 ⟨rfl, hb1⟩))
            | (go_at_call 22; go_must (refine (cs _ hb1).mono ?_; rintro e w2 ⟨rfl, hb2⟩)))
          go_ret
          exact ⟨by simp, good_below hb (good_below hb1 hb2)⟩
  · have h100' : (100 : Int) < (es.length : Int) := by omega
    rw [decide_eq_false h100]
    go_enter Tryz.func46, Tryz.ntmps46
    go_wp2_with fail
    go_ret
    exact ⟨rfl, Below.refl _ _⟩
set_option maxRecDepth 100000 in
set_option maxHeartbeats 4000000 in
theorem implLayers {S : Nat → Prop} {l : List Layer} {v : Value} {w : World} (hS : ∀ b, S b → b < w.heap.size) (h : LayersAt S w v l) (hok : ∀ x ∈ l, LayersOK 1048576 x) (hT : Lib.Utf8Tabs 0 1 w) :
    Calls Tryz.prog 20 #[v] w fun e w' => e = .returned (.bool (layersB nameOK l)) ∧ Below w.heap.size w w' := by
  obtain ⟨hlm, a, cap, rfl, hc⟩ := h
  have HC : Hid _ := hc
  have HS : Hid (∀ b, S b → b < w.heap.size) := hS
  have HOK : Hid (∀ x ∈ l, LayersOK 1048576 x) := hok
  have HT : Hid (Lib.Utf8Tabs 0 1 w) := hT
  have hlm' : (l.length : Int) ≤ 9223372036854775807 := by simp [maxLen] at hlm; omega
  clear hc hS hok hlm hT
  by_cases h20 : l.length ≤ 20
  · have h20' : ¬ ((20 : Int) < (l.length : Int)) := by omega
    rw [layers_split nameOK l h20]
    obtain ⟨F, hF⟩ : ∃ F, (l.all (fun x => decide (x.entries.length ≤ 100) && entriesB nameOK x.entries) && ((l.map Layer.name).all nameOK && !dupFrom (l.map Layer.name) [])) = F := ⟨_, rfl⟩
    have HF : Hid ((l.all (fun x => decide (x.entries.length ≤ 100) && entriesB nameOK x.entries) && ((l.map Layer.name).all nameOK && !dupFrom (l.map Layer.name) [])) = F) := hF
    rw [hF]
    clear hF
    go_enter Tryz.func20, Tryz.ntmps20
    go_wp2_with fail
    go_loopw [3, 11] (fun i3 i11 wr => ∃ (k : Nat) (oa : Option Addr) (oc : Nat), i11 = .int .i64 (k : Int) ∧ i3 = .slice oa k oc ∧ k ≤ l.length ∧ OwnTxts w.heap.size wr (.slice oa k oc) ((l.take k).map Layer.name) ∧ (l.take k).all (fun x => decide (x.entries.length ≤ 100) && entriesB nameOK x.entries) = true ∧ Below w.heap.size w wr) (fun _ i11 _ => l.length - (intOf i11).toNat)
    case atStart => exact ⟨0, none, 0, rfl, rfl, by omega, OwnTxts.nil _ _, by simp, Below.refl _ _⟩
    case round =>
      obtain ⟨k, oa, oc, rfl, rfl, hk, hown, hall, hb⟩ := hrel
      have HAL : Hid ((l.take k).all (fun x => decide (x.entries.length ≤ 100) && entriesB nameOK x.entries) = true) := hall
      have HOW : Hid (OwnTxts w.heap.size wr (.slice oa k oc) ((l.take k).map Layer.name)) := hown
      clear hall hown
      by_cases hkn : k < l.length
      · have hkn' : (k : Int) < (l.length : Int) := by omega
        obtain ⟨b, off, rfl, hbS, hcell⟩ := HC.out (by omega)
        obtain ⟨x0, x1, nv, t1, t2⟩ := hcell k hkn
        have hbw := HS.out b hbS
        have htk : l.take (k + 1) = l.take k ++ [l[k]] := List.take_succ_eq_append_getElem hkn
        have hoy := HOK.out l[k] (List.getElem_mem hkn)
        have hbad : (decide (l[k].entries.length ≤ 100) && entriesB nameOK l[k].entries) = false → (l.all (fun x => decide (x.entries.length ≤ 100) && entriesB nameOK x.entries)) = false := fun h => by
          rw [List.all_eq_false]; exact ⟨l[k], List.getElem_mem hkn, by rw [h]; simp⟩
        obtain ⟨y, hy⟩ : ∃ y, l[k] = y := ⟨_, rfl⟩
        rw [hy] at x0 x1 t2 htk hoy hbad
        obtain ⟨yn, yr, ye⟩ := y
        unfold LayersOK at hoy
        dsimp only at x0 x1 t2 hoy hbad
        have d0 := (hb.cell (p := ⟨b, off + k * 3, none⟩) hbw).trans x0
        have d1 := (hb.cell (p := ⟨b, off + k * 3 + 1, none⟩) hbw).trans x1
        have d2 := (hb.cell (p := ⟨b, off + k * 3 + 2, none⟩) hbw).trans t1
        have hbs := hb.size
        have hbb := fun o => hb.alloc hbs o
        have ce := fun o => implEntries (w := wr.alloc o) (fun b hb2 => Nat.lt_of_lt_of_le (HS.out b hb2) (hbb o).size) (t2.keep (cells_below HS.out (hbb o))) hoy.2.2 (Utf8Tabs_below HT.out (hbb o))
        have HTK : Hid (l.take (k + 1) = l.take k ++ [(⟨yn, yr, ye⟩ : Layer)]) := htk
        have HBAD : Hid ((decide (ye.length ≤ 100) && entriesB nameOK ye) = false → (l.all (fun x => decide (x.entries.length ≤ 100) && entriesB nameOK x.entries)) = false) := hbad
        obtain ⟨ea, ec, hnv⟩ := t2.shape
        subst hnv
        obtain ⟨G, hG⟩ : ∃ G, (decide (ye.length ≤ 100) && entriesB nameOK ye) = G := ⟨_, rfl⟩
        rw [hG] at ce
        have HG : Hid ((decide (ye.length ≤ 100) && entriesB nameOK ye) = G) := hG
        have hbk : Blk (wr.alloc (.cells #[.string yn, .int .i64 yr, .slice ea ye.length ec] 27)) wr.heap.size 27 #[.string yn, .int .i64 yr, .slice ea ye.length ec] := heap_alloc_last wr _
        have HBK : Hid (Blk (wr.alloc (.cells #[.string yn, .int .i64 yr, .slice ea ye.length ec] 27)) wr.heap.size 27 #[.string yn, .int .i64 yr, .slice ea ye.length ec]) := hbk
        clear hy hoy htk hbad x0 x1 hcell t1 t2 hG hbk
        cases G
        · go_wp2_with (go_at_call 46; go_must (refine (ce _).mono ?_; rintro e w1 ⟨rfl, hb1⟩))
          go_ret
          refine ⟨?_, good_below (hbb _) hb1⟩
          have hF := HF.out
          rw [HBAD.out HG.out] at hF
          rw [← hF]; rfl
        · go_wp2_with (first
            | (go_at_call 46; go_must (refine (ce _).mono ?_; rintro e w1 ⟨rfl, hb1⟩; have hk1 := Blk.below HBK.out hb1; have e0 := hk1.cell 0; simp at e0; have hbw1 := good_below (hbb _) hb1; have how1 := OwnTxts.below (OwnTxts.below HOW.out ((Below.refl _ wr).alloc (Nat.le_refl _) _)) hb1; have hws1 := hbw1.size))
            | (at_builtin; go_must (refine wpList_appendTxts rfl (.tmp 19) (.tmp 22) rfl w.heap.size (.slice oa k oc) ((l.take k).map Layer.name) rfl (OwnTxts.below how1 ((Below.refl _ w1).alloc (Nat.le_refl _) _)) _ [yn] rfl (TxtsAt.newAt _ yn _ (by simp)) (by simp <;> omega) (by simp only [World.size_alloc]; omega) ?_; intro v9 w9 hown9 hB9 hgr9 hnil9; obtain ⟨a9, c9, e9, -⟩ := hown9.value; have hl9 : ((l.take k).map Layer.name ++ [yn]).length = k + 1 := (by simp <;> omega); rw [hl9] at e9; subst e9)))
          refine ⟨⟨k + 1, a9, c9, rfl, rfl, by omega, ?_, ?_, ((hbw1.alloc hbw1.size _).trans hB9)⟩, by simp [intOf]; omega⟩
          · rw [HTK.out, List.map_append]; exact hown9
          · rw [HTK.out, List.all_append, HAL.out]
            simp only [List.all_cons, List.all_nil, Bool.and_true, Bool.true_and]
            exact HG.out
      · obtain rfl : k = l.length := by omega
        have hkn' : ¬ ((l.length : Int) < (l.length : Int)) := by omega
        have hall := HAL.out
        have hown := HOW.out
        rw [List.take_length] at hall hown
        have hF := HF.out
        rw [hall, Bool.true_and] at hF
        obtain ⟨a9, c9, e9, hrow⟩ := hown.row
        rw [List.length_map] at e9
        simp only [Value.slice.injEq] at e9
        obtain ⟨rfl, -, rfl⟩ := e9
        have hzz : ∀ s ∈ l.map Layer.name, s.size ≤ 1048576 := fun s hs => by
          obtain ⟨y, hy, rfl⟩ := List.mem_map.1 hs
          have := (HOK.out y hy).1
          omega
        have cp := implNames (l.map Layer.name) oa oc wr (by rw [List.length_map]; omega) hzz hrow (Utf8Tabs_below HT.out hb)
        have cs := fun w1 (hb1 : Below wr.heap.size wr w1) => implSingle (l.map Layer.name) oa oc w1 (by rw [List.length_map]; omega) hzz (fun h0 => by
          obtain ⟨g, h1, h2, h3⟩ := hrow h0
          exact ⟨g, h1, Nat.lt_of_lt_of_le h2 hb1.size, fun j hj => (hb1.cell (p := ⟨g, j, none⟩) h2).trans (h3 j hj)⟩)
        simp only [List.length_map] at cp cs
        obtain ⟨A, hA⟩ : ∃ A, (l.map Layer.name).all nameOK = A := ⟨_, rfl⟩
        obtain ⟨D, hD⟩ : ∃ D, dupFrom (l.map Layer.name) [] = D := ⟨_, rfl⟩
        rw [hA] at cp hF
        rw [hD] at cs hF
        subst hF
        clear hA hD hall hown hrow hzz
        cases A
        · go_wp2_with (go_at_call 21; go_must (refine cp.mono ?_; rintro e w1 ⟨rfl, hb1⟩))
          go_ret
          exact ⟨by simp, good_below hb hb1⟩
        · go_wp2_with (first
            | (go_at_call 21; go_must (refine cp.mono ?_; rintro e w1 ⟨rfl, hb1⟩))
            | (go_at_call 22; go_must (refine (cs _ hb1).mono ?_; rintro e w2 ⟨rfl, hb2⟩)))
          go_ret
          exact ⟨by simp, good_below hb (good_below hb1 hb2)⟩
  · have h20' : (20 : Int) < (l.length : Int) := by omega
    go_enter Tryz.func20, Tryz.ntmps20
    go_wp2_with fail
    go_ret
    refine ⟨?_, Below.refl _ _⟩
    unfold layersB
    rw [decide_eq_false h20]
    rfl
end Go.Proofs.YtdlopjimheaekaaGreatDoor

namespace Go.Proofs.YtdlopjimheaekaaGreatDoor
open Go.ChangeShapes Go.WideShapes Go.ChangeAt Go.RowKit
set_option linter.unusedVariables false

/-- Settings that rise by path. -/
def SRises (l : List Setting) : Prop := l.Pairwise fun x y => lessB x.path y.path = true
theorem SRises.eq {a b : List Setting} (ha : SRises a) (hb : SRises b) (h : ∀ x, x ∈ a ↔ x ∈ b) : a = b :=
  pw_eq (r := fun x y : Setting => lessB x.path y.path = true) (fun _ _ _ h1 h2 => lessB_trans h1 h2) (fun x h => by rw [lessB_irrefl] at h; cases h) ha hb h
theorem within_self (p : ByteArray) : withinB p p = true := by unfold withinB; simp
theorem hits_same {o : Setting} {e : Entry} (h : o.path = e.path) : hits o e = true := by unfold hits; rw [h, within_self]; rfl
def tilde (e : Entry) : Bool := e.text.toList == [126]

structure RestInv (out : List Setting) (e : Entry) (nm : ByteArray) (j : Nat) (r : List Setting) (p : Bool) : Prop where
  rises : SRises r
  mem : ∀ x, x ∈ r ↔ (∃ i, i < j ∧ out[i]? = some x ∧ hits x e = false) ∨ (p = true ∧ tilde e = false ∧ x = newS e nm)
  low : p = false → ∀ x ∈ r, lessB x.path e.path = true
  high : p = true → tilde e = false → ∀ i o, j ≤ i → out[i]? = some o → lessB e.path o.path = true
  til : tilde e = true → p = true
theorem rises_at {out : List Setting} (h : SRises out) {i j : Nat} {x y : Setting} (hij : i < j) (hx : out[i]? = some x) (hy : out[j]? = some y) : lessB x.path y.path = true := by
  obtain ⟨h1, rfl⟩ := List.getElem?_eq_some_iff.1 hx
  obtain ⟨h2, rfl⟩ := List.getElem?_eq_some_iff.1 hy
  exact List.pairwise_iff_getElem.1 h i j h1 h2 hij
theorem restInv {out : List Setting} {e : Entry} {nm : ByteArray} (h : SRises out) : ∀ j, j ≤ out.length → RestInv out e nm j (restUp out e nm j).1 (restUp out e nm j).2
  | 0, _ => by
    unfold restUp
    refine ⟨List.Pairwise.nil, fun x => ⟨fun hx => (by simp at hx), ?_⟩, fun _ x hx => (by simp at hx), fun h1 h2 => ?_, fun h => h⟩
    · rintro (⟨i, hi, _⟩ | ⟨h1, h2, _⟩)
      · omega
      · unfold tilde at h2; simp only at h1; rw [h1] at h2; cases h2
    · unfold tilde at h2; simp only at h1; rw [h1] at h2; cases h2
  | j + 1, hj => by
    have ih := restInv (e := e) (nm := nm) h j (by omega)
    obtain ⟨r, p, hr⟩ : ∃ r p, restUp out e nm j = (r, p) := ⟨_, _, rfl⟩
    rw [hr] at ih
    dsimp only at ih
    have hjl : j < out.length := by omega
    have ho : out[j]? = some out[j] := List.getElem?_eq_getElem hjl
    generalize out[j] = o at ho
    cases hh : hits o e
    · cases hq : (!p && Go.Op.bytesLess e.path.toList o.path.toList)
      · rw [restUp_keep hr ho hh hq]
        dsimp only
        refine ⟨?_, fun x => ?_, fun hp x hx => ?_, fun hp ht i o2 hi hoi => ih.high hp ht i o2 (by omega) hoi, ih.til⟩
        · unfold SRises
          rw [List.pairwise_append]
          refine ⟨ih.rises, by simp, fun x hx y hy => ?_⟩
          simp at hy
          subst hy
          rcases (ih.mem x).1 hx with ⟨i, hi, hxi, _⟩ | ⟨h1, h2, rfl⟩
          · exact rises_at h hi hxi ho
          · exact ih.high h1 h2 j _ (Nat.le_refl _) ho
        · rw [List.mem_append, ih.mem, List.mem_singleton]
          constructor
          · rintro ((⟨i, hi, h1, h2⟩ | h1) | rfl)
            · exact .inl ⟨i, by omega, h1, h2⟩
            · exact .inr h1
            · exact .inl ⟨j, by omega, ho, hh⟩
          · rintro (⟨i, hi, h1, h2⟩ | h1)
            · by_cases e1 : i = j
              · subst e1; rw [ho] at h1; cases h1; exact .inr rfl
              · exact .inl (.inl ⟨i, by omega, h1, h2⟩)
            · exact .inl (.inr h1)
        · rcases List.mem_append.1 hx with hx | hx
          · exact ih.low hp x hx
          · simp at hx
            subst hx
            subst hp
            have hl : lessB e.path x.path = false := by simpa [lessB] using hq
            rcases lessB_total (x := x.path) (y := e.path) (fun e1 => by rw [hits_same e1] at hh; cases hh) with q | q
            · exact q
            · rw [hl] at q; cases q
      · have hp : p = false := by cases p <;> simp_all
        subst hp
        have hl : lessB e.path o.path = true := by simpa [lessB] using hq
        have htl : tilde e = false := by
          cases ht : tilde e
          · rfl
          · have := ih.til ht; cases this
        rw [restUp_put hr ho hh hl]
        dsimp only
        refine ⟨?_, fun x => ?_, fun hp => (by cases hp), fun _ _ i o2 hi hoi => lessB_trans hl (rises_at h (by omega) ho hoi), fun _ => rfl⟩
        · unfold SRises
          rw [List.pairwise_append, List.pairwise_append]
          refine ⟨⟨ih.rises, by simp, fun x hx y hy => ?_⟩, by simp, fun x hx y hy => ?_⟩
          · simp at hy; subst hy; exact ih.low rfl x hx
          · simp at hy
            subst hy
            rcases List.mem_append.1 hx with hx | hx
            · exact lessB_trans (ih.low rfl x hx) hl
            · simp at hx; subst hx; exact hl
        · rw [List.mem_append, List.mem_append, ih.mem, List.mem_singleton, List.mem_singleton]
          constructor
          · rintro (((⟨i, hi, h1, h2⟩ | ⟨h1, _⟩) | h1) | rfl)
            · exact .inl ⟨i, by omega, h1, h2⟩
            · cases h1
            · exact .inr ⟨rfl, htl, h1⟩
            · exact .inl ⟨j, by omega, ho, hh⟩
          · rintro (⟨i, hi, h1, h2⟩ | ⟨_, _, h1⟩)
            · by_cases e1 : i = j
              · subst e1; rw [ho] at h1; cases h1; exact .inr rfl
              · exact .inl (.inl (.inl ⟨i, by omega, h1, h2⟩))
            · exact .inl (.inr h1)
    · rw [restUp_hit hr ho hh]
      dsimp only
      refine ⟨ih.rises, fun x => ?_, ih.low, fun hp ht i o2 hi hoi => ih.high hp ht i o2 (by omega) hoi, ih.til⟩
      rw [ih.mem]
      constructor
      · rintro (⟨i, hi, h1, h2⟩ | h1)
        · exact .inl ⟨i, by omega, h1, h2⟩
        · exact .inr h1
      · rintro (⟨i, hi, h1, h2⟩ | h1)
        · by_cases e1 : i = j
          · subst e1; rw [ho] at h1; cases h1; rw [hh] at h2; cases h2
          · exact .inl ⟨i, by omega, h1, h2⟩
        · exact .inr h1
theorem layStep_ok {out : List Setting} {e : Entry} {nm : ByteArray} (h : SRises out) : SRises (layStep nm out e) ∧ ∀ x, x ∈ layStep nm out e ↔ (x ∈ out ∧ hits x e = false) ∨ (tilde e = false ∧ x = newS e nm) := by
  have ih := restInv (e := e) (nm := nm) h out.length (Nat.le_refl _)
  obtain ⟨r, p, hr⟩ : ∃ r p, restUp out e nm out.length = (r, p) := ⟨_, _, rfl⟩
  rw [hr] at ih
  dsimp only at ih
  have hm : ∀ x, (∃ i, i < out.length ∧ out[i]? = some x ∧ hits x e = false) ↔ (x ∈ out ∧ hits x e = false) := fun x => by
    constructor
    · rintro ⟨i, _, h1, h2⟩; exact ⟨List.mem_of_getElem? h1, h2⟩
    · rintro ⟨h1, h2⟩
      obtain ⟨i, hi, rfl⟩ := List.getElem_of_mem h1
      exact ⟨i, hi, List.getElem?_eq_getElem hi, h2⟩
  cases p
  · have htl : tilde e = false := by
      cases ht : tilde e
      · rfl
      · have := ih.til ht; cases this
    rw [layStep_end hr]
    refine ⟨?_, fun x => ?_⟩
    · unfold SRises
      rw [List.pairwise_append]
      refine ⟨ih.rises, by simp, fun x hx y hy => ?_⟩
      simp at hy; subst hy; exact ih.low rfl x hx
    · rw [List.mem_append, ih.mem, hm, List.mem_singleton]
      constructor
      · rintro ((h1 | ⟨h1, _⟩) | h1)
        · exact .inl h1
        · cases h1
        · exact .inr ⟨htl, h1⟩
      · rintro (h1 | ⟨_, h1⟩)
        · exact .inl (.inl h1)
        · exact .inr h1
  · rw [layStep_put hr]
    refine ⟨ih.rises, fun x => ?_⟩
    rw [ih.mem, hm]
    constructor
    · rintro (h1 | ⟨_, h1, h2⟩)
      · exact .inl h1
      · exact .inr ⟨h1, h2⟩
    · rintro (h1 | ⟨h1, h2⟩)
      · exact .inl h1
      · exact .inr ⟨rfl, h1, h2⟩

/-! Layers in their order. -/
theorem lessL_iff (x y : LayV) : lessL x y = true ↔ x.x.rank < y.x.rank ∨ (x.x.rank = y.x.rank ∧ lessB x.x.name y.x.name = true) := by
  unfold lessL lessB; simp
theorem lessL_irrefl (x : LayV) : ¬ lessL x x = true := by
  rw [lessL_iff, lessB_irrefl]; simp
theorem lessL_trans {x y z : LayV} (h : lessL x y = true) (k : lessL y z = true) : lessL x z = true := by
  rw [lessL_iff] at *
  rcases h with h | ⟨h1, h2⟩ <;> rcases k with k | ⟨k1, k2⟩
  · exact .inl (by omega)
  · exact .inl (by omega)
  · exact .inl (by omega)
  · exact .inr ⟨by omega, lessB_trans h2 k2⟩
theorem lessL_total {x y : LayV} (h : x.x.name ≠ y.x.name) : lessL x y = true ∨ lessL y x = true := by
  rw [lessL_iff, lessL_iff]
  rcases Int.lt_trichotomy x.x.rank y.x.rank with q | q | q
  · exact .inl (.inl q)
  · rcases lessB_total h with r | r
    · exact .inl (.inr ⟨q, r⟩)
    · exact .inr (.inr ⟨q.symm, r⟩)
  · exact .inr (.inl q)
def LRises (l : List LayV) : Prop := l.Pairwise fun x y => lessL x y = true
theorem posUp_ok (out : List LayV) (y : LayV) : ∀ k, k ≤ out.length → (∀ i (hi : i < out.length), k ≤ i → lessL y out[i] = true) →
    posUp out y k ≤ k ∧ (∀ i (hi : i < out.length), posUp out y k ≤ i → lessL y out[i] = true) ∧ (0 < posUp out y k → ∃ hq : posUp out y k - 1 < out.length, lessL y out[posUp out y k - 1] = false)
  | 0, _, h => ⟨Nat.le_refl _, fun i hi _ => h i hi (Nat.zero_le _), fun h0 => (by unfold posUp at h0; omega)⟩
  | k + 1, hk, h => by
    have hkl : k < out.length := by omega
    cases hl : lessL y out[k]
    · have hp : posUp out y (k + 1) = k + 1 := by
        conv => lhs; unfold posUp
        rw [List.getElem?_eq_getElem hkl]
        simp [hl]
      rw [hp]
      exact ⟨Nat.le_refl _, h, fun _ => ⟨by omega, by simpa using hl⟩⟩
    · have hp : posUp out y (k + 1) = posUp out y k := by
        conv => lhs; unfold posUp
        rw [List.getElem?_eq_getElem hkl]
        simp [hl]
      rw [hp]
      obtain ⟨h1, h2, h3⟩ := posUp_ok out y k (by omega) (fun i hi hki => by
        by_cases e : i = k
        · subst e; exact hl
        · exact h i hi (by omega))
      exact ⟨by omega, h2, h3⟩
theorem overStep_ok {out : List LayV} {y : LayV} (h : LRises out) (hd : ∀ z ∈ out, z.x.name ≠ y.x.name) : LRises (overStep out y) ∧ ∀ x, x ∈ overStep out y ↔ x ∈ out ∨ x = y := by
  obtain ⟨h1, h2, h3⟩ := posUp_ok out y out.length (Nat.le_refl _) (fun i hi hki => by omega)
  unfold overStep posN
  generalize posUp out y out.length = q at h1 h2 h3
  have hsp : out = out.take q ++ out.drop q := (List.take_append_drop _ _).symm
  have hlow : ∀ x ∈ out.take q, lessL x y = true := fun x hx => by
    obtain ⟨i, hi, rfl⟩ := List.mem_take_iff_getElem.1 hx
    have hi2 : i < out.length := by omega
    obtain ⟨hq, hb⟩ := h3 (by omega)
    have hlast : lessL out[q - 1] y = true := by
      rcases lessL_total (hd _ (List.getElem_mem hq)) with r | r
      · exact r
      · rw [hb] at r; cases r
    by_cases e : i = q - 1
    · subst e; exact hlast
    · exact lessL_trans (List.pairwise_iff_getElem.1 h i (q - 1) hi2 hq (by omega)) hlast
  have hhigh : ∀ x ∈ out.drop q, lessL y x = true := fun x hx => by
    obtain ⟨i, hi, rfl⟩ := List.getElem_of_mem hx
    rw [List.getElem_drop]
    exact h2 _ _ (by omega)
  have hp := h
  unfold LRises at hp
  rw [hsp, List.pairwise_append] at hp
  obtain ⟨p1, p2, p3⟩ := hp
  refine ⟨?_, fun x => ?_⟩
  · unfold LRises
    rw [List.pairwise_append, List.pairwise_append]
    refine ⟨⟨p1, by simp, fun a ha b hb => by simp at hb; subst hb; exact hlow a ha⟩, p2, fun a ha b hb => ?_⟩
    rcases List.mem_append.1 ha with ha | ha
    · exact p3 a ha b hb
    · simp at ha; subst ha; exact hhigh b hb
  · conv => rhs; rw [hsp]
    simp only [List.mem_append, List.mem_singleton]
    constructor
    · rintro ((h | h) | h)
      · exact .inl (.inl h)
      · exact .inr h
      · exact .inl (.inr h)
    · rintro ((h | h) | h)
      · exact .inl (.inl h)
      · exact .inr h
      · exact .inl (.inr h)
def Named (l : List LayV) : Prop := l.Pairwise fun x y => x.x.name ≠ y.x.name
theorem overFold_ok : ∀ (lv out : List LayV), LRises out → Named lv → (∀ z ∈ out, ∀ y ∈ lv, z.x.name ≠ y.x.name) → LRises (lv.foldl overStep out) ∧ ∀ x, x ∈ lv.foldl overStep out ↔ x ∈ out ∨ x ∈ lv
  | [], out, h, _, _ => ⟨h, fun x => by simp⟩
  | y :: lv, out, h, hn, hd => by
    obtain ⟨n1, n2⟩ := List.pairwise_cons.1 hn
    obtain ⟨h1, h2⟩ := overStep_ok (y := y) h (fun z hz => hd z hz y (List.mem_cons_self ..))
    obtain ⟨h3, h4⟩ := overFold_ok lv _ h1 n2 (fun z hz y2 hy2 => by
      rcases (h2 z).1 hz with q | q
      · exact hd z q y2 (List.mem_cons_of_mem _ hy2)
      · subst q; exact n1 y2 hy2)
    rw [List.foldl_cons]
    refine ⟨h3, fun x => ?_⟩
    rw [h4, h2, List.mem_cons]
    constructor
    · rintro ((h | h) | h)
      · exact .inl h
      · exact .inr (.inl h)
      · exact .inr (.inr h)
    · rintro (h | h | h)
      · exact .inl (.inl h)
      · exact .inl (.inr h)
      · exact .inr h
/-- The row that a sort leaves is the row that an insertion makes. -/
theorem over_is {lv l : List LayV} (hn : Named lv) (hp : l.Perm lv) (hs : l.Pairwise fun x y => lessL y x = false) : l = overF lv := by
  obtain ⟨h1, h2⟩ := overFold_ok lv [] List.Pairwise.nil hn (fun z hz => by cases hz)
  have hn2 : Named l := (hp.pairwise_iff (fun {_ _} h => Ne.symm h)).2 hn
  refine pw_eq (r := fun x y : LayV => lessL x y = true) (fun _ _ _ a b => lessL_trans a b) lessL_irrefl ?_ h1 (fun x => ?_)
  · rw [List.pairwise_iff_getElem] at *
    intro i j hi hj hij
    rcases lessL_total (List.pairwise_iff_getElem.1 hn2 i j hi hj hij) with q | q
    · exact q
    · rw [hs i j hi hj hij] at q; cases q
  · unfold overF at *
    rw [h2, hp.mem_iff]
    simp
end Go.Proofs.YtdlopjimheaekaaGreatDoor

namespace Go.Proofs.YtdlopjimheaekaaGreatDoor
open Go.ChangeShapes Go.WideShapes Go.ChangeAt Go.RowKit Go.Maps
set_option linter.unusedVariables false

def sVal (s : Setting) : Value := .agg #[.string s.path, .string s.text, .string s.from']
theorem sVal_inj {a b : Setting} (h : sVal a = sVal b) : a = b := by
  obtain ⟨a1, a2, a3⟩ := a
  obtain ⟨b1, b2, b3⟩ := b
  simp [sVal] at h
  obtain ⟨rfl, rfl, rfl⟩ := h
  rfl
open Classical in
/-- A setting as an element of a map, held as it is. -/
noncomputable def heldS (v : Value) : Option (DataW Value × List MemPlace) := if ∃ s, v = sVal s then some (.held v, []) else none
theorem heldS_mk (s : Setting) : heldS (sVal s) = some (.held (sVal s), []) := by
  unfold heldS; rw [if_pos ⟨s, rfl⟩]
theorem heldS_inv {v : Value} {y : DataW Value × List MemPlace} (h : heldS v = some y) : ∃ s, v = sVal s ∧ y = (.held (sVal s), []) := by
  unfold heldS at h
  split at h
  · rename_i hx
    obtain ⟨s, rfl⟩ := hx
    cases h
    exact ⟨s, rfl, rfl⟩
  · cases h
theorem key_inv {key : Value} {kl : Lit} (h : keyOf Tryz.prog 9 key = some kl) : ∃ s : ByteArray, key = .string s ∧ kl = textKey s := by
  rw [keyOf_string Tryz.underlying9] at h
  cases key <;> simp [mapKey, Tryz.underlying9] at h
  exact ⟨_, rfl, h.2.symm⟩
theorem textKey_key (s : ByteArray) : WideAt.IsKeyLit (textKey s) := trivial

/-- D holds f. -/
def Rep (D : DataW Value) (f : ByteArray → Option Setting) : Prop := ∀ p, (∀ s, f p = some s → ∀ z, D.atKey (textKey p) z = .held (sVal s)) ∧ (f p = none → has D (textKey p) = false)
theorem Rep.has {D : DataW Value} {f : ByteArray → Option Setting} (h : Rep D f) (p : ByteArray) : has D (textKey p) = (f p).isSome := by
  cases hf : f p with
  | none => rw [(h p).2 hf]; rfl
  | some s => rw [has_true_of_atKey ((h p).1 s hf)]; rfl
theorem Rep.some {D : DataW Value} {f : ByteArray → Option Setting} (h : Rep D f) {p : ByteArray} {s : Setting} (ha : ∀ z, D.atKey (textKey p) z = .held (sVal s)) : f p = Option.some s := by
  cases hf : f p with
  | none => have := (h p).2 hf; rw [has_true_of_atKey ha] at this; cases this
  | some t =>
    have h1 := (h p).1 t hf (.held .nilFunc)
    rw [ha] at h1
    simp only [DataW.held.injEq] at h1
    rw [sVal_inj h1]
theorem Rep.del {D : DataW Value} {f : ByteArray → Option Setting} (h : Rep D f) (q : ByteArray) : Rep (D.del (textKey q)) (fun p => if p = q then none else f p) := by
  intro p
  by_cases e : p = q
  · subst e
    simp only [if_true]
    exact ⟨fun s hs => (by cases hs), fun _ => has_del_same⟩
  · have hne : textKey p ≠ textKey q := fun h => e (textKey_inj h)
    simp only [if_neg e]
    refine ⟨fun s hs z => ?_, fun hn => ?_⟩
    · rw [atKey_del_other hne]; exact (h p).1 s hs z
    · rw [has_del_other hne]; exact (h p).2 hn
theorem Rep.put {D : DataW Value} {f : ByteArray → Option Setting} (h : Rep D f) (hm : IsMap D) (q : ByteArray) (s : Setting) : Rep (D.put (textKey q) (.held (sVal s))) (fun p => if p = q then Option.some s else f p) := by
  intro p
  by_cases e : p = q
  · subst e
    simp only [if_true]
    exact ⟨fun t ht z => (by cases ht; exact atKey_put_same hm (textKey_key _) _ _), fun hn => (by cases hn)⟩
  · have hne : textKey p ≠ textKey q := fun h => e (textKey_inj h)
    simp only [if_neg e]
    refine ⟨fun s hs z => ?_, fun hn => ?_⟩
    · rw [atKey_put_other hne]; exact (h p).1 s hs z
    · rw [has_put_other hne]; exact (h p).2 hn
theorem Rep.congr {D : DataW Value} {f g : ByteArray → Option Setting} (h : Rep D f) (e : ∀ p, f p = g p) : Rep D g := (funext e) ▸ h

/-- The function of the settings of a row. -/
def IsOf (f : ByteArray → Option Setting) (out : List Setting) : Prop := ∀ p s, f p = some s ↔ s ∈ out ∧ s.path = p
/-- The map in block b holds just these settings, by their paths. -/
def MapS (w : World) (b n : Nat) (out : List Setting) : Prop := ∃ D f, w.ownsMap Tryz.prog 9 heldS b n D ∧ Rep D f ∧ IsOf f out
theorem MapS.made (w : World) : MapS (w.alloc (.map #[] 0)) w.heap.size 0 [] :=
  ⟨.map [], fun _ => none, World.ownsMap_made _ _ _ _, fun p => ⟨fun s hs => (by cases hs), fun _ => rfl⟩, fun p s => by simp⟩
theorem MapS.lt {w : World} {b n : Nat} {out : List Setting} (h : MapS w b n out) : b < w.heap.size := by
  obtain ⟨D, f, h, _⟩ := h; exact h.lt
theorem MapS.kept {w w' : World} {b n : Nat} {out : List Setting} {row : Option Nat} (h : MapS w b n out) (hg : w.grownBy w' row) (hne : some b ≠ row) : MapS w' b n out := by
  obtain ⟨D, f, h, hr⟩ := h; exact ⟨D, f, h.kept hg hne, hr⟩
theorem MapS.below {w w' : World} {b n : Nat} {out : List Setting} (h : MapS w b n out) (hb : Below w.heap.size w w') : MapS w' b n out := by
  have hl := h.lt
  obtain ⟨D, f, ⟨es, clock, hbk, F, hs, hD⟩, hr⟩ := h
  exact ⟨D, f, ⟨es, clock, (hb.block b hl).trans hbk, F, hs, hD⟩, hr⟩

/-- The step of a range over such a map. -/
theorem wpList_nextS (w : World) {ops : Array Oper} {rest : List Oper} {o : Oper} {a : Act} {Q : Exit → Act → World → Prop}
    (hg : o.guard = none) (it : Operand) (hop : o.op = Op.next it false) (b r n : Nat) (D : DataW Value) (left : Lit → Bool) (cnt : Nat) (hit : a.eval it = .pointer (some ⟨r, 0, none⟩)) (h : w.ranges Tryz.prog 9 heldS b r n D left cnt)
    (hDone : cnt = 0 → (∀ kl, left kl = false) → wpList Tryz.prog ops Q rest (a.put o.dst (.tuple #[.bool false])) w)
    (hMore : ∀ (x cp ct cf : ByteArray) (w' : World) (cnt' : Nat), left (textKey x) = true → (∀ zd, D.atKey (textKey x) zd = .held (sVal ⟨cp, ct, cf⟩)) → keyOf Tryz.prog 9 (.string x) = some (textKey x) → w'.ranges Tryz.prog 9 heldS b r n D (fun z => left z && !z.sameKey (textKey x)) cnt' → cnt' < cnt →
      w.grownBy w' (some r) → w'.heap.size = w.heap.size → (Instr.entry (.pointer (some ⟨r, 0, none⟩))).run Tryz.prog w' = .ok (.tuple #[.string x, .agg #[.string cp, .string ct, .string cf]]) w' → wpList Tryz.prog ops Q rest (a.put o.dst (.tuple #[.bool true, .string x, .agg #[.string cp, .string ct, .string cf]])) w') :
    wpList Tryz.prog ops Q (o :: rest) a w :=
  wpList_next_ranges w hg it hop 9 law9 heldS Value.string sVal (fun key kl hkey => by obtain ⟨x, rfl, _⟩ := key_inv hkey; exact ⟨x, rfl⟩) (fun v y hv => by obtain ⟨c, rfl, _⟩ := heldS_inv hv; exact ⟨c, rfl⟩)
    b r n D left cnt hit h hDone (fun x c kl y w' cnt' hkey hlk hv hat hrg hlt hgr hsz hen => by
      obtain ⟨x', ex, rfl⟩ := key_inv hkey
      cases ex
      rw [heldS_mk] at hv
      cases hv
      obtain ⟨cp, ct, cf⟩ := c
      exact hMore x cp ct cf w' cnt' hlk hat hkey hrg hlt hgr hsz hen)

/-- What is left of f while its entries are gone through, those that hit going. -/
def leftF (f : ByteArray → Option Setting) (e : Entry) (left : Lit → Bool) (p : ByteArray) : Option Setting := match f p with
  | some s => if left (textKey p) || !hits s e then some s else none
  | none => none
theorem leftF_start {D : DataW Value} {f : ByteArray → Option Setting} (h : Rep D f) (e : Entry) : Rep D (leftF f e (has D)) := by
  refine h.congr (fun p => ?_)
  unfold leftF
  cases hf : f p with
  | none => rfl
  | some s => rw [h.has, hf]; rfl
theorem same_text (p q : ByteArray) : (textKey p).sameKey (textKey q) = decide (p = q) := by
  by_cases e : p = q
  · subst e; rw [WideAt.sameKey_self (textKey_key p)]; simp
  · rw [sameKey_ne (fun h => e (textKey_inj h))]; simp [e]
theorem leftF_hit {D : DataW Value} {f : ByteArray → Option Setting} {e : Entry} {left : Lit → Bool} {x : ByteArray} {c : Setting} (h : Rep D (leftF f e left)) (hat : ∀ z, D.atKey (textKey x) z = .held (sVal c)) (hh : hits c e = true) :
    Rep (D.del (textKey x)) (leftF f e (fun z => left z && !z.sameKey (textKey x))) := by
  have hx := h.some hat
  refine (h.del x).congr (fun p => ?_)
  unfold leftF at hx ⊢
  by_cases ep : p = x
  · subst ep
    simp only [if_true]
    cases hf : f p with
    | none => rfl
    | some s =>
      rw [hf] at hx
      simp only at hx
      split at hx
      · cases hx
        simp [same_text, hh]
      · cases hx
  · simp only [if_neg ep]
    cases hf : f p with
    | none => rfl
    | some s => simp [same_text, ep]
theorem leftF_stay {D : DataW Value} {f : ByteArray → Option Setting} {e : Entry} {left : Lit → Bool} {x : ByteArray} {c : Setting} (h : Rep D (leftF f e left)) (hat : ∀ z, D.atKey (textKey x) z = .held (sVal c)) (hh : hits c e = false) :
    Rep D (leftF f e (fun z => left z && !z.sameKey (textKey x))) := by
  have hx := h.some hat
  refine h.congr (fun p => ?_)
  unfold leftF at hx ⊢
  by_cases ep : p = x
  · subst ep
    cases hf : f p with
    | none => rfl
    | some s =>
      rw [hf] at hx
      simp only at hx
      split at hx
      · rename_i hl
        cases hx
        simp [same_text, hh]
      · cases hx
  · cases hf : f p with
    | none => rfl
    | some s => simp [same_text, ep]
theorem leftF_end {D : DataW Value} {f : ByteArray → Option Setting} {e : Entry} {left : Lit → Bool} (h : Rep D (leftF f e left)) (hl : ∀ kl, left kl = false) : Rep D (leftF f e (fun _ => false)) := by
  have : left = fun _ => false := funext hl
  subst this
  exact h
theorem lay_erase {f : ByteArray → Option Setting} {out : List Setting} {e : Entry} {nm : ByteArray} (hr : SRises out) (h : IsOf f out) (ht : tilde e = true) : IsOf (leftF f e (fun _ => false)) (layStep nm out e) := by
  intro p s
  rw [(layStep_ok (e := e) (nm := nm) hr).2]
  unfold leftF
  cases hf : f p with
  | none =>
    simp only
    refine ⟨fun hn => (by cases hn), ?_⟩
    rintro ⟨⟨h1, _⟩ | ⟨h1, _⟩, rfl⟩
    · rw [(h s.path s).2 ⟨h1, rfl⟩] at hf; cases hf
    · rw [ht] at h1; cases h1
  | some t =>
    have ht2 := (h p t).1 hf
    simp only [Bool.false_or]
    constructor
    · intro hh
      split at hh
      · rename_i hc
        cases hh
        exact ⟨.inl ⟨ht2.1, by simpa using hc⟩, ht2.2⟩
      · cases hh
    · rintro ⟨⟨h1, h2⟩ | ⟨h1, _⟩, rfl⟩
      · have := (h s.path s).2 ⟨h1, rfl⟩
        rw [hf] at this
        cases this
        simp [h2]
      · rw [ht] at h1; cases h1
theorem lay_put {f : ByteArray → Option Setting} {out : List Setting} {e : Entry} {nm : ByteArray} (hr : SRises out) (h : IsOf f out) (ht : tilde e = false) : IsOf (fun p => if p = e.path then some (newS e nm) else leftF f e (fun _ => false) p) (layStep nm out e) := by
  intro p s
  rw [(layStep_ok (e := e) (nm := nm) hr).2]
  by_cases ep : p = e.path
  · subst ep
    simp only [if_true]
    constructor
    · intro hh; cases hh; exact ⟨.inr ⟨ht, rfl⟩, rfl⟩
    · rintro ⟨⟨h1, h2⟩ | ⟨_, rfl⟩, hp⟩
      · rw [hits_same hp] at h2; cases h2
      · rfl
  · simp only [if_neg ep]
    unfold leftF
    cases hf : f p with
    | none =>
      simp only
      refine ⟨fun hn => (by cases hn), ?_⟩
      rintro ⟨⟨h1, _⟩ | ⟨_, rfl⟩, rfl⟩
      · rw [(h s.path s).2 ⟨h1, rfl⟩] at hf; cases hf
      · exact absurd rfl ep
    | some t =>
      have ht2 := (h p t).1 hf
      simp only [Bool.false_or]
      constructor
      · intro hh
        split at hh
        · rename_i hc
          cases hh
          exact ⟨.inl ⟨ht2.1, by simpa using hc⟩, ht2.2⟩
        · cases hh
      · rintro ⟨⟨h1, h2⟩ | ⟨_, rfl⟩, rfl⟩
        · have := (h s.path s).2 ⟨h1, rfl⟩
          rw [hf] at this
          cases this
          simp [h2]
        · exact absurd rfl ep
end Go.Proofs.YtdlopjimheaekaaGreatDoor
