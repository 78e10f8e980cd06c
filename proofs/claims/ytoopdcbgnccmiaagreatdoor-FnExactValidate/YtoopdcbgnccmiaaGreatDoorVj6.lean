/-
  What impl's areNames, isPath, arePaths, areSingle, isLongWord answer. spec.l08Layers: its walk. Rows of layers of one's own whose entries lie elsewhere. spec.l08Over: its walk. Settings laid over one another, as plain data. What impl's isWithin, meets, areEntries, areLayers answer. No statement of the seat is proved here.
-/
import Derived.Test.YtoopdcbgnccmiaaGreatDoorVj5
import Derived.Shelf.Strings.SplitCore
import Derived.Deep.CutBlock
import Derived.Deep.CutRange
namespace Go.Proofs.YtoopdcbgnccmiaaGreatDoor
open Go.ChangeShapes Go.WideShapes Go.ChangeAt Go.RowKit
set_option linter.unusedVariables false

theorem any_takeW {α : Type} (l : List α) (f : α → Bool) (k : Nat) (h : k < l.length) (h0 : (l.take k).any f = false) (h1 : f l[k] = false) : (l.take (k + 1)).any f = false := by
  rw [List.take_succ_eq_append_getElem h, List.any_append, h0]
  simp [h1]

def noName (s : ByteArray) : Bool := !nameOK s
set_option maxRecDepth 100000 in
theorem implNoName (s : ByteArray) (hz : s.size ≤ 1048576) (w : World) (hT : Lib.Utf8Tabs 1 2 w) : Calls Tryz.prog 116 #[.string s] w fun e w' => e = .returned (.bool (noName s)) ∧ Below w.heap.size w w' := by
  have cn := implNameOK s w hT
  clear hT
  unfold noName
  obtain ⟨b, hb⟩ : ∃ b, nameOK s = b := ⟨_, rfl⟩
  rw [hb] at cn ⊢
  clear hb
  go_enter Tryz.func116, Tryz.ntmps116
  go_wp2_with (go_at_call 117; go_must (refine cn.mono ?_; rintro e w1 ⟨rfl, hb1⟩))
  go_ret
  exact ⟨by simp, hb1⟩

set_option maxRecDepth 100000 in
set_option maxHeartbeats 1000000 in
theorem implIndexN (ss : List ByteArray) (a : Option Addr) (cap : Nat) (w : World) (hlen : ss.length ≤ 1000000) (hz : ∀ s ∈ ss, s.size ≤ 1048576) (hc : 0 < ss.length → ∃ g, a = some ⟨g, 0, none⟩ ∧ g < w.heap.size ∧ ∀ j (hj : j < ss.length), w.cell? ⟨g, j, none⟩ = some (.string ss[j])) (hT : Lib.Utf8Tabs 1 2 w) :
    Calls Tryz.prog 108 #[.slice a ss.length cap, .func (.func 116) #[] #[]] w fun e w' => (∃ r : Int, e = .returned (.int .i64 r) ∧ decide (0 ≤ r) = ss.any noName) ∧ Below w.heap.size w w' := by
  have HC : Hid (0 < ss.length → ∃ g, a = some ⟨g, 0, none⟩ ∧ g < w.heap.size ∧ ∀ j (hj : j < ss.length), w.cell? ⟨g, j, none⟩ = some (.string ss[j])) := hc
  have HZ : Hid (∀ s ∈ ss, s.size ≤ 1048576) := hz
  have HT : Hid (Lib.Utf8Tabs 1 2 w) := hT
  have hlen' : (ss.length : Int) ≤ 1000000 := by omega
  clear hc hT hz
  go_enter Tryz.func108, Tryz.ntmps108
  go_wp2_with fail
  go_loopw [8] (fun i8 wr => ∃ (k : Nat), i8 = .int .i64 (k : Int) ∧ k ≤ ss.length ∧ (ss.take k).any noName = false ∧ Below w.heap.size w wr) (fun i8 _ => ss.length - (intOf i8).toNat)
  case atStart => exact ⟨0, rfl, by omega, by simp, Below.refl _ _⟩
  case round =>
    obtain ⟨k, rfl, hk, hany, hb⟩ := hrel
    have HA : Hid ((ss.take k).any noName = false) := hany
    clear hany
    by_cases hkn : k < ss.length
    · have hkn' : (k : Int) < (ss.length : Int) := by omega
      obtain ⟨g, rfl, hg, hcell⟩ := HC.out (by omega)
      have x1 := hcell k hkn
      have z1 := HZ.out ss[k] (List.getElem_mem hkn)
      obtain ⟨x, hx⟩ : ∃ x, ss[k] = x := ⟨_, rfl⟩
      have HX : Hid (ss[k] = x) := hx
      rw [hx] at x1 z1
      clear hx hcell
      have d1 := (hb.cell (p := ⟨g, k, none⟩) hg).trans x1
      have cn := implNoName x z1 wr (Utf8Tabs_below HT.out hb)
      obtain ⟨B1, hB1⟩ : ∃ B1, noName x = B1 := ⟨_, rfl⟩
      rw [hB1] at cn
      have HB1 : Hid (noName x = B1) := hB1
      clear hB1
      cases B1
      · go_wp2_with (go_at_call 116; go_must (refine cn.mono ?_; rintro e w1 ⟨rfl, hb1⟩))
        exact ⟨⟨k + 1, rfl, by omega, any_takeW ss _ k hkn HA.out (by rw [HX.out]; exact HB1.out), good_below hb hb1⟩, by simp [intOf]; omega⟩
      · go_wp2_with (go_at_call 116; go_must (refine cn.mono ?_; rintro e w1 ⟨rfl, hb1⟩))
        go_ret
        refine ⟨⟨_, rfl, ?_⟩, good_below hb hb1⟩
        rw [List.any_eq_true.2 ⟨ss[k], List.getElem_mem hkn, by rw [HX.out]; exact HB1.out⟩]
        simp
    · have hkn' : ¬ ((k : Int) < (ss.length : Int)) := by omega
      have hA := HA.out
      rw [List.take_of_length_le (by omega)] at hA
      go_wp2_with fail
      go_ret
      refine ⟨⟨_, rfl, ?_⟩, hb⟩
      first
        | (rw [hA]; rfl)
        | omega
set_option maxRecDepth 100000 in
theorem implContainsN (ss : List ByteArray) (a : Option Addr) (cap : Nat) (w : World) (hlen : ss.length ≤ 1000000) (hz : ∀ s ∈ ss, s.size ≤ 1048576) (hc : 0 < ss.length → ∃ g, a = some ⟨g, 0, none⟩ ∧ g < w.heap.size ∧ ∀ j (hj : j < ss.length), w.cell? ⟨g, j, none⟩ = some (.string ss[j])) (hT : Lib.Utf8Tabs 1 2 w) :
    Calls Tryz.prog 70 #[.slice a ss.length cap, .func (.func 116) #[] #[]] w fun e w' => e = .returned (.bool (ss.any noName)) ∧ Below w.heap.size w w' := by
  have c := implIndexN ss a cap w hlen hz hc hT
  clear hc hT hz
  go_enter Tryz.func70, Tryz.ntmps70
  go_wp2_with (go_at_call 108; go_must (refine c.mono ?_; rintro e w1 ⟨⟨r, rfl, hr⟩, hb1⟩))
  go_ret
  refine ⟨congrArg (fun b => Ending.returned (Value.bool b)) ?_, hb1⟩
  rw [← hr]

set_option maxRecDepth 100000 in
theorem implNames (ss : List ByteArray) (a : Option Addr) (cap : Nat) (w : World) (hlen : ss.length ≤ 1000000) (hz : ∀ s ∈ ss, s.size ≤ 1048576) (hc : 0 < ss.length → ∃ g, a = some ⟨g, 0, none⟩ ∧ g < w.heap.size ∧ ∀ j (hj : j < ss.length), w.cell? ⟨g, j, none⟩ = some (.string ss[j])) (hT : Lib.Utf8Tabs 1 2 w) :
    Calls Tryz.prog 78 #[.slice a ss.length cap] w fun e w' => e = .returned (.bool (ss.all (nameOK))) ∧ Below w.heap.size w w' := by
  have c := implContainsN ss a cap w hlen hz hc hT
  have hn : ss.all (nameOK) = !(ss.any noName) := by rw [List.all_eq_not_any_not]; rfl
  rw [hn]
  obtain ⟨b, hb⟩ : ∃ b, ss.any noName = b := ⟨_, rfl⟩
  rw [hb] at c ⊢
  clear hb hn hT hc hz
  go_enter Tryz.func78, Tryz.ntmps78
  go_wp2_with (go_at_call 70; go_must (refine c.mono ?_; rintro e w1 ⟨rfl, hb1⟩))
  go_ret
  exact ⟨by simp, hb1⟩

/-- strings.SplitN at a point into five. -/
theorem info9s : (Tryz.prog.info? 9).map (fun i => (i.zero, i.size, i.bytes)) = some (some (.string ByteArray.empty), 1, 16) := by kernel_rfl
theorem implGen (s : ByteArray) (hz : s.size ≤ 1048576) (w : World) :
    Calls Tryz.prog 161 #[.string s, .string ⟨#[46]⟩, .int .i64 0, .int .i64 5] w fun e w' =>
      e = .returned (.slice (some ⟨w.heap.size, 0, none⟩) (Lib.splitB ⟨#[46]⟩ 0 (min 5 (s.size + 1) - 1) s).length (min 5 (s.size + 1))) ∧ w' = w.alloc (.cells (Lib.cellsOf (Lib.splitB ⟨#[46]⟩ 0 (min 5 (s.size + 1) - 1) s) (min 5 (s.size + 1))) 9) := by
  refine Any.strings_genSplit_core Tryz.lays221 info9s s ⟨#[46]⟩ 0 5 (min 5 (s.size + 1)) w (by omega) (by decide) (by decide) (fun x c hx => ?_) ?_ (by decide) (by decide) ?_
  · refine (Tryz.strings_Index_one x 46 _).mono ?_
    rintro e w' ⟨rfl, rfl⟩
    refine ⟨?_, rfl⟩
    rw [show Lib.indexB x ⟨#[46]⟩ = Lib.indexByte x.data.toList 46 from Lib.index_one _ _]
  · refine (Tryz.strings_Count_one s 46 w).mono ?_
    rintro e w' ⟨rfl, rfl⟩
    refine ⟨?_, rfl⟩
    rw [show Lib.countB s ⟨#[46]⟩ = Lib.countByte s.data.toList 46 from Lib.count_one _ _]
  · rw [if_neg (by decide)]; omega
set_option maxRecDepth 100000 in
theorem implSplit (s : ByteArray) (hz : s.size ≤ 1048576) (w : World) :
    Calls Tryz.prog 135 #[.string s, .string ⟨#[46]⟩, .int .i64 5] w fun e w' =>
      e = .returned (.slice (some ⟨w.heap.size, 0, none⟩) (Lib.splitB ⟨#[46]⟩ 0 (min 5 (s.size + 1) - 1) s).length (min 5 (s.size + 1))) ∧ w' = w.alloc (.cells (Lib.cellsOf (Lib.splitB ⟨#[46]⟩ 0 (min 5 (s.size + 1) - 1) s) (min 5 (s.size + 1))) 9) := by
  have c := implGen s hz w
  go_enter Tryz.func135, Tryz.ntmps135
  go_wp2_with (go_at_call 161; go_must (refine c.mono ?_; rintro e w' ⟨rfl, rfl⟩))
  go_ret
  exact ⟨rfl, rfl⟩
theorem split_small (sep : ByteArray) (sv : Nat) : ∀ (k : Nat) (s : ByteArray), ∀ x ∈ Lib.splitB sep sv k s, x.size ≤ s.size
  | 0, s => by
    intro x hx
    rw [Lib.splitB_zero] at hx
    simp at hx; subst hx; exact Nat.le_refl _
  | k + 1, s => by
    intro x hx
    unfold Lib.splitB at hx
    split at hx
    · simp at hx; subst hx; exact Nat.le_refl _
    · rcases List.mem_cons.1 hx with rfl | hx
      · simp only [ByteArray.size_extract]; omega
      · have := split_small sep sv k _ x hx
        simp only [ByteArray.size_extract] at this
        omega
theorem cells_split (w : World) (ps : List ByteArray) (N : Nat) (e : TypeId) (h : ps.length ≤ N) : ∀ j (hj : j < ps.length), (w.alloc (.cells (Lib.cellsOf ps N) e)).cell? ⟨w.heap.size, j, none⟩ = some (.string ps[j]) := by
  intro j hj
  have hb : Blk (w.alloc (.cells (Lib.cellsOf ps N) e)) w.heap.size e (Lib.cellsOf ps N) := heap_alloc_last w _
  rw [hb.cell]
  unfold Lib.cellsOf
  rw [List.getElem?_toArray, List.getElem?_append_left (by simpa using hj), List.getElem?_map, List.getElem?_eq_getElem hj]
  rfl
set_option maxRecDepth 100000 in
theorem implIsPath (s : ByteArray) (hz : s.size ≤ 1048576) (w : World) (hT : Lib.Utf8Tabs 1 2 w) : Calls Tryz.prog 98 #[.agg #[.string s]] w fun e w' => e = .returned (.bool (pathB nameOK s)) ∧ Below w.heap.size w w' := by
  have hw1 : ∀ o, Below w.heap.size w (w.alloc o) := fun o => (Below.refl _ w).alloc (Nat.le_refl _) _
  have cs := fun w => implSplit s hz w
  have hps := path_split s
  have hsm := fun x hx => Nat.le_trans (split_small ⟨#[46]⟩ 0 (min 5 (s.size + 1) - 1) s x hx) hz
  have hl := Lib.splitB_length_le ⟨#[46]⟩ 0 (min 5 (s.size + 1) - 1) s
  obtain ⟨ps, hp⟩ : ∃ ps, Lib.splitB ⟨#[46]⟩ 0 (min 5 (s.size + 1) - 1) s = ps := ⟨_, rfl⟩
  obtain ⟨K, hK⟩ : ∃ K, min 5 (s.size + 1) = K := ⟨_, rfl⟩
  rw [hp] at hps hsm hl
  simp only [hp] at cs
  rw [hK] at hl
  simp only [hK] at cs
  have hK1 : ps.length ≤ K := by omega
  have cn := fun w1 (hT1 : Lib.Utf8Tabs 1 2 w1) => implNames ps (some ⟨w1.heap.size, 0, none⟩) K (w1.alloc (.cells (Lib.cellsOf ps K) 9)) (by omega) hsm (fun _ => ⟨_, rfl, by simp, cells_split w1 ps K _ hK1⟩) (Utf8Tabs_below hT1 ((Below.refl _ w1).alloc (Nat.le_refl _) _))
  rw [hps] at cn
  have hT2 : Lib.Utf8Tabs 1 2 (w.alloc (.cells #[.string s] 103)) := Utf8Tabs_below hT (hw1 _)
  have cn' := cn _ hT2
  rw [World.size_alloc] at cn'
  obtain ⟨b, hb⟩ : ∃ b, pathB nameOK s = b := ⟨_, rfl⟩
  rw [hb] at cn' ⊢
  clear hb cn hT hT2 hps hsm hl hp hK hK1
  go_enter Tryz.func98, Tryz.ntmps98
  go_wp2_with (first
    | (go_at_call 135; go_must (refine (cs _).mono ?_; rintro e w1 ⟨rfl, rfl⟩; simp only [World.size_alloc]))
    | (go_at_call 78; go_must (refine cn'.mono ?_; rintro e w2 ⟨rfl, hb2⟩)))
  go_ret
  exact ⟨rfl, good_below ((hw1 _).alloc (by simp) _) hb2⟩

def noPath (s : ByteArray) : Bool := !pathB nameOK s
set_option maxRecDepth 100000 in
theorem implNoPath (s : ByteArray) (hz : s.size ≤ 1048576) (w : World) (hT : Lib.Utf8Tabs 1 2 w) : Calls Tryz.prog 97 #[.string s] w fun e w' => e = .returned (.bool (noPath s)) ∧ Below w.heap.size w w' := by
  have cn := implIsPath s hz w hT
  clear hT
  unfold noPath
  obtain ⟨b, hb⟩ : ∃ b, pathB nameOK s = b := ⟨_, rfl⟩
  rw [hb] at cn ⊢
  clear hb
  go_enter Tryz.func97, Tryz.ntmps97
  go_wp2_with (go_at_call 98; go_must (refine cn.mono ?_; rintro e w1 ⟨rfl, hb1⟩))
  go_ret
  exact ⟨by simp, hb1⟩

set_option maxRecDepth 100000 in
set_option maxHeartbeats 1000000 in
theorem implIndexP (ss : List ByteArray) (a : Option Addr) (cap : Nat) (w : World) (hlen : ss.length ≤ 1000000) (hz : ∀ s ∈ ss, s.size ≤ 1048576) (hc : 0 < ss.length → ∃ g, a = some ⟨g, 0, none⟩ ∧ g < w.heap.size ∧ ∀ j (hj : j < ss.length), w.cell? ⟨g, j, none⟩ = some (.string ss[j])) (hT : Lib.Utf8Tabs 1 2 w) :
    Calls Tryz.prog 108 #[.slice a ss.length cap, .func (.func 97) #[] #[]] w fun e w' => (∃ r : Int, e = .returned (.int .i64 r) ∧ decide (0 ≤ r) = ss.any noPath) ∧ Below w.heap.size w w' := by
  have HC : Hid (0 < ss.length → ∃ g, a = some ⟨g, 0, none⟩ ∧ g < w.heap.size ∧ ∀ j (hj : j < ss.length), w.cell? ⟨g, j, none⟩ = some (.string ss[j])) := hc
  have HZ : Hid (∀ s ∈ ss, s.size ≤ 1048576) := hz
  have HT : Hid (Lib.Utf8Tabs 1 2 w) := hT
  have hlen' : (ss.length : Int) ≤ 1000000 := by omega
  clear hc hT hz
  go_enter Tryz.func108, Tryz.ntmps108
  go_wp2_with fail
  go_loopw [8] (fun i8 wr => ∃ (k : Nat), i8 = .int .i64 (k : Int) ∧ k ≤ ss.length ∧ (ss.take k).any noPath = false ∧ Below w.heap.size w wr) (fun i8 _ => ss.length - (intOf i8).toNat)
  case atStart => exact ⟨0, rfl, by omega, by simp, Below.refl _ _⟩
  case round =>
    obtain ⟨k, rfl, hk, hany, hb⟩ := hrel
    have HA : Hid ((ss.take k).any noPath = false) := hany
    clear hany
    by_cases hkn : k < ss.length
    · have hkn' : (k : Int) < (ss.length : Int) := by omega
      obtain ⟨g, rfl, hg, hcell⟩ := HC.out (by omega)
      have x1 := hcell k hkn
      have z1 := HZ.out ss[k] (List.getElem_mem hkn)
      obtain ⟨x, hx⟩ : ∃ x, ss[k] = x := ⟨_, rfl⟩
      have HX : Hid (ss[k] = x) := hx
      rw [hx] at x1 z1
      clear hx hcell
      have d1 := (hb.cell (p := ⟨g, k, none⟩) hg).trans x1
      have cn := implNoPath x z1 wr (Utf8Tabs_below HT.out hb)
      obtain ⟨B1, hB1⟩ : ∃ B1, noPath x = B1 := ⟨_, rfl⟩
      rw [hB1] at cn
      have HB1 : Hid (noPath x = B1) := hB1
      clear hB1
      cases B1
      · go_wp2_with (go_at_call 97; go_must (refine cn.mono ?_; rintro e w1 ⟨rfl, hb1⟩))
        exact ⟨⟨k + 1, rfl, by omega, any_takeW ss _ k hkn HA.out (by rw [HX.out]; exact HB1.out), good_below hb hb1⟩, by simp [intOf]; omega⟩
      · go_wp2_with (go_at_call 97; go_must (refine cn.mono ?_; rintro e w1 ⟨rfl, hb1⟩))
        go_ret
        refine ⟨⟨_, rfl, ?_⟩, good_below hb hb1⟩
        rw [List.any_eq_true.2 ⟨ss[k], List.getElem_mem hkn, by rw [HX.out]; exact HB1.out⟩]
        simp
    · have hkn' : ¬ ((k : Int) < (ss.length : Int)) := by omega
      have hA := HA.out
      rw [List.take_of_length_le (by omega)] at hA
      go_wp2_with fail
      go_ret
      refine ⟨⟨_, rfl, ?_⟩, hb⟩
      first
        | (rw [hA]; rfl)
        | omega
set_option maxRecDepth 100000 in
theorem implContainsP (ss : List ByteArray) (a : Option Addr) (cap : Nat) (w : World) (hlen : ss.length ≤ 1000000) (hz : ∀ s ∈ ss, s.size ≤ 1048576) (hc : 0 < ss.length → ∃ g, a = some ⟨g, 0, none⟩ ∧ g < w.heap.size ∧ ∀ j (hj : j < ss.length), w.cell? ⟨g, j, none⟩ = some (.string ss[j])) (hT : Lib.Utf8Tabs 1 2 w) :
    Calls Tryz.prog 70 #[.slice a ss.length cap, .func (.func 97) #[] #[]] w fun e w' => e = .returned (.bool (ss.any noPath)) ∧ Below w.heap.size w w' := by
  have c := implIndexP ss a cap w hlen hz hc hT
  clear hc hT hz
  go_enter Tryz.func70, Tryz.ntmps70
  go_wp2_with (go_at_call 108; go_must (refine c.mono ?_; rintro e w1 ⟨⟨r, rfl, hr⟩, hb1⟩))
  go_ret
  refine ⟨congrArg (fun b => Ending.returned (Value.bool b)) ?_, hb1⟩
  rw [← hr]

set_option maxRecDepth 100000 in
theorem implPaths (ss : List ByteArray) (a : Option Addr) (cap : Nat) (w : World) (hlen : ss.length ≤ 1000000) (hz : ∀ s ∈ ss, s.size ≤ 1048576) (hc : 0 < ss.length → ∃ g, a = some ⟨g, 0, none⟩ ∧ g < w.heap.size ∧ ∀ j (hj : j < ss.length), w.cell? ⟨g, j, none⟩ = some (.string ss[j])) (hT : Lib.Utf8Tabs 1 2 w) :
    Calls Tryz.prog 65 #[.slice a ss.length cap] w fun e w' => e = .returned (.bool (ss.all (pathB nameOK))) ∧ Below w.heap.size w w' := by
  have c := implContainsP ss a cap w hlen hz hc hT
  have hn : ss.all (pathB nameOK) = !(ss.any noPath) := by rw [List.all_eq_not_any_not]; rfl
  rw [hn]
  obtain ⟨b, hb⟩ : ∃ b, ss.any noPath = b := ⟨_, rfl⟩
  rw [hb] at c ⊢
  clear hb hn hT hc hz
  go_enter Tryz.func65, Tryz.ntmps65
  go_wp2_with (go_at_call 70; go_must (refine c.mono ?_; rintro e w1 ⟨rfl, hb1⟩))
  go_ret
  exact ⟨by simp, hb1⟩

set_option maxRecDepth 100000 in
theorem implSingle (ss : List ByteArray) (a : Option Addr) (cap : Nat) (w : World) (hlen : ss.length ≤ 1000000) (hz : ∀ s ∈ ss, s.size ≤ 1048576) (hc : 0 < ss.length → ∃ g, a = some ⟨g, 0, none⟩ ∧ g < w.heap.size ∧ ∀ j (hj : j < ss.length), w.cell? ⟨g, j, none⟩ = some (.string ss[j])) :
    Calls Tryz.prog 79 #[.slice a ss.length cap] w fun e w' => e = .returned (.bool (!dupFrom ss [])) ∧ Below w.heap.size w w' := by
  have c := implTwice ss a cap w hlen hz hc
  obtain ⟨b, hb⟩ : ∃ b, dupFrom ss [] = b := ⟨_, rfl⟩
  rw [hb] at c ⊢
  clear hb hc hz
  go_enter Tryz.func79, Tryz.ntmps79
  go_wp2_with (go_at_call 118; go_must (refine c.mono ?_; rintro e w1 ⟨⟨t, rfl⟩, hb1⟩))
  go_ret
  exact ⟨by simp, hb1⟩
set_option maxRecDepth 100000 in
theorem implLong (s : ByteArray) (hz : s.size ≤ 1048576) (w : World) : Calls Tryz.prog 134 #[.string s] w fun e w' => e = .returned (.bool (!decide (s.size ≤ 200))) ∧ w' = w := by
  have hz' : (s.size : Int) ≤ 1048576 := by omega
  go_enter Tryz.func134, Tryz.ntmps134
  go_wp2_with fail
  go_ret
  refine ⟨congrArg (fun b => Ending.returned (Value.bool b)) ?_, rfl⟩
  by_cases h : s.size ≤ 200
  · simp [h]; omega
  · simp [h]; omega
end Go.Proofs.YtoopdcbgnccmiaaGreatDoor

namespace Go.Proofs.YtoopdcbgnccmiaaGreatDoor
open Go.ChangeShapes Go.WideShapes Go.ChangeAt Go.RowKit
set_option linter.unusedVariables false

def entryB (nameB : ByteArray → Bool) (pre : List Entry) (e : Entry) : Bool := pathB nameB e.path && decide (e.text.size ≤ 200) && !(pre.any fun q => q.path.toList == e.path.toList)
/-- Each one, with those ahead of it. -/
def rangeB {α : Type} (f : List α → α → Bool) (l : List α) : Bool := (List.range l.length).all fun k => match l[k]? with | some x => f (l.take k) x | none => true
def entriesB (nameB : ByteArray → Bool) (es : List Entry) : Bool := rangeB (entryB nameB) es
def layerB (nameB : ByteArray → Bool) (pre : List Layer) (x : Layer) : Bool := nameB x.name && decide (x.entries.length ≤ 100) && !(pre.any fun q => q.name.toList == x.name.toList) && entriesB nameB x.entries
def layersB (nameB : ByteArray → Bool) (l : List Layer) : Bool := decide (l.length ≤ 20) && rangeB (layerB nameB) l
theorem range_bad {α : Type} {l : List α} {f : List α → α → Bool} {i : Nat} (hi : i < l.length) (h : f (l.take i) l[i] = false) : rangeB f l = false := by
  unfold rangeB
  rw [List.all_eq_false]
  refine ⟨i, by simpa using hi, ?_⟩
  rw [List.getElem?_eq_getElem hi]
  simp [h]
theorem range_all {α : Type} {l : List α} {f : List α → α → Bool} (h : ∀ i (hi : i < l.length), f (l.take i) l[i] = true) : rangeB f l = true := by
  unfold rangeB
  rw [List.all_eq_true]
  intro i hi
  have hi' : i < l.length := by simpa using hi
  rw [List.getElem?_eq_getElem hi']
  exact h i hi'
theorem layers_bad {nameB : ByteArray → Bool} {l : List Layer} {i : Nat} (hi : i < l.length) (h : layerB nameB (l.take i) l[i] = false) : layersB nameB l = false := by
  unfold layersB
  rw [range_bad (f := layerB nameB) hi h]
  simp
theorem entries_bad {nameB : ByteArray → Bool} {l : List Entry} {i : Nat} (hi : i < l.length) (h : entryB nameB (l.take i) l[i] = false) : entriesB nameB l = false := by
  unfold entriesB
  rw [range_bad (f := entryB nameB) hi h]
theorem take_any {α : Type} {l : List α} {f : α → Bool} {k i : Nat} (hik : i < k) (hi : i < l.length) (h : f l[i] = true) : (l.take k).any f = true := by
  rw [List.any_eq_true]
  exact ⟨l[i], by rw [List.mem_take_iff_getElem]; exact ⟨i, by omega, rfl⟩, h⟩
theorem take_none {α : Type} {l : List α} {f : α → Bool} {k : Nat} (h : ∀ i (hi : i < l.length), i < k → f l[i] = false) : (l.take k).any f = false := by
  rw [List.any_eq_false]
  intro x hx
  obtain ⟨i, hi, rfl⟩ := List.mem_take_iff_getElem.1 hx
  rw [h i (by omega) (by omega)]
  simp

set_option maxRecDepth 100000 in
set_option maxHeartbeats 4000000 in
theorem specLayers {nameB : ByteArray → Bool} (hN : NameSpec nameB) {S : Nat → Prop} {l : List Layer} {v : Value} {w : World} (hS : ∀ b, S b → b < w.heap.size) (h : LayersAt S w v l) (hok : ∀ x ∈ l, LayersOK 1048576 x) :
    Calls Tryz.prog 45 #[v] w fun e w' => e = .returned (.bool (layersB nameB l)) ∧ Below w.heap.size w w' := by
  obtain ⟨hlm, a, cap, rfl, hc⟩ := h
  have HC : Hid _ := hc
  have HS : Hid (∀ b, S b → b < w.heap.size) := hS
  have HN : Hid (NameSpec nameB) := hN
  have HOK : Hid (∀ x ∈ l, LayersOK 1048576 x) := hok
  have hlm' : (l.length : Int) ≤ 9223372036854775807 := by simp [maxLen] at hlm; omega
  clear hc hS hN hok hlm
  by_cases h20 : l.length ≤ 20
  · have h20' : ¬ ((20 : Int) < (l.length : Int)) := by omega
    go_enter Tryz.func45, Tryz.ntmps45
    go_wp2_with fail
    go_loopw [3] (fun i3 wr => ∃ (k : Nat), i3 = .int .i64 (k : Int) ∧ k ≤ l.length ∧ (∀ i (h : i < l.length), i < k → layerB nameB (l.take i) l[i] = true) ∧ Below w.heap.size w wr) (fun i3 _ => l.length - (intOf i3).toNat)
    case atStart => exact ⟨0, rfl, by omega, fun i _ h => by omega, Below.refl _ _⟩
    case round =>
      obtain ⟨k, rfl, hk, hall, hb⟩ := hrel
      have HA : Hid (∀ i (h : i < l.length), i < k → layerB nameB (l.take i) l[i] = true) := hall
      clear hall
      by_cases hkn : k < l.length
      · have hkn' : (k : Int) < (l.length : Int) := by omega
        obtain ⟨b, off, rfl, hbS, hcell⟩ := HC.out (by omega)
        have hbw := HS.out b hbS
        obtain ⟨c0, c1, nv, t1, t2⟩ := hcell k hkn
        have d0 := (hb.cell (p := ⟨b, off + k * 3, none⟩) hbw).trans c0
        have d1 := (hb.cell (p := ⟨b, off + k * 3 + 1, none⟩) hbw).trans c1
        have d2 := (hb.cell (p := ⟨b, off + k * 3 + 2, none⟩) hbw).trans t1
        have hbad := fun (h : layerB nameB (l.take k) l[k] = false) => layers_bad hkn h
        have hgood := fun (h : layerB nameB (l.take k) l[k] = true) (i : Nat) (hi : i < l.length) (hik : i < k + 1) => (show layerB nameB (l.take i) l[i] = true from by
          by_cases e : i = k
          · subst e; exact h
          · exact HA.out i hi (by omega))
        have hokx := HOK.out l[k] (List.getElem_mem hkn)
        have HCELL : Hid _ := hcell
        obtain ⟨x, hx⟩ : ∃ x, l[k] = x := ⟨_, rfl⟩
        rw [hx] at d0 d1 hbad hgood t2 hokx
        obtain ⟨xn, xr, es⟩ := x
        dsimp only at d0 d1 t2
        have HBAD : Hid (layerB nameB (l.take k) ⟨xn, xr, es⟩ = false → layersB nameB l = false) := hbad
        have HGOOD : Hid (layerB nameB (l.take k) ⟨xn, xr, es⟩ = true → ∀ (i : Nat) (hi : i < l.length), i < k + 1 → layerB nameB (l.take i) l[i] = true) := hgood
        have hesl : (es.length : Int) ≤ 1048576 := hokx.2.1
        have HOE : Hid (∀ y ∈ es, EntrysOK 1048576 y) := hokx.2.2
        obtain ⟨ea, ec, hnv⟩ := t2.shape
        subst hnv
        have HES : Hid (EntrysAt S w (.slice ea es.length ec) es) := t2
        have cn := HN.out xn
        obtain ⟨F, hF⟩ : ∃ F, nameB xn = F := ⟨_, rfl⟩
        rw [hF] at cn
        have HF : Hid (nameB xn = F) := hF
        clear hx hF hbad hgood hokx t1 t2 c0 c1 hcell
        have hbA : Blk (wr.alloc (.cells #[.string xn, .int .i64 xr, .slice ea es.length ec] 63)) wr.heap.size 63 #[.string xn, .int .i64 xr, .slice ea es.length ec] := heap_alloc_last wr _
        have HBA : Hid (Blk (wr.alloc (.cells #[.string xn, .int .i64 xr, .slice ea es.length ec] 63)) wr.heap.size 63 #[.string xn, .int .i64 xr, .slice ea es.length ec]) := hbA
        have hbw1 := hb.alloc hb.size (.cells #[.string xn, .int .i64 xr, .slice ea es.length ec] 63)
        clear hbA
        cases F
        · go_wp2_with (go_at_call 74; go_must (refine (cn _).mono ?_; rintro e w1 ⟨rfl, hb1⟩))
          go_ret
          refine ⟨?_, good_below hbw1 hb1⟩
          rw [HBAD.out (by unfold layerB; rw [HF.out]; rfl)]; rfl
        · by_cases h100 : es.length ≤ 100
          · have h100' : ¬ ((100 : Int) < (es.length : Int)) := by omega
            obtain ⟨g, hg⟩ : ∃ g, wr.heap.size = g := ⟨_, rfl⟩
            rw [hg] at HBA
            go_upto_region 9 with (go_at_call 74; go_must (refine (cn _).mono ?_; rintro e wA ⟨rfl, hb1⟩; have hbk := Blk.below HBA.out hb1; have e0 := hbk.cell 0; have e2 := hbk.cell 2; simp at e0 e2))
            have hbwA := good_below hbw1 hb1
            have HBK : Hid (Blk wA g 63 #[.string xn, .int .i64 xr, .slice ea es.length ec]) := hbk
            clear hbk hb1 hbw1 HBA cn hg e0 e2
            go_wp2_with fail
            go_loopw [5] (fun i5 wx => ∃ (j : Nat), i5 = .int .i64 (j : Int) ∧ j ≤ k ∧ (∀ i (h : i < l.length), i < j → (l[i].name.toList == xn.toList) = false) ∧ Below wA.heap.size wA wx) (fun i5 _ => k - (intOf i5).toNat)
            case atStart => exact ⟨0, rfl, by omega, fun i _ h => by omega, Below.refl _ _⟩
            case round =>
              obtain ⟨j, rfl, hj, hno, hB⟩ := hrel
              have HNO : Hid (∀ i (h : i < l.length), i < j → (l[i].name.toList == xn.toList) = false) := hno
              clear hno
              have hbk := Blk.below HBK.out hB
              have e0 := hbk.cell 0
              have e2 := hbk.cell 2
              simp at e0 e2
              have hbwx := good_below hbwA hB
              clear hbk
              by_cases hjk : j < k
              · have hjk' : (j : Int) < (k : Int) := by omega
                have hjl : j < l.length := by omega
                have hjl' : (j : Int) < (l.length : Int) := by omega
                obtain ⟨c0, _⟩ := HCELL.out j hjl
                have q0 := (hbwx.cell (p := ⟨b, off + j * 3, none⟩) hbw).trans c0
                obtain ⟨y, hy⟩ : ∃ y, l[j].name = y := ⟨_, rfl⟩
                rw [hy] at q0
                have HY : Hid (l[j].name = y) := hy
                clear hy c0
                cases hcmp : (y.toList == xn.toList)
                · go_upto_region 12 with fail
                  go_quiet (fail)
                  go_wp2_with fail
                  refine ⟨⟨j + 1, rfl, by omega, fun i hi hik => ?_, bel_drewN hB nq⟩, by simp [intOf]; omega⟩
                  by_cases e : i = j
                  · subst e; rw [HY.out]; exact hcmp
                  · exact HNO.out i hi (by omega)
                · go_upto_region 12 with fail
                  go_quiet (fail)
                  go_wp2_with fail
                  go_ret
                  refine ⟨?_, bel_drewN hbwx nq⟩
                  have hbd : layerB nameB (l.take k) ⟨xn, xr, es⟩ = false := by
                    unfold layerB
                    rw [take_any (f := fun q : Layer => q.name.toList == xn.toList) hjk hjl (by rw [HY.out]; exact hcmp)]
                    simp
                  rw [HBAD.out hbd]; rfl
              · obtain rfl : j = k := by omega
                have hjk' : ¬ ((j : Int) < (j : Int)) := by omega
                obtain ⟨wB, hwB⟩ : ∃ wB, wB = wr := ⟨_, rfl⟩
                subst hwB
                have HNA : Hid ((l.take j).any (fun q : Layer => q.name.toList == xn.toList) = false) := (show (l.take j).any (fun q : Layer => q.name.toList == xn.toList) = false from take_none (fun i hi hik => HNO.out i hi hik))
                have HBK2 : Hid (Blk wB g 63 #[.string xn, .int .i64 xr, .slice ea es.length ec]) := Blk.below HBK.out hB
                clear hB HNO hbwA HBK e0 e2
                go_wp2_with fail
                go_loopw [6] (fun i6 wx => ∃ (m : Nat), i6 = .int .i64 (m : Int) ∧ m ≤ es.length ∧ (∀ i (h : i < es.length), i < m → entryB nameB (es.take i) es[i] = true) ∧ Below wB.heap.size wB wx) (fun i6 _ => es.length - (intOf i6).toNat)
                case atStart => exact ⟨0, rfl, by omega, fun i _ h => by omega, Below.refl _ _⟩
                case round =>
                  obtain ⟨m, rfl, hm, hen, hB⟩ := hrel
                  have HEN : Hid (∀ i (h : i < es.length), i < m → entryB nameB (es.take i) es[i] = true) := hen
                  clear hen
                  have hbk := Blk.below HBK2.out hB
                  have e2 := hbk.cell 2
                  simp at e2
                  have hbwy := good_below hbwx hB
                  by_cases hmn : m < es.length
                  · have hmn' : (m : Int) < (es.length : Int) := by omega
                    obtain ⟨_, ea', ec', huv, huc⟩ := HES.out
                    simp only [Value.slice.injEq] at huv
                    obtain ⟨rfl, -, rfl⟩ := huv
                    obtain ⟨eb, eo, rfl, heS, hecell⟩ := huc (by omega)
                    have hew := HS.out eb heS
                    obtain ⟨p0, p1⟩ := hecell m hmn
                    have q0 := (hbwy.cell (p := ⟨eb, eo + m * 2, none⟩) hew).trans p0
                    have q1 := (hbwy.cell (p := ⟨eb, eo + m * 2 + 1, none⟩) hew).trans p1
                    have heo := HOE.out es[m] (List.getElem_mem hmn)
                    have hebad := fun (h : entryB nameB (es.take m) es[m] = false) => entries_bad hmn h
                    have hegood := fun (h : entryB nameB (es.take m) es[m] = true) (i : Nat) (hi : i < es.length) (hik : i < m + 1) => (show entryB nameB (es.take i) es[i] = true from by
                      by_cases e : i = m
                      · subst e; exact h
                      · exact HEN.out i hi (by omega))
                    have HEC : Hid _ := hecell
                    obtain ⟨y, hy⟩ : ∃ y, es[m] = y := ⟨_, rfl⟩
                    rw [hy] at q0 q1 heo hebad hegood
                    obtain ⟨yp, yt⟩ := y
                    unfold EntrysOK at heo
                    dsimp only at q0 q1 heo
                    have HEB : Hid (entryB nameB (es.take m) ⟨yp, yt⟩ = false → entriesB nameB es = false) := hebad
                    have HEG : Hid (entryB nameB (es.take m) ⟨yp, yt⟩ = true → ∀ (i : Nat) (hi : i < es.length), i < m + 1 → entryB nameB (es.take i) es[i] = true) := hegood
                    have hyp : (yp.size : Int) ≤ 1048576 := heo.1
                    have hyt : (yt.size : Int) ≤ 1048576 := heo.2
                    have cp := specPath HN.out yp (by simp [maxLen]; omega) wr
                    obtain ⟨G, hG⟩ : ∃ G, pathB nameB yp = G := ⟨_, rfl⟩
                    rw [hG] at cp
                    have HG : Hid (pathB nameB yp = G) := hG
                    have HYE : Hid (es[m] = ⟨yp, yt⟩) := hy
                    clear hy hG hebad hegood heo p0 p1 hecell huc
                    cases G
                    · go_wp2_with (go_at_call 60; go_must (refine cp.mono ?_; rintro e w1 ⟨rfl, hb1⟩))
                      go_ret
                      refine ⟨?_, good_below hbwy hb1⟩
                      have hbd : layerB nameB (l.take j) ⟨xn, xr, es⟩ = false := by
                        unfold layerB
                        rw [HEB.out (by unfold entryB; rw [HG.out]; rfl)]
                        simp
                      rw [HBAD.out hbd]; rfl
                    · by_cases h200 : yt.size ≤ 200
                      · have h200' : ¬ ((200 : Int) < (yt.size : Int)) := by omega
                        go_upto_region 19 with (go_at_call 60; go_must (refine cp.mono ?_; rintro e w1 ⟨rfl, hb1⟩; have hbk1 := Blk.below hbk hb1; have e2' := hbk1.cell 2; simp at e2'; have hbw1 := good_below hbwy hb1; have q0' := (hb1.cell (p := ⟨eb, eo + m * 2, none⟩) (Nat.lt_of_lt_of_le hew hbwy.size)).trans q0; have q1' := (hb1.cell (p := ⟨eb, eo + m * 2 + 1, none⟩) (Nat.lt_of_lt_of_le hew hbwy.size)).trans q1))
                        have hBm := good_below hB hb1
                        have HBK3 : Hid (Blk w1 g 63 #[.string xn, .int .i64 xr, .slice (some ⟨eb, eo, none⟩) es.length ec]) := hbk1
                        clear hbk hbk1 e2 e2' q0 q1 q0' q1' cp hb1
                        go_wp2_with fail
                        go_loopw [7] (fun i7 wx => ∃ (j2 : Nat), i7 = .int .i64 (j2 : Int) ∧ j2 ≤ m ∧ (∀ i (h : i < es.length), i < j2 → (es[i].path.toList == yp.toList) = false) ∧ Below w1.heap.size w1 wx) (fun i7 _ => m - (intOf i7).toNat)
                        case atStart => exact ⟨0, rfl, by omega, fun i _ h => by omega, Below.refl _ _⟩
                        case round =>
                          obtain ⟨j2, rfl, hj2, hno2, hB1⟩ := hrel
                          have HNO2 : Hid (∀ i (h : i < es.length), i < j2 → (es[i].path.toList == yp.toList) = false) := hno2
                          clear hno2
                          have hbk := Blk.below HBK3.out hB1
                          have e2 := hbk.cell 2
                          simp at e2
                          have hbwz := good_below hbw1 hB1
                          clear hbk
                          by_cases hjm : j2 < m
                          · have hjm' : (j2 : Int) < (m : Int) := by omega
                            have hje : j2 < es.length := by omega
                            have hje' : (j2 : Int) < (es.length : Int) := by omega
                            obtain ⟨p0, _⟩ := HEC.out j2 hje
                            obtain ⟨p2, _⟩ := HEC.out m hmn
                            have q0 := (hbwz.cell (p := ⟨eb, eo + j2 * 2, none⟩) hew).trans p0
                            have q2 := (hbwz.cell (p := ⟨eb, eo + m * 2, none⟩) hew).trans p2
                            rw [HYE.out] at q2
                            obtain ⟨z, hz⟩ : ∃ z, es[j2].path = z := ⟨_, rfl⟩
                            rw [hz] at q0
                            have HZ : Hid (es[j2].path = z) := hz
                            dsimp only at q2
                            clear hz p0 p2
                            cases hcmp : (z.toList == yp.toList)
                            · go_upto_region 22 with fail
                              go_quiet (fail)
                              go_wp2_with fail
                              refine ⟨⟨j2 + 1, rfl, by omega, fun i hi hik => ?_, bel_drewN hB1 nq⟩, by simp [intOf]; omega⟩
                              by_cases e : i = j2
                              · subst e; rw [HZ.out]; exact hcmp
                              · exact HNO2.out i hi (by omega)
                            · go_upto_region 22 with fail
                              go_quiet (fail)
                              go_wp2_with fail
                              go_ret
                              refine ⟨?_, bel_drewN hbwz nq⟩
                              have hbd : layerB nameB (l.take j) ⟨xn, xr, es⟩ = false := by
                                unfold layerB
                                rw [HEB.out]
                                · simp
                                · unfold entryB
                                  rw [take_any (f := fun q : Entry => q.path.toList == yp.toList) hjm hje (by rw [HZ.out]; exact hcmp)]
                                  simp
                              rw [HBAD.out hbd]; rfl
                          · obtain rfl : j2 = m := by omega
                            have hjm' : ¬ ((j2 : Int) < (j2 : Int)) := by omega
                            go_wp2_with fail
                            refine ⟨⟨j2 + 1, rfl, by omega, HEG.out ?_, good_below hBm hB1⟩, by simp [intOf]; omega⟩
                            unfold entryB
                            rw [HG.out, decide_eq_true h200, take_none (f := fun q : Entry => q.path.toList == yp.toList) (fun i hi hik => HNO2.out i hi hik)]
                            rfl
                      · have h200' : (200 : Int) < (yt.size : Int) := by omega
                        go_wp2_with (go_at_call 60; go_must (refine cp.mono ?_; rintro e w1 ⟨rfl, hb1⟩; have hbk1 := Blk.below hbk hb1; have e2' := hbk1.cell 2; simp at e2'; have q1' := (hb1.cell (p := ⟨eb, eo + m * 2 + 1, none⟩) (Nat.lt_of_lt_of_le hew hbwy.size)).trans q1))
                        go_ret
                        refine ⟨?_, good_below hbwy hb1⟩
                        have hbd : layerB nameB (l.take j) ⟨xn, xr, es⟩ = false := by
                          unfold layerB
                          rw [HEB.out (by unfold entryB; rw [decide_eq_false h200]; simp)]
                          simp
                        rw [HBAD.out hbd]; rfl
                  · obtain rfl : m = es.length := by omega
                    have hmn' : ¬ ((es.length : Int) < (es.length : Int)) := by omega
                    go_wp2_with fail
                    refine ⟨⟨j + 1, rfl, by omega, HGOOD.out ?_, hbwy⟩, by simp [intOf]; omega⟩
                    unfold layerB
                    rw [HF.out, decide_eq_true h100, HNA.out]
                    have : entriesB nameB es = true := by
                      unfold entriesB
                      exact range_all (f := entryB nameB) (fun i hi => HEN.out i hi hi)
                    rw [this]
                    rfl
          · have h100' : (100 : Int) < (es.length : Int) := by omega
            go_wp2_with (go_at_call 74; go_must (refine (cn _).mono ?_; rintro e w1 ⟨rfl, hb1⟩; have hbk := Blk.below HBA.out hb1; have e2 := hbk.cell 2; simp at e2))
            go_ret
            refine ⟨?_, good_below hbw1 hb1⟩
            rw [HBAD.out (by unfold layerB; rw [decide_eq_false h100]; simp)]; rfl
      · obtain rfl : k = l.length := by omega
        have hkn' : ¬ ((l.length : Int) < (l.length : Int)) := by omega
        go_wp2_with fail
        go_ret
        refine ⟨?_, hb⟩
        unfold layersB
        rw [decide_eq_true h20, range_all (f := layerB nameB) (fun i hi => HA.out i hi hi)]
        rfl
  · have h20' : (20 : Int) < (l.length : Int) := by omega
    go_enter Tryz.func45, Tryz.ntmps45
    go_wp2_with fail
    go_ret
    refine ⟨?_, Below.refl _ _⟩
    unfold layersB
    rw [decide_eq_false h20]
    rfl
end Go.Proofs.YtoopdcbgnccmiaaGreatDoor

namespace Go.Proofs.YtoopdcbgnccmiaaGreatDoor
open Go.ChangeShapes Go.WideShapes Go.ChangeAt Go.RowKit
set_option linter.unusedVariables false
set_option linter.unusedSimpArgs false

/-- A layer, and the slice that holds its entries. -/
structure LayV where
  x : Layer
  nv : Value
/-- The slice v reads in w, out of blocks of S, as these. -/
def LayVsAt (S : Nat → Prop) (w : World) (v : Value) (l : List LayV) : Prop := l.length ≤ maxLen ∧ ∃ a cap, v = .slice a l.length cap ∧ (0 < l.length → ∃ b off, a = some ⟨b, off, none⟩ ∧ S b ∧
  ∀ i (h : i < l.length), w.cell? ⟨b, off + i * 3, none⟩ = some (.string l[i].x.name) ∧ w.cell? ⟨b, off + i * 3 + 1, none⟩ = some (.int .i64 l[i].x.rank) ∧ w.cell? ⟨b, off + i * 3 + 2, none⟩ = some (l[i].nv))
theorem LayVsAt.keep {S : Nat → Prop} {w w' : World} {v : Value} {l : List LayV} (h : LayVsAt S w v l) (hk : ∀ b i, S b → w'.cell? ⟨b, i, none⟩ = w.cell? ⟨b, i, none⟩) : LayVsAt S w' v l := by
  obtain ⟨hl, a, cap, hv, h⟩ := h
  refine ⟨hl, a, cap, hv, fun h0 => ?_⟩
  obtain ⟨b, off, ha, hbB, hc⟩ := h h0
  refine ⟨b, off, ha, hbB, fun i hi => ?_⟩
  obtain ⟨c0, c1, c2⟩ := hc i hi
  exact ⟨(hk _ _ hbB).trans c0, (hk _ _ hbB).trans c1, (hk _ _ hbB).trans c2⟩
theorem LayVsAt.mono {S S' : Nat → Prop} {w : World} {v : Value} {l : List LayV} (h : LayVsAt S w v l) (hS : ∀ b, S b → S' b) : LayVsAt S' w v l := by
  obtain ⟨hl, a, cap, hv, h⟩ := h
  refine ⟨hl, a, cap, hv, fun h0 => ?_⟩
  obtain ⟨b, off, ha, hbB, hc⟩ := h h0
  refine ⟨b, off, ha, hS b hbB, fun i hi => ?_⟩
  obtain ⟨c0, c1, c2⟩ := hc i hi
  exact ⟨c0, c1, c2⟩
theorem LayVsAt.shape {S : Nat → Prop} {w : World} {v : Value} {l : List LayV} (h : LayVsAt S w v l) : ∃ a c, v = .slice a l.length c := by
  obtain ⟨_, a, c, hv, _⟩ := h
  exact ⟨a, c, hv⟩
def LayVsCells (x : LayV) : List Value := [.string x.x.name, .int .i64 x.x.rank, x.nv]
def LayVsRow (l : List LayV) : List Value := l.flatMap LayVsCells
theorem LayVsRow_length (l : List LayV) : (LayVsRow l).length = l.length * 3 := by
  induction l with
  | nil => rfl
  | cons a t ih => simp only [LayVsRow, List.flatMap_cons, List.length_append, List.length_cons] at ih ⊢; rw [ih]; simp [LayVsCells] <;> omega
theorem LayVsRow_append (l k : List LayV) : LayVsRow (l ++ k) = LayVsRow l ++ LayVsRow k := by simp [LayVsRow]
def LayVsOne (l : List LayV) : Prop := ∀ x ∈ l, (x.nv).oneCell' = true
theorem LayVsRow_one {l : List LayV} (h1 : LayVsOne l) {u : Value} (hu : u ∈ LayVsRow l) : u.oneCell' = true := by
  obtain ⟨x, hxl, hx⟩ := List.mem_flatMap.1 hu
  simp only [LayVsCells, List.mem_cons, List.mem_nil_iff, or_false] at hx
  rcases hx with rfl | rfl | rfl
  · rfl
  · rfl
  · exact h1 x hxl
theorem LayVsRow_at (l : List LayV) (k : Nat) (hk : k < l.length) : (LayVsRow l)[k * 3]? = some (.string l[k].x.name) ∧ (LayVsRow l)[k * 3 + 1]? = some (.int .i64 l[k].x.rank) ∧ (LayVsRow l)[k * 3 + 2]? = some (l[k].nv) := by
  induction l generalizing k with
  | nil => simp at hk
  | cons a t ih =>
    have hc : LayVsRow (a :: t) = LayVsCells a ++ LayVsRow t := by simp [LayVsRow]
    rw [hc]
    cases k with
    | zero => simp [LayVsCells]
    | succ k =>
      rw [List.getElem?_append_right (by simp [LayVsCells] <;> omega), List.getElem?_append_right (by simp [LayVsCells] <;> omega), List.getElem?_append_right (by simp [LayVsCells] <;> omega)]
      have e0 : (k + 1) * 3 - (LayVsCells a).length = k * 3 := by simp [LayVsCells] <;> omega
      have e1 : (k + 1) * 3 + 1 - (LayVsCells a).length = k * 3 + 1 := by simp [LayVsCells] <;> omega
      have e2 : (k + 1) * 3 + 2 - (LayVsCells a).length = k * 3 + 2 := by simp [LayVsCells] <;> omega
      rw [e0, e1, e2]
      simpa using ih k (by simpa using hk)
/-- A row of one's own. -/
def OwnLayVs (B : Nat) (w : World) (v : Value) (l : List LayV) : Prop := w.ownsRow B 63 3 v l.length (LayVsRow l)
theorem OwnLayVs.below {B : Nat} {w w' : World} {v : Value} {l : List LayV} (h : OwnLayVs B w v l) (hb : Below w.heap.size w w') : OwnLayVs B w' v l := by
  obtain ⟨hl, h⟩ := h
  refine ⟨hl, ?_⟩
  rcases h with h | ⟨g, cap, cur, hv, hB, hg, h1, h2, h3, h4⟩
  · exact .inl h
  · refine .inr ⟨g, cap, cur, hv, hB, ?_, h1, h2, h3, h4⟩
    rw [hb.block g (Array.getElem?_eq_some_iff.1 hg).1]; exact hg
theorem OwnLayVs.mono {B B' : Nat} {w : World} {v : Value} {l : List LayV} (h : OwnLayVs B w v l) (hB : B' ≤ B) : OwnLayVs B' w v l := by
  obtain ⟨hl, h⟩ := h
  refine ⟨hl, ?_⟩
  rcases h with h | ⟨g, cap, cur, hv, hg, h1⟩
  · exact .inl h
  · exact .inr ⟨g, cap, cur, hv, Nat.le_trans hB hg, h1⟩
theorem OwnLayVs.value {B : Nat} {w : World} {v : Value} {l : List LayV} (h : OwnLayVs B w v l) :
    ∃ a cap, v = .slice a l.length cap ∧ l.length ≤ maxLen ∧ (0 < l.length → ∃ g, a = some ⟨g, 0, none⟩ ∧ B ≤ g ∧ g < w.heap.size ∧ ∀ j (hj : j < l.length), w.cell? ⟨g, j * 3, none⟩ = some (.string l[j].x.name) ∧ w.cell? ⟨g, j * 3 + 1, none⟩ = some (.int .i64 l[j].x.rank) ∧ w.cell? ⟨g, j * 3 + 2, none⟩ = some (l[j].nv)) := by
  rcases h.2 with ⟨rfl, h0⟩ | ⟨g, cap, cur, rfl, hB, hg, h1, h2, h3, h4⟩
  · exact ⟨none, 0, by rw [h0], by omega, fun h => by omega⟩
  · refine ⟨_, cap, rfl, by omega, fun _ => ⟨g, rfl, hB, (Array.getElem?_eq_some_iff.1 hg).1, fun j hj => ?_⟩⟩
    simp only [World.cell?, hg]
    have h5 := LayVsRow_at l j hj
    rw [← h4, List.getElem?_take, List.getElem?_take, List.getElem?_take, if_pos (by omega), if_pos (by omega), if_pos (by omega)] at h5
    simpa using h5
theorem OwnLayVs.at {B : Nat} {w : World} {v : Value} {l : List LayV} (h : OwnLayVs B w v l) : LayVsAt (fun b => B ≤ b ∧ b < w.heap.size) w v l := by
  obtain ⟨a, cap, hv, hl, hc⟩ := h.value
  refine ⟨hl, a, cap, hv, fun h0 => ?_⟩
  obtain ⟨g, rfl, hB, hg, hcell⟩ := hc h0
  refine ⟨g, 0, rfl, ⟨hB, hg⟩, fun i hi => ?_⟩
  simpa using hcell i hi
theorem OwnLayVs.out {B : Nat} {S : Nat → Prop} {w w' : World} {v : Value} {l : List LayV} (h : OwnLayVs B w v l) (ho : OutS S w w') (hS : ∀ b, S b → b < B) : OwnLayVs B w' v l := by
  obtain ⟨hl, h⟩ := h
  refine ⟨hl, ?_⟩
  rcases h with h | ⟨g, cap, cur, hv, hB, hg, h1⟩
  · exact .inl h
  · refine .inr ⟨g, cap, cur, hv, hB, ?_, h1⟩
    rw [ho.block g (Array.getElem?_eq_some_iff.1 hg).1 (fun hs => by have := hS g hs; omega)]; exact hg
theorem OwnLayVs.blk {B b : Nat} {w : World} {v : Value} {l : List LayV} (h : OwnLayVs B w v l) (hb : BlkOf v b) : B ≤ b := by
  rcases h.2 with ⟨rfl, _⟩ | ⟨g, cap, cur, rfl, hB, _⟩
  · obtain ⟨_, _, h⟩ := hb; simp at h
  · rw [hb.eq]; exact hB
theorem OwnLayVs.block {B : Nat} {w : World} {v : Value} {l : List LayV} (h : OwnLayVs B w v l) : ∀ k, v.ownBlock = some k → B ≤ k := by
  intro k hk
  rcases h.2 with ⟨rfl, _⟩ | ⟨g, cap, cur, rfl, hB, _⟩
  · simp [Value.ownBlock] at hk
  · simp [Value.ownBlock] at hk; omega
theorem OwnLayVs.kept {B : Nat} {w w' : World} {v : Value} {l : List LayV} {row : Option Nat} (h : OwnLayVs B w v l) (hg : w.grownBy w' row) (hne : v.ownBlock = none ∨ v.ownBlock ≠ row) : OwnLayVs B w' v l :=
  World.ownsRow.kept h hg hne
theorem OwnLayVs.empty (B : Nat) (w : World) (hB : B ≤ w.heap.size) : OwnLayVs B (w.alloc (.cells #[] 63)) (.slice (some ⟨w.heap.size, 0, none⟩) 0 0) [] :=
  ⟨rfl, .inr ⟨w.heap.size, 0, #[], rfl, hB, heap_alloc_last w _, Nat.le_refl _, Nat.zero_le _, rfl, rfl⟩⟩
theorem OwnLayVs.nil (B : Nat) (w : World) : OwnLayVs B w (.slice none 0 0) [] := ⟨rfl, .inl ⟨rfl, rfl⟩⟩
theorem LayVsAt.news {S : Nat → Prop} {w : World} {b off len cap : Nat} {ys : List LayV} (h : LayVsAt S w (.slice (some ⟨b, off, none⟩) len cap) ys) : ∀ j u, (LayVsRow ys)[j]? = some u → w.cell? ((⟨b, off, none⟩ : Addr).add j) = some u := by
  intro j u hj
  have hlt : j < ys.length * 3 := by
    have := (List.getElem?_eq_some_iff.1 hj).1
    rwa [LayVsRow_length] at this
  obtain ⟨_, a, c, hv, hc⟩ := h
  obtain ⟨b', off', ha, _, hcell⟩ := hc (by omega)
  simp only [Value.slice.injEq] at hv
  obtain ⟨rfl, _, _⟩ := hv
  simp only [Option.some.injEq, Addr.mk.injEq] at ha
  obtain ⟨rfl, rfl, _⟩ := ha
  have hk : j / 3 < ys.length := by omega
  have hcc := hcell (j / 3) hk
  have hrr := LayVsRow_at ys (j / 3) hk
  rw [addr_at]
  obtain ⟨c0, c1, c2⟩ := hcc
  obtain ⟨r0, r1, r2⟩ := hrr
  have h3 : j % 3 = 0 ∨ j % 3 = 1 ∨ j % 3 = 2 := by omega
  rcases h3 with h3 | h3 | h3
  · have e : j = j / 3 * 3 := by omega
    rw [e] at hj
    rw [r0] at hj
    rw [show off + j = off + j / 3 * 3 by omega, c0, ← hj]
  · have e : j = j / 3 * 3 + 1 := by omega
    rw [e] at hj
    rw [r1] at hj
    rw [show off + j = off + j / 3 * 3 + 1 by omega, c1, ← hj]
  · have e : j = j / 3 * 3 + 2 := by omega
    rw [e] at hj
    rw [r2] at hj
    rw [show off + j = off + j / 3 * 3 + 2 by omega, c2, ← hj]
theorem wpList_appendLayVs {ops : Array Oper} {rest : List Oper} {o : Oper} {a : Act} {w : World} {Q : Exit → Act → World → Prop} (hgd : o.guard = none) (s x : Operand)
    (ho : o.op = .call { callee := .builtin .append, args := #[s, x], argTypes := #[31, 31] })
    (B : Nat) (v : Value) (l : List LayV) (hs : a.eval s = v) (hown : OwnLayVs B w v l) {S : Nat → Prop} (u : Value) (ys : List LayV) (hx : a.eval x = u) (hsrc : LayVsAt S w u ys)
    (hsz : l.length + ys.length ≤ 1000000) (hB : B ≤ w.heap.size) (hone : LayVsOne ys)
    (h : ∀ v' w', OwnLayVs B w' v' (l ++ ys) → Below B w w' → w.grownBy w' v.ownBlock → (v' = .slice none 0 0 → v = .slice none 0 0) → wpList Tryz.prog ops Q rest (a.put o.dst v') w') : wpList Tryz.prog ops Q (o :: rest) a w := by
  obtain ⟨i, hii, hz0, hz1, hz2⟩ := info_of (t := 63) (z := .agg #[.string ⟨#[]⟩, .int .i64 0, .slice none 0 0]) (n := 3) (b := 48) (by kernel_rfl)
  obtain ⟨_, ao, c, hv, hc⟩ := id hsrc
  by_cases h0 : 0 < ys.length
  · obtain ⟨b, off, rfl, _, _⟩ := hc h0
    subst hv
    refine wpList_append_own w hgd s x 31 ho B 63 i (.agg #[.string ⟨#[]⟩, .int .i64 0, .slice none 0 0]) 3 48 Tryz.underlying31 hii hz0 hz1 hz2 rfl (by decide) v l.length (LayVsRow l) hs hown ⟨b, off, none⟩ ys.length c (LayVsRow ys) hx (LayVsRow_length ys) hsrc.news (fun u hu => LayVsRow_one hone hu) ?_ ?_ hB ?_
    · unfold maxLen; omega
    · omega
    · intro v' w' h1 h2 h3
      have h4 : OwnLayVs B w' v' (l ++ ys) := by
        unfold OwnLayVs
        rw [LayVsRow_append, List.length_append]
        exact h1
      have h5 := (Below.refl _ w).grown h2 hB (OwnLayVs.block hown)
      exact h v' w' h4 h5 h2 (fun e => (h3.1 e).1)
  · have hy : ys = [] := List.length_eq_zero_iff.1 (by omega)
    subst hy
    subst hv
    have hrun : (Builtin.append_ #[31, 31] o.type #[v, .slice ao 0 c]).run Tryz.prog w = .ok v w := run_append_zero Tryz.underlying31 hii v _ _ hown ao c
    refine wpList_plain hgd fun K hK => ?_
    unfold Oper.wp
    simp only [List.length_nil] at hx
    simp [execOp, ho, resolve, invoke, builtin, hs, hx, hrun, Result.andThen]
    exact hK _ _ (h v w (by simpa using hown) (Below.refl _ _) (grown_refl _ _) id)
theorem step_appendLayVs {ops : Array Oper} {o : Oper} {a : Act} {w : World} {K : Act → World → Prop} {Q : Exit → Act → World → Prop} {E : Prop}
    (hg : o.guard = none) (s x : Operand) (ho : o.op = Op.call { callee := Callee.builtin Builtin.append, args := #[s, x], argTypes := #[31, 31] })
    (B : Nat) (v : Value) (l : List LayV) (hs : a.eval s = v) (hown : OwnLayVs B w v l) {S : Nat → Prop} (u : Value) (ys : List LayV) (hx : a.eval x = u) (hsrc : LayVsAt S w u ys)
    (hsz : l.length + ys.length ≤ 1000000) (hB : B ≤ w.heap.size) (hone : LayVsOne ys)
    (hK : ∀ va vn vc w', OwnLayVs B w' (.slice va vn vc) (l ++ ys) → Below B w w' → w.grownBy w' v.ownBlock → (Value.slice va vn vc = .slice none 0 0 → v = .slice none 0 0) → K (a.put o.dst (.slice va vn vc)) w') :
    if Region.wanted o (yielded ops a.tmps) = true then Oper.wp Tryz.prog o a w K Q else E := by
  have hw : Region.wanted o (yielded ops a.tmps) = true := by simp [Region.wanted, hg]
  rw [if_pos hw]
  obtain ⟨i, hii, hz0, hz1, hz2⟩ := info_of (t := 63) (z := .agg #[.string ⟨#[]⟩, .int .i64 0, .slice none 0 0]) (n := 3) (b := 48) (by kernel_rfl)
  obtain ⟨_, ao, c, hv, hc⟩ := id hsrc
  by_cases h0 : 0 < ys.length
  · obtain ⟨b, off, rfl, _, _⟩ := hc h0
    subst hv
    refine wp_append_own w  s x 31 ho B 63 i (.agg #[.string ⟨#[]⟩, .int .i64 0, .slice none 0 0]) 3 48 Tryz.underlying31 hii hz0 hz1 hz2 rfl (by decide) v l.length (LayVsRow l) hs hown ⟨b, off, none⟩ ys.length c (LayVsRow ys) hx (LayVsRow_length ys) hsrc.news (fun u hu => LayVsRow_one hone hu) ?_ ?_ hB ?_
    · unfold maxLen; omega
    · omega
    · intro v' w' h1 h2 h3
      have h4 : OwnLayVs B w' v' (l ++ ys) := by
        unfold OwnLayVs
        rw [LayVsRow_append, List.length_append]
        exact h1
      have h5 := (Below.refl _ w).grown h2 hB (OwnLayVs.block hown)
      rcases h4.2 with ⟨rfl, _⟩ | ⟨g, cap, cur, rfl, _⟩
      · exact hK _ _ _ w' h4 h5 h2 (fun e => (h3.1 e).1)
      · exact hK _ _ _ w' h4 h5 h2 (fun e => (h3.1 e).1)
  · have hy : ys = [] := List.length_eq_zero_iff.1 (by omega)
    subst hy
    subst hv
    have hrun : (Builtin.append_ #[31, 31] o.type #[v, .slice ao 0 c]).run Tryz.prog w = .ok v w := run_append_zero Tryz.underlying31 hii v _ _ hown ao c
    unfold Oper.wp
    simp only [List.length_nil] at hx
    simp [execOp, ho, resolve, invoke, builtin, hs, hx, hrun, Result.andThen]
    obtain ⟨va, vc, hvv, _⟩ := hown.value
    subst hvv
    exact hK _ _ _ w (by simpa using hown) (Below.refl _ _) (grown_refl _ _) id
theorem LayVsAt.new (w : World) (y : LayV) : LayVsAt (fun b => b = w.heap.size) (w.alloc (.cells #[.string y.x.name, .int .i64 y.x.rank, y.nv] 63)) (.slice (some ⟨w.heap.size, 0, none⟩) 1 1) [y] := by
  refine ⟨by simp [maxLen], _, 1, rfl, fun _ => ⟨w.heap.size, 0, rfl, rfl, fun i hi => ?_⟩⟩
  have hi0 : i = 0 := by simpa using hi
  subst hi0
  have hb : Blk (w.alloc (.cells #[.string y.x.name, .int .i64 y.x.rank, y.nv] 63)) w.heap.size 63 #[.string y.x.name, .int .i64 y.x.rank, y.nv] := heap_alloc_last w _
  exact ⟨hb.cell 0, hb.cell 1, hb.cell 2⟩
theorem LayVsRow_take (l : List LayV) (k : Nat) : LayVsRow (l.take k) = (LayVsRow l).take (k * 3) := by
  induction l generalizing k with
  | nil => simp [LayVsRow]
  | cons a t ih =>
    cases k with
    | zero => simp [LayVsRow]
    | succ k =>
      have hc : LayVsRow (a :: t) = LayVsCells a ++ LayVsRow t := by simp [LayVsRow]
      have hc2 : LayVsRow (a :: t.take k) = LayVsCells a ++ LayVsRow (t.take k) := by simp [LayVsRow]
      rw [List.take_succ_cons, hc, hc2, ih, List.take_append]
      have hl : (LayVsCells a).length = 3 := rfl
      rw [List.take_of_length_le (l := LayVsCells a) (by rw [hl]; omega), hl, show (k + 1) * 3 - 3 = k * 3 by omega]
theorem OwnLayVs.take {B g m cap : Nat} {w : World} {l : List LayV} (h : OwnLayVs B w (.slice (some ⟨g, 0, none⟩) m cap) l) (k : Nat) (hk : k ≤ l.length) : OwnLayVs B w (.slice (some ⟨g, 0, none⟩) k cap) (l.take k) := by
  rcases h.2 with ⟨hv, h0⟩ | ⟨g', cap', cur, hv, hB, hg, h1, h2, h3, h4⟩
  · simp at hv
  · simp at hv
    obtain ⟨rfl, rfl, rfl⟩ := hv
    have hkl : (l.take k).length = k := by rw [List.length_take]; omega
    unfold OwnLayVs
    rw [hkl]
    refine ⟨by rw [LayVsRow_length, hkl], .inr ⟨g, cap, cur, rfl, hB, hg, by omega, h2, h3, ?_⟩⟩
    rw [LayVsRow_take, ← h4, List.take_take]
    congr 1
    omega
theorem OwnLayVs.lt {B g m cap : Nat} {w : World} {l : List LayV} (h : OwnLayVs B w (.slice (some ⟨g, 0, none⟩) m cap) l) : g < w.heap.size ∧ B ≤ g ∧ m ≤ cap ∧ cap ≤ maxLen ∧ m = l.length := by
  rcases h.2 with ⟨hv, h0⟩ | ⟨g', cap', cur, hv, hB, hg, h1, h2, h3, h4⟩
  · simp at hv
  · simp at hv
    obtain ⟨rfl, rfl, rfl⟩ := hv
    exact ⟨(Array.getElem?_eq_some_iff.1 hg).1, hB, h1, h2, rfl⟩
theorem OwnLayVs.cells {B g m c : Nat} {w : World} {l : List LayV} (h : OwnLayVs B w (.slice (some ⟨g, 0, none⟩) m c) l) : ∀ j (hj : j < l.length), w.cell? ⟨g, j * 3, none⟩ = some (.string l[j].x.name) ∧ w.cell? ⟨g, j * 3 + 1, none⟩ = some (.int .i64 l[j].x.rank) ∧ w.cell? ⟨g, j * 3 + 2, none⟩ = some (l[j].nv) := by
  intro j hj
  obtain ⟨a3, c3, hv, _, hc⟩ := h.value
  obtain ⟨g', hg', _, _, hcc⟩ := hc (by omega)
  subst hg'
  simp only [Value.slice.injEq, Option.some.injEq, Addr.mk.injEq, and_true] at hv
  obtain ⟨rfl, _, _⟩ := hv
  exact hcc j hj
theorem OwnLayVs.dropAt {B g m cap : Nat} {w : World} {l : List LayV} (h : OwnLayVs B w (.slice (some ⟨g, 0, none⟩) m cap) l) (k : Nat) (hk : k ≤ l.length) (c : Nat) : LayVsAt (fun b => b = g) w (.slice (some ⟨g, k * 3, none⟩) (l.length - k) c) (l.drop k) := by
  obtain ⟨_, _, h3, h4, h5⟩ := h.lt
  refine ⟨by rw [List.length_drop]; omega, _, c, by rw [List.length_drop], fun _ => ⟨g, k * 3, rfl, rfl, fun i hi => ?_⟩⟩
  have hc := h.cells (k + i) (by simp at hi; omega)
  simp only [List.getElem_drop]
  have e0 : k * 3 + i * 3 = (k + i) * 3 := by omega
  have e1 : k * 3 + i * 3 + 1 = (k + i) * 3 + 1 := by omega
  have e2 : k * 3 + i * 3 + 2 = (k + i) * 3 + 2 := by omega
  rw [e0]
  exact hc
theorem OwnLayVs.solid {B : Nat} {w : World} {v : Value} {l : List LayV} (h : OwnLayVs B w v l) (hne : v ≠ .slice none 0 0) : ∃ g c, v = .slice (some ⟨g, 0, none⟩) l.length c ∧ B ≤ g := by
  rcases h.2 with ⟨hv, h0⟩ | ⟨g', cap', cur, hv, hB, hg, h1, h2, h3, h4⟩
  · exact absurd hv hne
  · exact ⟨g', cap', hv, hB⟩
theorem OwnLayVs.shaped {B m : Nat} {w : World} {v : Value} {l : List LayV} (h : OwnLayVs B w v l) (hm : l.length = m) (hp : 0 < m) : ∃ g c, v = .slice (some ⟨g, 0, none⟩) m c ∧ B ≤ g := by
  rcases h.2 with ⟨hv, h0⟩ | ⟨g', cap', cur, hv, hB, hg, h1, h2, h3, h4⟩
  · omega
  · exact ⟨g', cap', by rw [hv, hm], hB⟩
end Go.Proofs.YtoopdcbgnccmiaaGreatDoor

namespace Go.Proofs.YtoopdcbgnccmiaaGreatDoor
open Go.ChangeShapes Go.WideShapes Go.ChangeAt Go.RowKit
set_option linter.unusedVariables false

def lessL (x y : LayV) : Bool := decide (x.x.rank < y.x.rank) || (x.x.rank == y.x.rank && Go.Op.bytesLess x.x.name.toList y.x.name.toList)
/-- Where a layer is put, going down from a place. -/
def posUp (out : List LayV) (y : LayV) : Nat → Nat
  | 0 => 0
  | k + 1 => match out[k]? with
    | some z => if lessL y z then posUp out y k else k + 1
    | none => k + 1
def posN (out : List LayV) (y : LayV) : Nat := posUp out y out.length
def overStep (out : List LayV) (y : LayV) : List LayV := (out.take (posN out y) ++ [y]) ++ out.drop (posN out y)
def overF (lv : List LayV) : List LayV := lv.foldl overStep []

set_option maxRecDepth 100000 in
set_option maxHeartbeats 4000000 in
theorem specOver {S : Nat → Prop} {lv : List LayV} {v : Value} {w : World} (hS : ∀ b, S b → b < w.heap.size) (h : LayVsAt S w v lv) (hone : LayVsOne lv) (hsl : ∀ x ∈ lv, ∃ a n c, x.nv = .slice a n c) (hl : lv.length ≤ 20) :
    Calls Tryz.prog 87 #[v] w fun e w' => (∃ p, e = .returned p ∧ OwnLayVs w.heap.size w' p (overF lv)) ∧ Below w.heap.size w w' := by
  obtain ⟨_, a, cap, rfl, hc⟩ := h
  have HC : Hid _ := hc
  have HS : Hid (∀ b, S b → b < w.heap.size) := hS
  have HONE : Hid (LayVsOne lv) := hone
  have HSL : Hid (∀ x ∈ lv, ∃ a n c, x.nv = .slice a n c) := hsl
  have hl' : (lv.length : Int) ≤ 20 := by omega
  unfold overF
  obtain ⟨F, hF⟩ : ∃ F, lv.foldl overStep [] = F := ⟨_, rfl⟩
  have HF : Hid (lv.foldl overStep [] = F) := hF
  rw [hF]
  clear hF hc hS hone hsl
  have HE : Hid (OwnLayVs w.heap.size (w.alloc (.cells #[] 63)) (.slice (some ⟨w.heap.size, 0, none⟩) 0 0) []) := OwnLayVs.empty w.heap.size w (Nat.le_refl _)
  go_enter Tryz.func87, Tryz.ntmps87
  go_wp2_with fail
  go_loopw [3, 4] (fun i3 i4 wr => ∃ (k g cp : Nat) (out : List LayV), i4 = .int .i64 (k : Int) ∧ i3 = .slice (some ⟨g, 0, none⟩) out.length cp ∧ k ≤ lv.length ∧ out.length = k ∧ OwnLayVs w.heap.size wr (.slice (some ⟨g, 0, none⟩) out.length cp) out ∧ LayVsOne out ∧ (lv.drop k).foldl overStep out = F ∧ Below w.heap.size w wr) (fun _ i4 _ => lv.length - (intOf i4).toNat)
  case atStart => exact ⟨0, w.heap.size, 0, [], rfl, rfl, by omega, rfl, HE.out, fun x hx => (by cases hx), HF.out, (Below.refl _ w).alloc (Nat.le_refl _) _⟩
  case round =>
    obtain ⟨k, g, cp, out, rfl, rfl, hk, hok, hown, hon, hfold, hb⟩ := hrel
    obtain ⟨wo, hwo⟩ : ∃ wo, wo = wr := ⟨_, rfl⟩
    subst hwo
    have HOW : Hid (OwnLayVs w.heap.size wo (.slice (some ⟨g, 0, none⟩) out.length cp) out) := hown
    have HFO : Hid ((lv.drop k).foldl overStep out = F) := hfold
    have HON : Hid (LayVsOne out) := hon
    have HBL : Hid (Below w.heap.size w wo) := hb
    have HKK : Hid (out.length = k) := hok
    have hol : (out.length : Int) ≤ 20 := by omega
    clear hfold hon hok
    by_cases hkn : k < lv.length
    · have hkn' : (k : Int) < (lv.length : Int) := by omega
      obtain ⟨b, off, rfl, hbS, hcell⟩ := HC.out (by omega)
      have hbw := HS.out b hbS
      obtain ⟨c0, c1, c2⟩ := hcell k hkn
      have hnx : (lv.drop (k + 1)).foldl overStep (overStep out lv[k]) = F := by
        have := HFO.out
        rw [List.drop_eq_getElem_cons hkn, List.foldl_cons] at this
        exact this
      have hy1 := HONE.out lv[k] (List.getElem_mem hkn)
      have hy2 := HSL.out lv[k] (List.getElem_mem hkn)
      obtain ⟨y, hy⟩ : ∃ y, lv[k] = y := ⟨_, rfl⟩
      rw [hy] at c0 c1 c2 hnx hy1 hy2
      obtain ⟨⟨yn, yr, ye⟩, yv⟩ := y
      dsimp only at c0 c1 c2 hy1 hy2
      obtain ⟨ya, yl, yc, hyv⟩ := hy2
      subst hyv
      have HNX : Hid ((lv.drop (k + 1)).foldl overStep (overStep out ⟨⟨yn, yr, ye⟩, .slice ya yl yc⟩) = F) := hnx
      have C0 : Hid (w.cell? ⟨b, off + k * 3, none⟩ = some (.string yn)) := c0
      have C1 : Hid (w.cell? ⟨b, off + k * 3 + 1, none⟩ = some (.int .i64 yr)) := c1
      have C2 : Hid (w.cell? ⟨b, off + k * 3 + 2, none⟩ = some (.slice ya yl yc)) := c2
      have HY1 : Hid ((Value.slice ya yl yc).oneCell' = true) := hy1
      have hlt := hown.lt
      clear hnx hy hcell HFO c0 c1 c2 hy1 hown
      go_upto_block 2 with fail
      go_cut [5] from 16 to 61 (fun s5 wx => ∃ j : Nat, s5 = .int .i64 (j : Int) ∧ j ≤ out.length ∧ posN out ⟨⟨yn, yr, ye⟩, .slice ya yl yc⟩ = j ∧ Below wo.heap.size wo wx)
      case first =>
        obtain ⟨Pn, hPn⟩ : ∃ Pn, posN out ⟨⟨yn, yr, ye⟩, .slice ya yl yc⟩ = Pn := ⟨_, rfl⟩
        have HPN : Hid (posN out ⟨⟨yn, yr, ye⟩, .slice ya yl yc⟩ = Pn) := hPn
        clear hPn
        go_wp2_with fail
        go_loopw [5] (fun i5 wz => ∃ j : Nat, i5 = .int .i64 (j : Int) ∧ j ≤ out.length ∧ posUp out ⟨⟨yn, yr, ye⟩, .slice ya yl yc⟩ j = Pn ∧ Below wo.heap.size wo wz) (fun i5 _ => (intOf i5).toNat)
        case atStart => exact ⟨out.length, rfl, by omega, HPN.out, Below.refl _ _⟩
        case round =>
          obtain ⟨j, rfl, hj, hpo, hbz⟩ := hrel
          have HPO : Hid (posUp out ⟨⟨yn, yr, ye⟩, .slice ya yl yc⟩ j = Pn) := hpo
          clear hpo
          cases j with
          | zero =>
            go_upto_region 6 with fail
            go_quiet (fail)
            go_wp2_with fail
            go_meet
            exact ⟨0, rfl, by omega, HPN.out.trans HPO.out.symm, bel_drewN hbz nq⟩
          | succ j =>
            have hjl : j < out.length := by omega
            have hjl' : (j : Int) < (out.length : Int) := by omega
            have hj1 : ((j + 1 : Nat) : Int) - 1 = (j : Int) := by omega
            have hj2 : (0 : Int) < ((j + 1 : Nat) : Int) := by omega
            have hbw2 := good_below HBL.out hbz
            have d0 := (hbw2.cell (p := ⟨b, off + k * 3, none⟩) hbw).trans C0.out
            have d1 := (hbw2.cell (p := ⟨b, off + k * 3 + 1, none⟩) hbw).trans C1.out
            obtain ⟨z0, z1, _⟩ := (HOW.out.below hbz).cells j hjl
            have hstep : posUp out ⟨⟨yn, yr, ye⟩, .slice ya yl yc⟩ (j + 1) = if lessL ⟨⟨yn, yr, ye⟩, .slice ya yl yc⟩ out[j] then posUp out ⟨⟨yn, yr, ye⟩, .slice ya yl yc⟩ j else j + 1 := by
              conv => lhs; unfold posUp
              rw [List.getElem?_eq_getElem hjl]
            obtain ⟨z, hz⟩ : ∃ z, out[j] = z := ⟨_, rfl⟩
            rw [hz] at z0 z1 hstep
            obtain ⟨⟨zn, zr, ze⟩, zv⟩ := z
            dsimp only at z0 z1
            have HST : Hid (posUp out ⟨⟨yn, yr, ye⟩, .slice ya yl yc⟩ (j + 1) = if lessL ⟨⟨yn, yr, ye⟩, .slice ya yl yc⟩ ⟨⟨zn, zr, ze⟩, zv⟩ then posUp out ⟨⟨yn, yr, ye⟩, .slice ya yl yc⟩ j else j + 1) := hstep
            clear hz hstep
            by_cases hlt1 : yr < zr
            · go_upto_region 6 with fail
              go_quiet (fail)
              go_wp2_with fail
              refine ⟨⟨j, rfl, by omega, ?_, bel_drewN hbz nq⟩, by simp [intOf]⟩
              rw [← HPO.out, HST.out, if_pos (by unfold lessL; simp [hlt1])]
            · by_cases heq : yr = zr
              · subst heq
                cases hless : Go.Op.bytesLess yn.toList zn.toList
                · go_upto_region 6 with fail
                  go_quiet (fail)
                  go_wp2_with fail
                  go_meet
                  refine ⟨j + 1, rfl, by omega, ?_, bel_drewN hbz nq⟩
                  rw [HPN.out, ← HPO.out, HST.out, if_neg (by unfold lessL; simp [hless])]
                · go_upto_region 6 with fail
                  go_quiet (fail)
                  go_wp2_with fail
                  refine ⟨⟨j, rfl, by omega, ?_, bel_drewN hbz nq⟩, by simp [intOf]⟩
                  rw [← HPO.out, HST.out, if_pos (by unfold lessL; simp [hless])]
              · have heq' : (yr == zr) = false := by simpa using heq
                go_upto_region 6 with fail
                go_quiet (fail)
                go_wp2_with fail
                go_meet
                refine ⟨j + 1, rfl, by omega, ?_, bel_drewN hbz nq⟩
                rw [HPN.out, ← HPO.out, HST.out, if_neg (by unfold lessL; simp [hlt1, heq])]
      case rest =>
        obtain ⟨j, rfl, hj, hpos, hbz⟩ := hcut
        have HPOS : Hid (posN out ⟨⟨yn, yr, ye⟩, .slice ya yl yc⟩ = j) := hpos
        obtain ⟨wD, hwD⟩ : ∃ wD, wD = wc := ⟨_, rfl⟩
        subst hwD
        have hcp1 : (j : Int) ≤ (cp : Int) := by omega
        have hcp2 : (cp : Int) ≤ 9223372036854775807 := by have := hlt.2.2.2.1; simp [maxLen] at this; omega
        have hj' : (j : Int) ≤ (out.length : Int) := by omega
        have hlcp : (out.length : Int) ≤ (cp : Int) := by omega
        have hbwD := good_below HBL.out hbz
        have HOD : Hid (OwnLayVs w.heap.size wD (.slice (some ⟨g, 0, none⟩) out.length cp) out) := HOW.out.below hbz
        have hdon : LayVsOne (out.drop j) := fun x hx => HON.out x (List.mem_of_mem_drop hx)
        have HDON : Hid (LayVsOne (out.drop j)) := hdon
        clear hpos hdon
        by_cases hcpj : cp = j
        · subst hcpj
          have HD : Hid (out.drop cp = []) := (show out.drop cp = [] from by rw [List.drop_eq_nil_iff]; omega)
          have HDON0 : Hid (LayVsOne ([] : List LayV)) := fun x hx => by cases hx
          go_upto_region 8 with fail
          go_cut [6] from 62 to 66 (fun s6 wx => (∃ g6 c6, s6 = .slice (some ⟨g6, 0, none⟩) 0 c6 ∧ wD.heap.size ≤ g6 ∧ OwnLayVs wD.heap.size wx (.slice (some ⟨g6, 0, none⟩) 0 c6) []) ∧ Below wD.heap.size wD wx)
          case first =>
            have HE2 : Hid (OwnLayVs wD.heap.size (wD.alloc (.cells #[] 63)) (.slice (some ⟨wD.heap.size, 0, none⟩) 0 0) []) := OwnLayVs.empty wD.heap.size wD (Nat.le_refl _)
            go_wp2_with (at_builtin; go_must (refine wpList_appendLayVs rfl (.tmp 62) (.tmp 65) rfl wD.heap.size (.slice (some ⟨wD.heap.size, 0, none⟩) 0 0) [] rfl HE2.out (.slice (some ⟨g, 0, none⟩) 0 0) [] rfl (S := fun _ => True) ⟨by simp [maxLen], _, _, rfl, fun h => absurd h (by simp)⟩ (by simp) (by simp) HDON0.out ?_; intro v4 w4 hown4 hB4 hgr4 hnil4; obtain ⟨g4, c4, rfl, hg4⟩ := hown4.solid (fun e => by have := hnil4 e; simp at this)))
            go_meet
            refine ⟨⟨g4, c4, by simp, hg4, ?_⟩, ((Below.refl _ wD).alloc (Nat.le_refl _) _).trans hB4⟩
            simpa using hown4
          case rest =>
            obtain ⟨⟨g6, c6, rfl, hg6, hn6⟩, hb6⟩ := hcut
            obtain ⟨wE, hwE⟩ : ∃ wE, wE = wc := ⟨_, rfl⟩
            subst hwE
            have hbE := good_below hbwD hb6
            have d0 := (hbE.cell (p := ⟨b, off + k * 3, none⟩) hbw).trans C0.out
            have d1 := (hbE.cell (p := ⟨b, off + k * 3 + 1, none⟩) hbw).trans C1.out
            have d2 := (hbE.cell (p := ⟨b, off + k * 3 + 2, none⟩) hbw).trans C2.out
            have HT : Hid (OwnLayVs w.heap.size wE (.slice (some ⟨g, 0, none⟩) cp cp) (out.take cp)) := OwnLayVs.take (OwnLayVs.below HOD.out hb6) cp hj
            have HN6 : Hid (OwnLayVs wD.heap.size wE (.slice (some ⟨g6, 0, none⟩) 0 c6) []) := hn6
            have HG6 : Hid (g6 ≠ g) := fun e => by have := hbz.size; have := hlt.1; omega
            have hst : overStep out ⟨⟨yn, yr, ye⟩, .slice ya yl yc⟩ = (out.take cp ++ [(⟨⟨yn, yr, ye⟩, .slice ya yl yc⟩ : LayV)]) ++ [] := by unfold overStep; rw [HPOS.out, HD.out]
            have HST : Hid (overStep out ⟨⟨yn, yr, ye⟩, .slice ya yl yc⟩ = (out.take cp ++ [(⟨⟨yn, yr, ye⟩, .slice ya yl yc⟩ : LayV)]) ++ []) := hst
            have hsl : ((out.take cp ++ [(⟨⟨yn, yr, ye⟩, .slice ya yl yc⟩ : LayV)]) ++ []).length = out.length + 1 := by simp; omega
            have HSL2 : Hid (((out.take cp ++ [(⟨⟨yn, yr, ye⟩, .slice ya yl yc⟩ : LayV)]) ++ []).length = out.length + 1) := hsl
            have HBE : Hid (Below w.heap.size w wE) := hbE
            have hws : w.heap.size ≤ wE.heap.size := hbE.size
            have hone1 : LayVsOne [(⟨⟨yn, yr, ye⟩, .slice ya yl yc⟩ : LayV)] := fun x hx => by simp at hx; subst hx; exact HY1.out
            have HO1 : Hid (LayVsOne [(⟨⟨yn, yr, ye⟩, .slice ya yl yc⟩ : LayV)]) := hone1
            have HON2 : Hid (LayVsOne ((out.take cp ++ [(⟨⟨yn, yr, ye⟩, .slice ya yl yc⟩ : LayV)]) ++ [])) := fun x hx => by
              rcases List.mem_append.1 hx with q | q
              · rcases List.mem_append.1 q with q | q
                · exact HON.out x (List.mem_of_mem_take q)
                · exact HO1.out x q
              · exact HDON0.out x q
            clear hn6 hst hsl hone1 hbz hbE hb
            go_upto_region 9 with fail
            go_region_law (first
              | (refine step_appendLayVs rfl (.tmp 69) (.tmp 74) rfl w.heap.size (.slice (some ⟨g, 0, none⟩) cp cp) (out.take cp) (by simp [Act.eval]) (OwnLayVs.below HT.out (((Below.refl _ wE).alloc (Nat.le_refl _) _).drew)) (.slice (some ⟨wE.heap.size, 0, none⟩) 1 1) [(⟨⟨yn, yr, ye⟩, .slice ya yl yc⟩ : LayV)] (by simp [Act.eval]) ((LayVsAt.new wE ⟨⟨yn, yr, ye⟩, .slice ya yl yc⟩).keep (fun b i _ => rfl)) (by simp; omega) (by simp; omega) HO1.out ?_; intro va vn vc w5 hown5 hB5 hgr5 hnil5; have hn5 := (OwnLayVs.below HN6.out (((Below.refl _ wE).alloc (Nat.le_refl _) (.cells #[.string yn, .int .i64 yr, .slice ya yl yc] 63)).drew)).kept hgr5 (.inr (by simp [Value.ownBlock]; exact HG6.out)); have hB5' := ((HBE.out.alloc hws (.cells #[.string yn, .int .i64 yr, .slice ya yl yc] 63)).drew).trans hB5)
              | (refine step_appendLayVs rfl (.tmp 75) (.tmp 76) rfl w.heap.size (.slice va vn vc) (out.take cp ++ [(⟨⟨yn, yr, ye⟩, .slice ya yl yc⟩ : LayV)]) (by simp [Act.eval]) hown5 (.slice (some ⟨g6, 0, none⟩) 0 c6) [] (by simp [Act.eval]) hn5.at (by simp; omega) hB5'.size HDON0.out ?_; intro va6 vn6 vc6 w6 hown6 hB6 hgr6 hnil6; obtain ⟨g7, c7, e7, hg7⟩ := hown6.solid (fun e => by have := hnil5 (hnil6 e); simp at this); rw [HSL2.out] at e7; simp only [Value.slice.injEq] at e7; obtain ⟨rfl, rfl, rfl⟩ := e7; have hB6' := hB5'.trans hB6))
            all_goals
              go_wp2_with fail
              exact ⟨⟨k + 1, g7, vc6, (out.take cp ++ [(⟨⟨yn, yr, ye⟩, .slice ya yl yc⟩ : LayV)]) ++ [], rfl, by rw [HSL2.out], by omega, by rw [HSL2.out]; have := HKK.out; omega, by rw [HSL2.out]; exact hown6, HON2.out, by rw [← HST.out]; exact HNX.out, hB6'⟩, by simp [intOf]; omega⟩
        · go_upto_region 8 with fail
          go_cut [6] from 62 to 66 (fun s6 wx => (∃ g6 c6, s6 = .slice (some ⟨g6, 0, none⟩) (out.length - j) c6 ∧ wD.heap.size ≤ g6 ∧ OwnLayVs wD.heap.size wx (.slice (some ⟨g6, 0, none⟩) (out.length - j) c6) (out.drop j)) ∧ Below wD.heap.size wD wx)
          case first =>
            have HE2 : Hid (OwnLayVs wD.heap.size (wD.alloc (.cells #[] 63)) (.slice (some ⟨wD.heap.size, 0, none⟩) 0 0) []) := OwnLayVs.empty wD.heap.size wD (Nat.le_refl _)
            have hcpj2 : ¬ (j = cp) := fun e => hcpj e.symm
            go_wp2_with (at_builtin; go_must (refine wpList_appendLayVs rfl (.tmp 62) (.tmp 65) rfl wD.heap.size (.slice (some ⟨wD.heap.size, 0, none⟩) 0 0) [] rfl HE2.out _ (out.drop j) rfl (OwnLayVs.dropAt (OwnLayVs.below HOD.out ((Below.refl _ _).alloc (Nat.le_refl _) _)) j hj _) (by simp; omega) (by simp) HDON.out ?_; intro v4 w4 hown4 hB4 hgr4 hnil4; obtain ⟨g4, c4, rfl, hg4⟩ := hown4.solid (fun e => by have := hnil4 e; simp at this)))
            go_meet
            refine ⟨⟨g4, c4, by simp, hg4, ?_⟩, ((Below.refl _ wD).alloc (Nat.le_refl _) _).trans hB4⟩
            simpa using hown4
          case rest =>
            obtain ⟨⟨g6, c6, rfl, hg6, hn6⟩, hb6⟩ := hcut
            obtain ⟨wE, hwE⟩ : ∃ wE, wE = wc := ⟨_, rfl⟩
            subst hwE
            have hbE := good_below hbwD hb6
            have d0 := (hbE.cell (p := ⟨b, off + k * 3, none⟩) hbw).trans C0.out
            have d1 := (hbE.cell (p := ⟨b, off + k * 3 + 1, none⟩) hbw).trans C1.out
            have d2 := (hbE.cell (p := ⟨b, off + k * 3 + 2, none⟩) hbw).trans C2.out
            have HT : Hid (OwnLayVs w.heap.size wE (.slice (some ⟨g, 0, none⟩) j cp) (out.take j)) := OwnLayVs.take (OwnLayVs.below HOD.out hb6) j hj
            have HN6 : Hid (OwnLayVs wD.heap.size wE (.slice (some ⟨g6, 0, none⟩) (out.length - j) c6) (out.drop j)) := hn6
            have HG6 : Hid (g6 ≠ g) := fun e => by have := hbz.size; have := hlt.1; omega
            have hst : overStep out ⟨⟨yn, yr, ye⟩, .slice ya yl yc⟩ = (out.take j ++ [(⟨⟨yn, yr, ye⟩, .slice ya yl yc⟩ : LayV)]) ++ out.drop j := by unfold overStep; rw [HPOS.out]
            have HST : Hid (overStep out ⟨⟨yn, yr, ye⟩, .slice ya yl yc⟩ = (out.take j ++ [(⟨⟨yn, yr, ye⟩, .slice ya yl yc⟩ : LayV)]) ++ out.drop j) := hst
            have hsl : ((out.take j ++ [(⟨⟨yn, yr, ye⟩, .slice ya yl yc⟩ : LayV)]) ++ out.drop j).length = out.length + 1 := by simp; omega
            have HSL2 : Hid (((out.take j ++ [(⟨⟨yn, yr, ye⟩, .slice ya yl yc⟩ : LayV)]) ++ out.drop j).length = out.length + 1) := hsl
            have HBE : Hid (Below w.heap.size w wE) := hbE
            have hws : w.heap.size ≤ wE.heap.size := hbE.size
            have hone1 : LayVsOne [(⟨⟨yn, yr, ye⟩, .slice ya yl yc⟩ : LayV)] := fun x hx => by simp at hx; subst hx; exact HY1.out
            have HO1 : Hid (LayVsOne [(⟨⟨yn, yr, ye⟩, .slice ya yl yc⟩ : LayV)]) := hone1
            have HON2 : Hid (LayVsOne ((out.take j ++ [(⟨⟨yn, yr, ye⟩, .slice ya yl yc⟩ : LayV)]) ++ out.drop j)) := fun x hx => by
              rcases List.mem_append.1 hx with q | q
              · rcases List.mem_append.1 q with q | q
                · exact HON.out x (List.mem_of_mem_take q)
                · exact HO1.out x q
              · exact HDON.out x q
            clear hn6 hst hsl hone1 hbz hbE hb
            go_upto_region 9 with fail
            go_region_law (first
              | (refine step_appendLayVs rfl (.tmp 69) (.tmp 74) rfl w.heap.size (.slice (some ⟨g, 0, none⟩) j cp) (out.take j) (by simp [Act.eval]) (OwnLayVs.below HT.out (((Below.refl _ wE).alloc (Nat.le_refl _) _).drew)) (.slice (some ⟨wE.heap.size, 0, none⟩) 1 1) [(⟨⟨yn, yr, ye⟩, .slice ya yl yc⟩ : LayV)] (by simp [Act.eval]) ((LayVsAt.new wE ⟨⟨yn, yr, ye⟩, .slice ya yl yc⟩).keep (fun b i _ => rfl)) (by simp; omega) (by simp; omega) HO1.out ?_; intro va vn vc w5 hown5 hB5 hgr5 hnil5; have hn5 := (OwnLayVs.below HN6.out (((Below.refl _ wE).alloc (Nat.le_refl _) (.cells #[.string yn, .int .i64 yr, .slice ya yl yc] 63)).drew)).kept hgr5 (.inr (by simp [Value.ownBlock]; exact HG6.out)); have hB5' := ((HBE.out.alloc hws (.cells #[.string yn, .int .i64 yr, .slice ya yl yc] 63)).drew).trans hB5)
              | (refine step_appendLayVs rfl (.tmp 75) (.tmp 76) rfl w.heap.size (.slice va vn vc) (out.take j ++ [(⟨⟨yn, yr, ye⟩, .slice ya yl yc⟩ : LayV)]) (by simp [Act.eval]) hown5 (.slice (some ⟨g6, 0, none⟩) (out.length - j) c6) (out.drop j) (by simp [Act.eval]) hn5.at (by simp; omega) hB5'.size HDON.out ?_; intro va6 vn6 vc6 w6 hown6 hB6 hgr6 hnil6; obtain ⟨g7, c7, e7, hg7⟩ := hown6.solid (fun e => by have := hnil5 (hnil6 e); simp at this); rw [HSL2.out] at e7; simp only [Value.slice.injEq] at e7; obtain ⟨rfl, rfl, rfl⟩ := e7; have hB6' := hB5'.trans hB6))
            all_goals
              go_wp2_with fail
              exact ⟨⟨k + 1, g7, vc6, (out.take j ++ [(⟨⟨yn, yr, ye⟩, .slice ya yl yc⟩ : LayV)]) ++ out.drop j, rfl, by rw [HSL2.out], by omega, by rw [HSL2.out]; have := HKK.out; omega, by rw [HSL2.out]; exact hown6, HON2.out, by rw [← HST.out]; exact HNX.out, hB6'⟩, by simp [intOf]; omega⟩
    · obtain rfl : k = lv.length := by omega
      have hkn' : ¬ ((lv.length : Int) < (lv.length : Int)) := by omega
      have hfin := HFO.out
      simp at hfin
      subst hfin
      go_wp2_with fail
      go_ret
      exact ⟨⟨_, rfl, HOW.out⟩, hb⟩
end Go.Proofs.YtoopdcbgnccmiaaGreatDoor

namespace Go.Proofs.YtoopdcbgnccmiaaGreatDoor
open Go.ChangeShapes Go.WideShapes Go.ChangeAt Go.RowKit
set_option linter.unusedVariables false

def newS (e : Entry) (nm : ByteArray) : Setting := ⟨e.path, e.text, nm⟩
def hits (o : Setting) (e : Entry) : Bool := withinB o.path e.path || withinB e.path o.path
/-- What is left of the settings behind an entry, and whether it is put. -/
def restUp (out : List Setting) (e : Entry) (nm : ByteArray) : Nat → List Setting × Bool
  | 0 => ([], e.text.toList == [126])
  | j + 1 => match out[j]? with
    | none => restUp out e nm j
    | some o => bif hits o e then restUp out e nm j
      else bif !(restUp out e nm j).2 && Go.Op.bytesLess e.path.toList o.path.toList then (((restUp out e nm j).1 ++ [newS e nm]) ++ [o], true)
      else ((restUp out e nm j).1 ++ [o], (restUp out e nm j).2)
def layStep (nm : ByteArray) (out : List Setting) (e : Entry) : List Setting :=
  bif (restUp out e nm out.length).2 then (restUp out e nm out.length).1 else (restUp out e nm out.length).1 ++ [newS e nm]
def layLayer (out : List Setting) (x : Layer) : List Setting := x.entries.foldl (layStep x.name) out
def laidF (l : List Layer) : List Setting := l.foldl layLayer []

section
variable {out : List Setting} {e : Entry} {nm : ByteArray}
theorem restUp_hit {j : Nat} {o : Setting} {r : List Setting} {p : Bool} (hr : restUp out e nm j = (r, p)) (ho : out[j]? = some o) (h : hits o e = true) : restUp out e nm (j + 1) = (r, p) := by
  conv => lhs; unfold restUp
  rw [ho]; simp only [h, cond_true, hr]
theorem restUp_put {j : Nat} {o : Setting} {r : List Setting} (hr : restUp out e nm j = (r, false)) (ho : out[j]? = some o) (h : hits o e = false) (hl : Go.Op.bytesLess e.path.toList o.path.toList = true) : restUp out e nm (j + 1) = ((r ++ [newS e nm]) ++ [o], true) := by
  conv => lhs; unfold restUp
  rw [ho]; simp only [h, cond_false, hr, hl, Bool.not_false, Bool.and_true, cond_true]
theorem restUp_keep {j : Nat} {o : Setting} {r : List Setting} {p : Bool} (hr : restUp out e nm j = (r, p)) (ho : out[j]? = some o) (h : hits o e = false) (hl : (!p && Go.Op.bytesLess e.path.toList o.path.toList) = false) : restUp out e nm (j + 1) = (r ++ [o], p) := by
  conv => lhs; unfold restUp
  rw [ho]; simp only [h, cond_false, hr, hl]
theorem restUp_len : ∀ (j : Nat), (restUp out e nm j).1.length ≤ j + (bif (restUp out e nm j).2 then 1 else 0)
  | 0 => by unfold restUp; simp
  | j + 1 => by
    have ih := restUp_len j
    obtain ⟨r, p, hr⟩ : ∃ r p, restUp out e nm j = (r, p) := ⟨_, _, rfl⟩
    rw [hr] at ih
    dsimp only at ih
    cases ho : out[j]? with
    | none =>
      have : restUp out e nm (j + 1) = (r, p) := by
        conv => lhs; unfold restUp
        rw [ho]; exact hr
      rw [this]; dsimp only; omega
    | some o =>
      cases hh : hits o e
      · cases hq : (!p && Go.Op.bytesLess e.path.toList o.path.toList)
        · rw [restUp_keep hr ho hh hq]; simp; omega
        · have hp : p = false := by cases p <;> simp_all
          subst hp
          rw [restUp_put hr ho hh (by simpa using hq)]
          simp at ih ⊢; omega
      · rw [restUp_hit hr ho hh]; dsimp only; omega
theorem restUp_mem {P : Setting → Prop} (h : ∀ o ∈ out, P o) (hn : P (newS e nm)) : ∀ (j : Nat), ∀ o ∈ (restUp out e nm j).1, P o
  | 0 => by unfold restUp; intro o ho; cases ho
  | j + 1 => by
    have ih := restUp_mem h hn j
    obtain ⟨r, p, hr⟩ : ∃ r p, restUp out e nm j = (r, p) := ⟨_, _, rfl⟩
    rw [hr] at ih
    dsimp only at ih
    cases ho : out[j]? with
    | none =>
      have : restUp out e nm (j + 1) = (r, p) := by
        conv => lhs; unfold restUp
        rw [ho]; exact hr
      rw [this]; exact ih
    | some o =>
      have hoP := h o (List.mem_of_getElem? ho)
      cases hh : hits o e
      · cases hq : (!p && Go.Op.bytesLess e.path.toList o.path.toList)
        · rw [restUp_keep hr ho hh hq]
          intro x hx
          rcases List.mem_append.1 hx with q | q
          · exact ih x q
          · simp at q; subst q; exact hoP
        · have hp : p = false := by cases p <;> simp_all
          subst hp
          rw [restUp_put hr ho hh (by simpa using hq)]
          intro x hx
          rcases List.mem_append.1 hx with q | q
          · rcases List.mem_append.1 q with q | q
            · exact ih x q
            · simp at q; subst q; exact hn
          · simp at q; subst q; exact hoP
      · rw [restUp_hit hr ho hh]; exact ih
theorem layStep_len : (layStep nm out e).length ≤ out.length + 1 := by
  have := restUp_len (out := out) (e := e) (nm := nm) out.length
  unfold layStep
  cases h : (restUp out e nm out.length).2
  · rw [h] at this; simp at this ⊢; omega
  · rw [h] at this; simp at this ⊢; omega
theorem layStep_mem {P : Setting → Prop} (h : ∀ o ∈ out, P o) (hn : P (newS e nm)) : ∀ o ∈ layStep nm out e, P o := by
  have := restUp_mem h hn out.length
  unfold layStep
  cases hp : (restUp out e nm out.length).2
  · simp only [cond_false]
    intro x hx
    rcases List.mem_append.1 hx with q | q
    · exact this x q
    · simp at q; subst q; exact hn
  · simp only [cond_true]; exact this
theorem layStep_put {r : List Setting} (h : restUp out e nm out.length = (r, true)) : layStep nm out e = r := by
  unfold layStep; rw [h]; rfl
theorem layStep_end {r : List Setting} (h : restUp out e nm out.length = (r, false)) : layStep nm out e = r ++ [newS e nm] := by
  unfold layStep; rw [h]; rfl
end

theorem overStep_mem {out : List LayV} {y x : LayV} (h : x ∈ overStep out y) : x ∈ out ∨ x = y := by
  unfold overStep at h
  rcases List.mem_append.1 h with q | q
  · rcases List.mem_append.1 q with q | q
    · exact .inl (List.mem_of_mem_take q)
    · simp at q; exact .inr q
  · exact .inl (List.mem_of_mem_drop q)
theorem overStep_len (out : List LayV) (y : LayV) : (overStep out y).length = out.length + 1 := by
  unfold overStep; simp; omega
theorem overFold_mem {x : LayV} : ∀ (lv out : List LayV), x ∈ lv.foldl overStep out → x ∈ out ∨ x ∈ lv
  | [], out, h => .inl h
  | y :: lv, out, h => by
    rw [List.foldl_cons] at h
    rcases overFold_mem lv _ h with q | q
    · rcases overStep_mem q with q | q
      · exact .inl q
      · exact .inr (by rw [q]; exact List.mem_cons_self ..)
    · exact .inr (List.mem_cons_of_mem _ q)
theorem overFold_len : ∀ (lv out : List LayV), (lv.foldl overStep out).length = out.length + lv.length
  | [], out => rfl
  | y :: lv, out => by rw [List.foldl_cons, overFold_len lv, overStep_len]; simp; omega
theorem over_mem {lv : List LayV} {x : LayV} (h : x ∈ overF lv) : x ∈ lv := by
  rcases overFold_mem lv [] h with q | q
  · cases q
  · exact q
theorem over_len (lv : List LayV) : (overF lv).length = lv.length := by
  unfold overF; rw [overFold_len]; simp
end Go.Proofs.YtoopdcbgnccmiaaGreatDoor

namespace Go.Proofs.YtoopdcbgnccmiaaGreatDoor
open Go.ChangeShapes Go.WideShapes Go.ChangeAt Go.RowKit
set_option linter.unusedVariables false

def preB (p q : ByteArray) : Bool := decide (q.size ≤ p.size) && ((p.extract 0 q.size).toList == q.toList)
theorem pre_self (p : ByteArray) : preB p p = true := by
  unfold preB
  have : (p.extract 0 p.size).toList = p.toList := by
    rw [toList_data, toList_data, Lib.extract_data]
    exact List.take_of_length_le (by simp)
  rw [this]; simp
theorem within_no {p q : ByteArray} (h : preB p q = false) : withinB p q = false := by
  unfold withinB
  have h1 : (p.toList == q.toList) = false := by
    rw [beq_bytes]
    refine decide_eq_false (fun e => ?_)
    subst e
    rw [pre_self] at h; cases h
  rw [h1]
  unfold preB at h
  by_cases h2 : q.size < p.size
  · rw [decide_eq_true (show q.size ≤ p.size by omega), Bool.true_and] at h
    rw [h]; simp
  · rw [decide_eq_false h2]; simp
theorem within_eq {p q : ByteArray} (h : preB p q = true) (hs : ¬ q.size < p.size) : withinB p q = true := by
  unfold preB at h
  simp only [Bool.and_eq_true, decide_eq_true_eq] at h
  have hz : q.size = p.size := by omega
  have : (p.extract 0 q.size).toList = p.toList := by
    rw [toList_data, toList_data, Lib.extract_data, hz]
    exact List.take_of_length_le (by simp)
  rw [this] at h
  unfold withinB
  rw [h.2]; rfl
theorem within_more {p q : ByteArray} (h : preB p q = true) (hs : q.size < p.size) : withinB p q = decide (byteAt p q.size = 46) := by
  unfold preB at h
  simp only [Bool.and_eq_true, decide_eq_true_eq] at h
  have h1 : (p.toList == q.toList) = false := by
    rw [beq_bytes]
    refine decide_eq_false (fun e => ?_)
    subst e; omega
  unfold withinB
  rw [h1, h.2, decide_eq_true hs]; simp
set_option maxRecDepth 100000 in
set_option maxHeartbeats 1000000 in
theorem implWithin (p q : ByteArray) (hp : p.size ≤ 1048576) (hq : q.size ≤ 1048576) (w : World) :
    Calls Tryz.prog 71 #[.agg #[.string p], .string q] w fun e w' => e = .returned (.bool (withinB p q)) ∧ Below w.heap.size w w' := by
  have hw1 : ∀ o, Below w.heap.size w (w.alloc o) := fun o => (Below.refl _ w).alloc (Nat.le_refl _) _
  have cc := fun w => Tryz.strings_CutPrefix p q w
  rw [← Lib.hasPrefix_raw] at cc
  cases hB : preB p q
  · have hB' := hB
    unfold preB at hB'
    rw [hB', Lib.trimPrefix_miss p q hB'] at cc
    rw [within_no hB]
    clear hB hB'
    go_enter Tryz.func71, Tryz.ntmps71
    go_wp2_with (go_at_call 109; go_must (refine (cc _).mono ?_; rintro e w1 ⟨rfl, rfl⟩))
    go_ret
    exact ⟨rfl, hw1 _⟩
  · have hB' := hB
    unfold preB at hB'
    have hB2 := hB'
    simp only [Bool.and_eq_true, decide_eq_true_eq] at hB2
    rw [hB', Lib.trimPrefix_hit p q hB2.1 hB2.2] at cc
    have hRl : (p.extract q.size p.size).data.toList = p.data.toList.drop q.size := by
      rw [Lib.extract_data]
      exact List.take_of_length_le (by simp)
    by_cases hs : q.size < p.size
    · rw [within_more hB hs]
      have hR0 : 0 < (p.extract q.size p.size).size := by simp only [ByteArray.size_extract]; omega
      have hRx : (p.extract q.size p.size)[0].toNat = byteAt p q.size := by
        unfold byteAt
        rw [dif_pos hs]
        have h1 := byt_list (p.extract q.size p.size) 0 hR0
        rw [hRl, List.getElem?_drop, Nat.add_zero, byt_list p q.size hs] at h1
        simp only [Option.some.injEq] at h1
        rw [h1]
      have hRz : (p.extract q.size p.size).size ≤ 1048576 := by simp only [ByteArray.size_extract]; omega
      have hRe : ((p.extract q.size p.size).toList == []) = false := by
        rw [toList_data, hRl, beq_eq_false_iff_ne]
        intro e
        have := congrArg List.length e
        simp at this
        omega
      obtain ⟨x, hx⟩ : ∃ x, byteAt p q.size = x := ⟨_, rfl⟩
      rw [hx] at hRx ⊢
      generalize p.extract q.size p.size = R at cc hR0 hRx hRz hRe
      have hR0' : (0 : Int) < (R.size : Int) := by omega
      have hRz' : (R.size : Int) ≤ 1048576 := by omega
      clear hB hB' hB2 hRl hx hs hp hq
      by_cases hx46 : x = 46
      · subst hx46
        go_enter Tryz.func71, Tryz.ntmps71
        go_wp2_with (go_at_call 109; go_must (refine (cc _).mono ?_; rintro e w1 ⟨rfl, rfl⟩))
        go_ret
        exact ⟨by simp, hw1 _⟩
      · have hxb : ((x : Int) == 46) = false := by rw [beq_eq_false_iff_ne]; omega
        rw [decide_eq_false hx46]
        go_enter Tryz.func71, Tryz.ntmps71
        go_wp2_with (go_at_call 109; go_must (refine (cc _).mono ?_; rintro e w1 ⟨rfl, rfl⟩))
        go_ret
        exact ⟨by simp, hw1 _⟩
    · rw [within_eq hB hs]
      have hRe : ((p.extract q.size p.size).toList == []) = true := by
        rw [toList_data, hRl]
        simp; omega
      generalize p.extract q.size p.size = R at cc hRe
      clear hB hB' hB2 hRl hs hp hq
      go_enter Tryz.func71, Tryz.ntmps71
      go_wp2_with (go_at_call 109; go_must (refine (cc _).mono ?_; rintro e w1 ⟨rfl, rfl⟩))
      go_ret
      exact ⟨by simp, hw1 _⟩
set_option maxRecDepth 100000 in
theorem implMeets (p q : ByteArray) (hp : p.size ≤ 1048576) (hq : q.size ≤ 1048576) (w : World) :
    Calls Tryz.prog 115 #[.agg #[.string p], .string q] w fun e w' => e = .returned (.bool (withinB p q || withinB q p)) ∧ Below w.heap.size w w' := by
  have hw1 : ∀ o, Below w.heap.size w (w.alloc o) := fun o => (Below.refl _ w).alloc (Nat.le_refl _) _
  have c1 := fun w => implWithin p q hp hq w
  have c2 := fun w => implWithin q p hq hp w
  have hbk : Blk (w.alloc (.cells #[.string p] 103)) w.heap.size 103 #[.string p] := heap_alloc_last w _
  have HBK : Hid (Blk (w.alloc (.cells #[.string p] 103)) w.heap.size 103 #[.string p]) := hbk
  obtain ⟨A, hA⟩ : ∃ A, withinB p q = A := ⟨_, rfl⟩
  obtain ⟨B, hB⟩ : ∃ B, withinB q p = B := ⟨_, rfl⟩
  rw [hA] at c1 ⊢
  rw [hB] at c2 ⊢
  clear hA hB hbk
  cases A
  · go_enter Tryz.func115, Tryz.ntmps115
    go_wp2_with (first
      | (go_at_call 71; have hchk := hb1; (refine (c2 _).mono ?_; rintro e w2 ⟨rfl, hb2⟩))
      | (go_at_call 71; go_must (refine (c1 _).mono ?_; rintro e w1 ⟨rfl, hb1⟩; have hk1 := Blk.below HBK.out hb1; have e0 := hk1.cell 0; simp at e0)))
    go_ret
    exact ⟨by simp, good_below (good_below (hw1 _) hb1) hb2⟩
  · go_enter Tryz.func115, Tryz.ntmps115
    go_wp2_with (go_at_call 71; go_must (refine (c1 _).mono ?_; rintro e w1 ⟨rfl, hb1⟩))
    go_ret
    exact ⟨by simp, good_below (hw1 _) hb1⟩

/-! Entries and layers that are right, as the program asks. -/
theorem has_of {α : Type} (f : α → ByteArray) (l : List α) (i : Nat) (t : ByteArray) : hasB ((l.map f).take i) t = (l.take i).any fun q => (f q).toList == t.toList := by
  unfold hasB
  rw [← List.map_take, List.any_map]
  rfl
theorem range_split {α : Type} (f : α → ByteArray) (g : α → Bool) (l : List α) : rangeB (fun pre x => g x && !(pre.any fun q => (f q).toList == (f x).toList)) l = (l.all g && !dupFrom (l.map f) []) := by
  cases ha : l.all g
  · rw [List.all_eq_false] at ha
    obtain ⟨x, hx, hb⟩ := ha
    obtain ⟨i, hi, rfl⟩ := List.getElem_of_mem hx
    exact range_bad hi (by rw [Bool.eq_false_iff.2 hb]; rfl)
  · cases hd : dupFrom (l.map f) []
    · refine range_all (fun i hi => ?_)
      rw [List.all_eq_true] at ha
      rw [ha _ (List.getElem_mem hi), Bool.true_and, ← has_of, Bool.not_eq_true']
      cases hh : hasB ((l.map f).take i) (f l[i])
      · rfl
      · have := (dup_iff (l.map f) []).2 ⟨i, by simpa using hi, by simpa using hh⟩
        rw [hd] at this; cases this
    · obtain ⟨i, hi, h⟩ := (dup_iff (l.map f) []).1 hd
      have hi' : i < l.length := by simpa using hi
      refine range_bad hi' ?_
      rw [← has_of]
      simp at h
      rw [h]; simp
theorem entries_split (nameB : ByteArray → Bool) (es : List Entry) : entriesB nameB es = (es.all (fun e => decide (e.text.size ≤ 200)) && ((es.map Entry.path).all (pathB nameB) && !dupFrom (es.map Entry.path) [])) := by
  have h := range_split Entry.path (fun e => pathB nameB e.path && decide (e.text.size ≤ 200)) es
  unfold entriesB
  rw [show entryB nameB = fun pre x => (pathB nameB x.path && decide (x.text.size ≤ 200)) && !(pre.any fun q => q.path.toList == x.path.toList) from rfl, h]
  rw [← Bool.and_assoc]
  congr 1
  rw [List.all_map]
  induction es with
  | nil => rfl
  | cons a t ih =>
    simp only [List.all_cons, Function.comp]
    rw [show (t.all fun e => pathB nameB e.path && decide (e.text.size ≤ 200)) = ((t.all fun e => decide (e.text.size ≤ 200)) && t.all (pathB nameB ∘ Entry.path)) from ih (range_split _ _ _)]
    cases pathB nameB a.path <;> cases decide (a.text.size ≤ 200) <;> simp [Function.comp_def]
theorem layers_split (nameB : ByteArray → Bool) (l : List Layer) (h20 : l.length ≤ 20) : layersB nameB l = (l.all (fun x => decide (x.entries.length ≤ 100) && entriesB nameB x.entries) && ((l.map Layer.name).all nameB && !dupFrom (l.map Layer.name) [])) := by
  have h := range_split Layer.name (fun x => nameB x.name && (decide (x.entries.length ≤ 100) && entriesB nameB x.entries)) l
  unfold layersB
  rw [decide_eq_true h20, Bool.true_and]
  have e : layerB nameB = fun pre x => (nameB x.name && (decide (x.entries.length ≤ 100) && entriesB nameB x.entries)) && !(pre.any fun q => q.name.toList == x.name.toList) := by
    funext pre x
    unfold layerB
    cases nameB x.name <;> cases decide (x.entries.length ≤ 100) <;> cases (pre.any fun q => q.name.toList == x.name.toList) <;> cases entriesB nameB x.entries <;> rfl
  rw [e, h, ← Bool.and_assoc]
  congr 1
  rw [List.all_map]
  clear h h20 e
  induction l with
  | nil => rfl
  | cons a t ih =>
    simp only [List.all_cons, Function.comp]
    rw [ih]
    cases nameB a.name <;> cases (decide (a.entries.length ≤ 100) && entriesB nameB a.entries) <;> simp [Function.comp_def]
end Go.Proofs.YtoopdcbgnccmiaaGreatDoor
