/-
  What impl.firstTwice, areNeeds and isRelease answer. No statement of the seat is proved here.
-/
import Derived.Test.YtmgboljcdhegiaaDoorIm0
import Derived.Test.YtmgboljcdhegiaaDoorCnt
import Derived.Test.YtmgboljcdhegiaaDoorSt4
namespace Go.Proofs.YtmgboljcdhegiaaDoor
open Go.ChangeShapes Go.WideShapes Go.ChangeAt Go.RowKit
set_option linter.unusedVariables false

/-- A name of ss, behind those of seen, has stood ahead. -/
def dupFrom : List ByteArray → List ByteArray → Bool
  | [], _ => false
  | x :: l, seen => if hasB seen x then true else dupFrom l (seen ++ [x])
/-- f holds 1 of each text of seen, 0 of all others. -/
def Seen (f : Lit → Int) (seen : List ByteArray) : Prop := ∀ t : ByteArray, f (textKey t) = if hasB seen t then 1 else 0
theorem Seen.nil : Seen (fun _ => 0) [] := fun t => by simp [hasB]
theorem hasB_snoc (seen : List ByteArray) (x t : ByteArray) : hasB (seen ++ [x]) t = (hasB seen t || decide (x = t)) := by
  unfold hasB
  rw [List.any_append]
  simp [beq_bytes]
theorem Seen.put {f : Lit → Int} {seen : List ByteArray} (h : Seen f seen) (x : ByteArray) : Seen (upd f (textKey x) 1) (seen ++ [x]) := by
  intro t
  by_cases e : t = x
  · subst e
    rw [upd_same (by exact trivial), hasB_snoc]
    simp
  · rw [upd_other (fun h => e (textKey_inj h)), h t]
    have e' : x ≠ t := fun h => e h.symm
    rw [hasB_snoc]
    simp [e']

set_option maxRecDepth 100000 in
set_option maxHeartbeats 1000000 in
theorem implTwice (ss : List ByteArray) (a : Option Addr) (cap : Nat) (w : World) (hlen : ss.length ≤ 1000000) (hsz : ∀ s ∈ ss, s.size ≤ 1048576)
    (hc : 0 < ss.length → ∃ g, a = some ⟨g, 0, none⟩ ∧ g < w.heap.size ∧ ∀ j (hj : j < ss.length), w.cell? ⟨g, j, none⟩ = some (.string ss[j])) :
    Calls Tryd.prog 38 #[.slice a ss.length cap] w fun e w' => (∃ t, e = .returned (.tuple #[.string t, .bool (dupFrom ss [])])) ∧ Below w.heap.size w w' := by
  have hmm := @run_makeMap Tryd.prog
  have HC : Hid _ := hc
  have hlen' : (ss.length : Int) ≤ 1000000 := by omega
  have HZ : Hid _ := hsz
  clear hc hsz
  obtain ⟨F, hF⟩ : ∃ F, dupFrom ss [] = F := ⟨_, rfl⟩
  rw [hF]
  have HF : Hid (dupFrom ss [] = F) := hF
  clear hF
  go_enter Tryd.func38, Tryd.ntmps38
  go_wp2_with fail
  go_loopw [10] (fun i10 wr => ∃ (k : Nat) (f : Lit → Int), i10 = .int .i64 (k : Int) ∧ k ≤ ss.length ∧ Counts wr 9 w.heap.size k f ∧ Seen f (ss.take k) ∧ dupFrom (ss.drop k) (ss.take k) = F ∧ Below w.heap.size w wr) (fun i10 _ => ss.length - (intOf i10).toNat)
  case atStart => exact ⟨0, _, rfl, by omega, Counts.made _ _, by simpa using Seen.nil, by simpa using HF.out, (Below.refl _ w).alloc (Nat.le_refl _) _⟩
  case round =>
    obtain ⟨k, f, rfl, hk, hcn, hse, hfr, hb⟩ := hrel
    by_cases hkn : k < ss.length
    · have hkn' : (k : Int) < (ss.length : Int) := by omega
      obtain ⟨g, rfl, hgw, hcell⟩ := HC.out (by omega)
      have x1 := hcell k hkn
      rw [List.drop_eq_getElem_cons hkn] at hfr
      have hz := HZ.out ss[k] (List.getElem_mem hkn)
      have htk : ss.take (k + 1) = ss.take k ++ [ss[k]] := List.take_succ_eq_append_getElem hkn
      obtain ⟨s, hs⟩ : ∃ s, ss[k] = s := ⟨_, rfl⟩
      rw [hs] at x1 hfr hz htk
      clear hs hcell
      have d1 := (hb.cell (p := ⟨g, k, none⟩) hgw).trans x1
      have hkey : keyOf Tryd.prog 9 (.string s) = some (textKey s) := key9 (by simp [maxLen]; omega)
      have hfs := hse s
      simp only [dupFrom] at hfr
      obtain ⟨B1, hB1⟩ : ∃ B1, hasB (ss.take k) s = B1 := ⟨_, rfl⟩
      rw [hB1] at hfr hfs
      have hlk := (hcn.look law9 Tryd.underlying70 hkey).1
      clear x1 hB1
      have HCN : Hid _ := hcn
      have HSE : Hid _ := hse
      have HFR : Hid _ := hfr
      have HTK : Hid _ := htk
      have HKY : Hid _ := hkey
      clear hcn hse hfr htk hkey
      cases B1
      · rw [if_neg (by simp)] at hfs
        rw [hfs] at hlk
        clear hfs
        go_wp2_with (first
          | (at_mapUpdate; go_must (refine wpList_storeC _ rfl _ _ _ 70 rfl 9 law9 Tryd.underlying70 w.heap.size k f rfl HCN.out (by simp [maxLen]; omega) _ 1 _ rfl rfl HKY.out (by decide) ?_; intro w1 hc1 hg1; have HC1 : Hid _ := hc1; clear hc1))
          | (at_lookup; have hchk := HC1; refine wpList_lookC _ rfl _ _ 70 rfl 9 law9 Tryd.underlying70 w.heap.size (k + 1) _ rfl HC1.out _ _ rfl HKY.out ?_; rw [upd_same (by exact trivial)]))
        have hbb := hb.grown hg1 hb.size (fun j hj => by cases hj; exact Nat.le_refl _)
        refine ⟨⟨k + 1, _, rfl, by omega, HC1.out, ?_, ?_, hbb⟩, by simp [intOf]; omega⟩
        · rw [HTK.out]; exact Seen.put HSE.out s
        · have := HFR.out
          rw [if_neg (by simp)] at this
          rw [HTK.out]; exact this
      · rw [if_pos rfl] at hfs
        rw [hfs] at hlk
        clear hfs
        have hF := HFR.out
        rw [if_pos rfl] at hF
        subst hF
        go_wp2_with (first
          | (at_mapUpdate; go_must (refine wpList_storeC _ rfl _ _ _ 70 rfl 9 law9 Tryd.underlying70 w.heap.size k f rfl HCN.out (by simp [maxLen]; omega) _ 2 _ rfl rfl HKY.out (by decide) ?_; intro w1 hc1 hg1; have HC1 : Hid _ := hc1; clear hc1))
          | (at_lookup; have hchk := HC1; refine wpList_lookC _ rfl _ _ 70 rfl 9 law9 Tryd.underlying70 w.heap.size (k + 1) _ rfl HC1.out _ _ rfl HKY.out ?_; rw [upd_same (by exact trivial)]))
        have hbb := hb.grown hg1 hb.size (fun j hj => by cases hj; exact Nat.le_refl _)
        go_ret2
        exact ⟨⟨_, rfl⟩, hbb⟩
    · have hkn' : ¬ ((k : Int) < (ss.length : Int)) := by omega
      rw [List.drop_eq_nil_of_le (by omega)] at hfr
      simp only [dupFrom] at hfr
      subst hfr
      go_wp2_with fail
      go_ret2
      exact ⟨⟨_, rfl⟩, hb⟩

theorem wishes_split (nameB : ByteArray → Bool) : ∀ (l : List Imp) (seen : List ByteArray), wishesFrom nameB l seen = (l.all (needB nameB) && !dupFrom (l.map Imp.name) seen)
  | [], seen => by simp [wishesFrom, dupFrom]
  | x :: l, seen => by
    simp only [wishesFrom, List.all_cons, List.map_cons, dupFrom]
    rw [wishes_split nameB l]
    cases needB nameB x <;> cases hasB seen x.name <;> simp

theorem cell_lt {w : World} {g j : Nat} {v : Value} (h : w.cell? ⟨g, j, none⟩ = some v) : g < w.heap.size := by
  cases hh : w.heap[g]? with
  | none => simp [World.cell?, hh] at h
  | some o => exact (Array.getElem?_eq_some_iff.1 hh).1

set_option maxRecDepth 100000 in
set_option maxHeartbeats 1000000 in
theorem implWishes {S : Nat → Prop} {l : List Imp} {v : Value} {w : World} (hS : ∀ b, S b → b < w.heap.size) (h : ImpsAt S w v l) (hsz : ∀ x ∈ l, x.name.size ≤ 1048576) (hT : Lib.Utf8Tabs 0 1 w) :
    Calls Tryd.prog 24 #[v] w fun e w' => e = .returned (.bool (wishesB nameOK l)) ∧ Below w.heap.size w w' := by
  obtain ⟨hlm, a, cap, rfl, hc⟩ := h
  have HC : Hid _ := hc
  have HT : Hid (Lib.Utf8Tabs 0 1 w) := hT
  have HZ : Hid _ := hsz
  have hlm' : (l.length : Int) ≤ 9223372036854775807 := by simp [maxLen] at hlm; omega
  clear hc hlm hT hsz
  unfold wishesB
  by_cases h20 : 20 < l.length
  · rw [if_pos h20]
    have h20' : (20 : Int) < (l.length : Int) := by omega
    go_enter Tryd.func24, Tryd.ntmps24
    go_wp2_with fail
    go_ret
    exact ⟨rfl, Below.refl _ _⟩
  · rw [if_neg h20, wishes_split]
    have h20' : ¬ ((20 : Int) < (l.length : Int)) := by omega
    obtain ⟨F, hF⟩ : ∃ F, (l.all (needB nameOK) && !dupFrom (l.map Imp.name) []) = F := ⟨_, rfl⟩
    rw [hF]
    have HF : Hid _ := hF
    clear hF
    go_enter Tryd.func24, Tryd.ntmps24
    go_wp2_with fail
    go_loopw [3, 13] (fun i3 i13 wr => ∃ (k : Nat), i13 = .int .i64 (k : Int) ∧ k ≤ l.length ∧ OwnS w.heap.size wr i3 ((l.take k).map Imp.name) ∧ (l.take k).all (needB nameOK) = true ∧ Below w.heap.size w wr) (fun _ i13 _ => l.length - (intOf i13).toNat)
    case atStart => exact ⟨0, rfl, by omega, ⟨rfl, .inl ⟨rfl, rfl⟩⟩, by simp, Below.refl _ _⟩
    case round =>
      obtain ⟨k, rfl, hk, hown, hall, hb⟩ := hrel
      have HAL : Hid _ := hall
      clear hall
      by_cases hkn : k < l.length
      · have hkn' : (k : Int) < (l.length : Int) := by omega
        obtain ⟨b, off, rfl, hbB, hcell⟩ := HC.out (by omega)
        obtain ⟨x1, x2, x3⟩ := hcell k hkn
        have hbw := hS b hbB
        have htk : l.take (k + 1) = l.take k ++ [l[k]] := List.take_succ_eq_append_getElem hkn
        have hmem := List.getElem_mem hkn
        obtain ⟨x, hx⟩ : ∃ x, l[k] = x := ⟨_, rfl⟩
        rw [hx] at x1 x2 x3 htk hmem
        have HTK : Hid _ := htk
        have HM : Hid _ := hmem
        clear hx hcell htk hmem
        obtain ⟨nm, mn, mx⟩ := x
        dsimp only at x1 x2 x3
        have d1 := (hb.cell (p := ⟨b, off + k * 3, none⟩) hbw).trans x1
        have d2 := (hb.cell (p := ⟨b, off + k * 3 + 1, none⟩) hbw).trans x2
        have d3 := (hb.cell (p := ⟨b, off + k * 3 + 2, none⟩) hbw).trans x3
        obtain ⟨a3, c3, hv3, hs3⟩ := hown.value
        have hlen : ((l.take k).map Imp.name).length = k := by simp; omega
        rw [hlen] at hv3
        have HLN : Hid _ := hlen
        subst hv3
        clear hs3 hlen
        have HOW : Hid (OwnS w.heap.size wr (.slice a3 k c3) ((l.take k).map Imp.name)) := hown
        clear hown x1 x2 x3
        have cn := fun w' (hbb : Below w.heap.size w w') => implNeed nm mn mx w' (Utf8Tabs_below HT.out hbb)
        obtain ⟨B1, hB1⟩ : ∃ B1, needB nameOK ⟨nm, mn, mx⟩ = B1 := ⟨_, rfl⟩
        rw [hB1] at cn
        have HB1 : Hid _ := hB1
        clear hB1
        cases B1
        · have hno : l.all (needB nameOK) = false := by
            rw [List.all_eq_false]
            exact ⟨_, HM.out, by rw [HB1.out]; simp⟩
          have hF := HF.out
          rw [hno, Bool.false_and] at hF
          subst hF
          clear hno
          go_wp2_with (go_at_call 37; go_must (refine (cn _ (hb.alloc hb.size _)).mono ?_; rintro e w1 ⟨rfl, hb1⟩))
          go_ret
          exact ⟨by simp, (hb.alloc hb.size _).trans (hb1.mono (by have := hb.size; simp only [World.size_alloc]; omega))⟩
        · obtain ⟨ti, hti, ht0, ht1, ht2⟩ := info9
          go_wp2_with (first
            | (go_at_call 37; go_must (refine (cn _ (hb.alloc hb.size _)).mono ?_; rintro e w1 ⟨rfl, hb1⟩; have hk1 : Blk w1 wr.heap.size 39 #[.string nm, .int .i64 mn, .int .i64 mx] := Blk.below (heap_alloc_last wr _) hb1; have e1 := hk1.cell 0; simp at e1))
            | (at_builtin; go_must (refine wpList_appendS rfl (.tmp 20) (.tmp 23) 48 rfl Tryd.underlying48 ti hti ht0 ht1 ht2 w.heap.size (.slice a3 k c3) ((l.take k).map Imp.name) rfl ((HOW.out.below ((Below.refl _ wr).alloc (Nat.le_refl _) _)).below hb1 |>.below ((Below.refl _ w1).alloc (Nat.le_refl _) _)) ⟨w1.heap.size, 0, none⟩ 1 nm rfl (new_cell w1 nm) (by have := HLN.out; omega) (by have := hb.size; have := hb1.size; simp only [World.size_alloc] at *; omega) ?_; intro v4 w4 hown4 hB4 hgr4)))
          have hbb := (hb.alloc hb.size (.cells #[.string nm, .int .i64 mn, .int .i64 mx] 39)).trans (hb1.mono (by have := hb.size; simp only [World.size_alloc]; omega))
          refine ⟨⟨k + 1, rfl, by omega, ?_, ?_, (hbb.alloc hbb.size _).trans hB4⟩, by simp [intOf]; omega⟩
          · rw [HTK.out, List.map_append]; exact hown4
          · rw [HTK.out, List.all_append, HAL.out]; simp [HB1.out]
      · have hkl : k = l.length := by omega
        subst hkl
        have hall := HAL.out
        simp only [List.take_length] at hown hall
        have hkn' : ¬ ((l.length : Int) < (l.length : Int)) := by omega
        obtain ⟨a3, c3, hv3, hs3⟩ := hown.value
        subst hv3
        have hF := HF.out
        rw [hall, Bool.true_and] at hF
        have ct := implTwice (l.map Imp.name) a3 c3 wr (by simp; omega) (fun s hs => by
          obtain ⟨x, hx, rfl⟩ := List.mem_map.1 hs
          exact HZ.out x hx) (fun h0 => by
            obtain ⟨g, hg, hcc⟩ := hs3 h0
            exact ⟨g, hg, cell_lt (hcc 0 h0), hcc⟩)
        obtain ⟨D, hD⟩ : ∃ D, dupFrom (l.map Imp.name) [] = D := ⟨_, rfl⟩
        rw [hD] at ct hF
        rw [List.length_map] at ct
        clear hD hall hown hs3
        subst hF
        go_wp2_with (go_at_call 38; go_must (refine ct.mono ?_; rintro e w1 ⟨⟨t, rfl⟩, hb1⟩))
        go_ret
        exact ⟨rfl, good_below hb hb1⟩

/-- A release by itself. -/
def soloB (nameB : ByteArray → Bool) (r : Rel) : Bool := nameB r.name && (decide (1 ≤ r.ver) && decide (r.ver ≤ 999999)) && wishesB nameB r.needs && !(r.needs.any (ownB r.name))
theorem rel_solo (nameB : ByteArray → Bool) (pre : List Rel) (r : Rel) : relB nameB pre r = (soloB nameB r && !(pre.any fun q => q.name.toList == r.name.toList && q.ver == r.ver)) := by
  unfold relB soloB ownB
  cases nameB r.name <;> cases decide (1 ≤ r.ver) <;> simp

set_option maxRecDepth 100000 in
set_option maxHeartbeats 1000000 in
theorem implRelease {S : Nat → Prop} (x : Rel) (nv : Value) (w : World) (hS : ∀ b, S b → b < w.heap.size) (h : ImpsAt S w nv x.needs) (hsz : ∀ y ∈ x.needs, y.name.size ≤ 1048576) (hT : Lib.Utf8Tabs 0 1 w) :
    Calls Tryd.prog 13 #[.agg #[.string x.name, .int .i64 x.ver, nv]] w fun e w' => e = .returned (.bool (soloB nameOK x)) ∧ Below w.heap.size w w' := by
  obtain ⟨nm, ve, ns⟩ := x
  dsimp only at h hsz ⊢
  have hmf : ∀ (fn : Fn) (first cap : Array Value) (w : World), (Instr.makeFunc fn first cap).run Tryd.prog w = .ok (.func fn first cap) w := fun _ _ _ _ => rfl
  have hw1 : ∀ o, Below w.heap.size w (w.alloc o) := fun o => (Below.refl _ w).alloc (Nat.le_refl _) _
  have cn := fun w' (hb : Below w.heap.size w w') => implNameOK nm w' (Utf8Tabs_below hT hb)
  have cb := fun w' => implBetween ve 1 999999 w'
  have ca := fun w' (hb : Below w.heap.size w w') => implWishes (fun b hbs => Nat.lt_of_lt_of_le (hS b hbs) hb.size) (h.keep (cells_below hS hb)) hsz (Utf8Tabs_below hT hb)
  have cc := fun w' (hb : Below w.heap.size w w') (hcell : w'.cell? ⟨w.heap.size, 0, none⟩ = some (.string nm)) => implContains (fun b hbs => Nat.lt_of_lt_of_le (hS b hbs) hb.size) (h.keep (cells_below hS hb)) w.heap.size nm hcell (cell_lt hcell)
  unfold soloB
  dsimp only
  obtain ⟨B1, hB1⟩ : ∃ B1, nameOK nm = B1 := ⟨_, rfl⟩
  obtain ⟨B2, hB2⟩ : ∃ B2, (decide (1 ≤ ve) && decide (ve ≤ 999999)) = B2 := ⟨_, rfl⟩
  obtain ⟨B3, hB3⟩ : ∃ B3, wishesB nameOK ns = B3 := ⟨_, rfl⟩
  obtain ⟨B4, hB4⟩ : ∃ B4, ns.any (ownB nm) = B4 := ⟨_, rfl⟩
  rw [hB1, hB2, hB3, hB4]
  rw [hB1] at cn
  rw [hB2] at cb
  rw [hB3] at ca
  rw [hB4] at cc
  clear hB1 hB2 hB3 hB4 h hsz hT
  have hk : ∀ W, Below (w.heap.size + 1) (w.alloc (.cells #[.string nm, .int .i64 ve, nv] 35)) W → Blk W w.heap.size 35 #[.string nm, .int .i64 ve, nv] := fun W hb => Blk.below (heap_alloc_last w _) (by simpa only [World.size_alloc] using hb)
  cases B1
  · go_enter Tryd.func13, Tryd.ntmps13
    go_wp2_with (go_at_call 22; go_must (refine (cn _ (hw1 _)).mono ?_; rintro e w1 ⟨rfl, hb1⟩))
    go_ret
    exact ⟨by simp, good_below (hw1 _) hb1⟩
  cases B2
  · go_enter Tryd.func13, Tryd.ntmps13
    go_wp2_with (first
      | (go_at_call 22; go_must (refine (cn _ (hw1 _)).mono ?_; rintro e w1 ⟨rfl, hb1⟩; have hk1 : Blk w1 w.heap.size 35 #[.string nm, .int .i64 ve, nv] := Blk.below (heap_alloc_last w _) hb1; have e1 := hk1.cell 1; simp at e1))
      | (go_at_call 23; go_must (refine (cb _).mono ?_; rintro e w2 ⟨rfl, rfl⟩)))
    go_ret
    exact ⟨by simp, good_below (hw1 _) hb1⟩
  cases B3
  · go_enter Tryd.func13, Tryd.ntmps13
    go_wp2_with (first
      | (go_at_call 22; go_must (refine (cn _ (hw1 _)).mono ?_; rintro e w1 ⟨rfl, hb1⟩; have hk1 : Blk w1 w.heap.size 35 #[.string nm, .int .i64 ve, nv] := Blk.below (heap_alloc_last w _) hb1; have e1 := hk1.cell 1; have e2 := hk1.cell 2; simp at e1 e2))
      | (go_at_call 23; go_must (refine (cb _).mono ?_; rintro e w2 ⟨rfl, rfl⟩))
      | (go_at_call 24; go_must (refine (ca _ (good_below (hw1 _) hb1)).mono ?_; rintro e w3 ⟨rfl, hb3⟩)))
    go_ret
    exact ⟨by simp, good_below (good_below (hw1 _) hb1) hb3⟩
  · go_enter Tryd.func13, Tryd.ntmps13
    go_wp2_with (first
      | (go_at_call 22; go_must (refine (cn _ (hw1 _)).mono ?_; rintro e w1 ⟨rfl, hb1⟩; have hk1 : Blk w1 w.heap.size 35 #[.string nm, .int .i64 ve, nv] := Blk.below (heap_alloc_last w _) hb1; have e1 := hk1.cell 1; have e2 := hk1.cell 2; simp at e1 e2))
      | (go_at_call 23; go_must (refine (cb _).mono ?_; rintro e w2 ⟨rfl, rfl⟩))
      | (go_at_call 24; go_must (refine (ca _ (good_below (hw1 _) hb1)).mono ?_; rintro e w3 ⟨rfl, hb3⟩; have hk3 : Blk w3 w.heap.size 35 #[.string nm, .int .i64 ve, nv] := hk1.below hb3; have e3 := hk3.cell 2; have e4 := hk3.cell 0; simp at e3 e4))
      | (go_at_call 25; go_must (refine (cc _ (good_below (good_below (hw1 _) hb1) hb3) e4).mono ?_; rintro e w4 ⟨rfl, hb4⟩)))
    go_ret
    exact ⟨by cases B4 <;> rfl, good_below (good_below (good_below (hw1 _) hb1) hb3) hb4⟩
end Go.Proofs.YtmgboljcdhegiaaDoor
