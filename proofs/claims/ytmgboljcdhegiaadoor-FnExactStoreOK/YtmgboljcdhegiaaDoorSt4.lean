/-
  What spec asks of stores. No statement of the seat is proved here.
-/
import Derived.Test.YtmgboljcdhegiaaDoorSt3
namespace Go.Proofs.YtmgboljcdhegiaaDoor
open Go.ChangeShapes Go.WideShapes Go.ChangeAt Go.RowKit
set_option linter.unusedVariables false


/-- A release is right, behind those that stood ahead. -/
def relB (nameB : ByteArray → Bool) (pre : List Rel) (r : Rel) : Bool :=
  nameB r.name && decide (1 ≤ r.ver) && decide (r.ver ≤ 999999) && wishesB nameB r.needs && !(r.needs.any fun x => x.name.toList == r.name.toList) && !(pre.any fun q => q.name.toList == r.name.toList && q.ver == r.ver)
def storeB (nameB : ByteArray → Bool) (l : List Rel) : Bool := decide (l.length ≤ 200) && (List.range l.length).all fun i => match l[i]? with | some r => relB nameB (l.take i) r | none => true
theorem store_bad {nameB : ByteArray → Bool} {l : List Rel} {i : Nat} (hi : i < l.length) (h : relB nameB (l.take i) l[i] = false) : storeB nameB l = false := by
  unfold storeB
  cases hd : decide (l.length ≤ 200)
  · rfl
  · simp only [Bool.true_and]
    rw [List.all_eq_false]
    exact ⟨i, by simpa using hi, by simp [List.getElem?_eq_getElem hi, h]⟩
theorem store_good {nameB : ByteArray → Bool} {l : List Rel} (h2 : l.length ≤ 200) (h : ∀ i (hi : i < l.length), relB nameB (l.take i) l[i] = true) : storeB nameB l = true := by
  unfold storeB
  rw [decide_eq_true h2, Bool.true_and, List.all_eq_true]
  intro i hi
  have hi' : i < l.length := by simpa using hi
  simp [List.getElem?_eq_getElem hi', h i hi']

theorem bel_drewN {B : Nat} {w0 w : World} (h : Below B w0 w) (n : Nat) : Below B w0 (w.drewN n) := by
  induction n with
  | zero => exact h
  | succ n ih => exact ih.drew
theorem rel_need {nameB : ByteArray → Bool} (pre : List Rel) (r : Rel) (j : Nat) (hj : j < r.needs.length) (h : (r.needs[j].name.toList == r.name.toList) = true) : relB nameB pre r = false := by
  have : (r.needs.any fun x => x.name.toList == r.name.toList) = true := List.any_eq_true.2 ⟨_, List.getElem_mem hj, h⟩
  unfold relB
  rw [this]
  simp
theorem rel_twice {nameB : ByteArray → Bool} {l : List Rel} {k : Nat} (r : Rel) (m : Nat) (_u : Unit) (hm : m < k) (hml : m < l.length) (h : (l[m].name.toList == r.name.toList && l[m].ver == r.ver) = true) : relB nameB (l.take k) r = false := by
  have : ((l.take k).any fun q => q.name.toList == r.name.toList && q.ver == r.ver) = true := List.any_eq_true.2 ⟨l[m], by rw [List.mem_take_iff_getElem]; exact ⟨m, by omega, rfl⟩, h⟩
  unfold relB
  rw [this]
  simp
theorem rel_good {nameB : ByteArray → Bool} {l : List Rel} {k : Nat} {nm : ByteArray} {ve : Int} {ns : List Imp} (_u _v : Unit) (h1 : nameB nm = true) (h2 : 1 ≤ ve) (h3 : ve ≤ 999999) (h4 : wishesB nameB ns = true) (h5 : ∀ x ∈ ns, (x.name.toList == nm.toList) = false)
    (h6 : ∀ i (hi : i < l.length), i < k → (l[i].name.toList == nm.toList && l[i].ver == ve) = false) : relB nameB (l.take k) ⟨nm, ve, ns⟩ = true := by
  have e5 : (ns.any fun x => x.name.toList == nm.toList) = false := List.any_eq_false.2 (fun x hx => by rw [h5 x hx]; simp)
  have e6 : ((l.take k).any fun q => q.name.toList == nm.toList && q.ver == ve) = false := List.any_eq_false.2 (fun q hq => by
    rw [List.mem_take_iff_getElem] at hq
    obtain ⟨i, hi, rfl⟩ := hq
    rw [h6 i (by omega) (by omega)]; simp)
  unfold relB
  dsimp only
  rw [h1, h4, e5, e6, decide_eq_true h2, decide_eq_true h3]
  rfl

set_option maxRecDepth 100000 in
set_option maxHeartbeats 2000000 in
theorem specStore {nameB : ByteArray → Bool} (hN : NameSpec nameB) {S : Nat → Prop} {l : List Rel} {v : Value} {w : World} (hS : ∀ b, S b → b < w.heap.size) (h : RelsAt S w v l) :
    Calls Tryd.prog 5 #[v] w fun e w' => e = .returned (.bool (storeB nameB l)) ∧ Below w.heap.size w w' := by
  obtain ⟨hlm, a, cap, rfl, hc⟩ := h
  have HC : Hid _ := hc
  have HN : Hid (NameSpec nameB) := hN
  have hlm' : (l.length : Int) ≤ 9223372036854775807 := by simp [maxLen] at hlm; omega
  clear hc hlm hN
  by_cases h200 : 200 < l.length
  · have e : storeB nameB l = false := by unfold storeB; rw [decide_eq_false (by omega)]; rfl
    rw [e]
    have h200' : (200 : Int) < (l.length : Int) := by omega
    go_enter Tryd.func5, Tryd.ntmps5
    go_wp2_with fail
    go_ret
    exact ⟨rfl, Below.refl _ _⟩
  · have h200' : ¬ ((200 : Int) < (l.length : Int)) := by omega
    go_enter Tryd.func5, Tryd.ntmps5
    go_wp2_with fail
    go_loopw [3, 4] (fun i3 _ wr => ∃ k : Nat, i3 = .int .i64 (k : Int) ∧ k ≤ l.length ∧ (∀ i (hi : i < l.length), i < k → relB nameB (l.take i) l[i] = true) ∧ Below w.heap.size w wr) (fun i3 _ _ => l.length - (intOf i3).toNat)
    case atStart => exact ⟨0, rfl, by omega, fun i _ h => by omega, Below.refl _ _⟩
    case round =>
      obtain ⟨k, rfl, hk, hall, hb⟩ := hrel
      have HA : Hid (∀ i (hi : i < l.length), i < k → relB nameB (l.take i) l[i] = true) := hall
      clear hall
      by_cases hkn : k < l.length
      · have hkn' : (k : Int) < (l.length : Int) := by omega
        obtain ⟨b, off, rfl, hbB, hcell⟩ := HC.out (by omega)
        obtain ⟨x1, x2, nv, x3, x4⟩ := hcell k hkn
        have hbw := hS b hbB
        have d1 := (hb.cell (p := ⟨b, off + k * 3, none⟩) hbw).trans x1
        have d2 := (hb.cell (p := ⟨b, off + k * 3 + 1, none⟩) hbw).trans x2
        have d3 := (hb.cell (p := ⟨b, off + k * 3 + 2, none⟩) hbw).trans x3
        have hbad := fun h => store_bad (nameB := nameB) hkn h
        obtain ⟨x, hx⟩ : ∃ x, l[k] = x := ⟨_, rfl⟩
        rw [hx] at d1 d2 x4 hbad
        have HXK : Hid (l[k] = x) := hx
        clear hx x1 x2 x3
        obtain ⟨nm, ve, ns⟩ := x
        dsimp only at d1 d2 x4
        have HBAD : Hid _ := hbad
        have HCELL : Hid _ := hcell
        clear hbad hcell
        have cn := fun w => HN.out nm w
        have hw2 : ∀ W, Below wr.heap.size wr W → Below w.heap.size w W := fun W h => good_below hb h
        have cw : ∀ W, Below wr.heap.size wr W → Calls Tryd.prog 11 #[nv] W fun e w' => e = .returned (.bool (wishesB nameB ns)) ∧ Below W.heap.size W w' := fun W h => specWishes HN.out (fun b hbb => Nat.lt_of_lt_of_le (hS b hbb) (hw2 W h).size) (x4.keep (cells_below hS (hw2 W h)))
        obtain ⟨a4, c4, hv4⟩ := x4.shape
        subst hv4
        have HX4 : Hid _ := x4
        clear x4
        obtain ⟨B1, hB1⟩ : ∃ B1, nameB nm = B1 := ⟨_, rfl⟩
        obtain ⟨B2, hB2⟩ : ∃ B2, wishesB nameB ns = B2 := ⟨_, rfl⟩
        rw [hB1] at cn
        rw [hB2] at cw
        by_cases hfirst : B1 = true ∧ 1 ≤ ve ∧ ve ≤ 999999 ∧ B2 = true
        · obtain ⟨rfl, hv1, hv2, rfl⟩ := hfirst
          go_wp2_with (first
            | (go_at_call 10; go_must (refine (cn _).mono ?_; rintro e w1 ⟨rfl, hb1⟩; have hk4 : Blk w1 wr.heap.size 35 #[.string nm, .int .i64 ve, .slice a4 ns.length c4] := Blk.below (heap_alloc_last wr _) hb1; have hb2 : Below wr.heap.size wr w1 := (((Below.refl _ wr).alloc (Nat.le_refl _) _).trans (hb1.mono (by simp))); have e1 := hk4.cell 1; have e2 := hk4.cell 2; simp at e1 e2))
            | (go_at_call 11; go_must (refine (cw _ hb2).mono ?_; rintro e w2 ⟨rfl, hb3⟩)))
          have hns20 : ns.length ≤ 20 := by
            unfold wishesB at hB2
            split at hB2
            · simp at hB2
            · omega
          have hns20' : (ns.length : Int) ≤ 20 := by omega
          have hb4 : Below wr.heap.size wr w2 := good_below hb2 hb3
          have hk5 := hk4.below hb3
          have HK5 : Hid (Blk w2 wr.heap.size 35 #[.string nm, .int .i64 ve, .slice a4 ns.length c4]) := hk5
          obtain ⟨_, a5, c5, hv5, hq5⟩ := HX4.out
          simp only [Value.slice.injEq, true_and] at hv5
          obtain ⟨rfl, rfl⟩ := hv5
          have HQ : Hid _ := hq5
          clear hk4 hk5 hq5 e1 e2 cn cw
          go_loopw [5] (fun i5 wz => ∃ j : Nat, i5 = .int .i64 (j : Int) ∧ j ≤ ns.length ∧ (∀ i (hi : i < ns.length), i < j → (ns[i].name.toList == nm.toList) = false) ∧ Below w2.heap.size w2 wz) (fun i5 _ => ns.length - (intOf i5).toNat)
          case atStart => exact ⟨0, rfl, by omega, fun i _ h => by omega, Below.refl _ _⟩
          case round =>
            obtain ⟨j, rfl, hj, hja, hbz⟩ := hrel
            have HJA : Hid (∀ i (hi : i < ns.length), i < j → (ns[i].name.toList == nm.toList) = false) := hja
            clear hja
            have hk6 := HK5.out.below hbz
            have e0 := hk6.cell 0
            have e2 := hk6.cell 2
            simp at e0 e2
            by_cases hjn : j < ns.length
            · have hjn' : (j : Int) < (ns.length : Int) := by omega
              obtain ⟨b4, o4, rfl, hb4B, hc4⟩ := HQ.out (by omega)
              obtain ⟨y1, _, _⟩ := hc4 j hjn
              have hb5 : Below w.heap.size w wr := good_below (good_below hb hb4) hbz
              have f1 := (hb5.cell (p := ⟨b4, o4 + j * 3, none⟩) (hS _ hb4B)).trans y1
              obtain ⟨z, hz⟩ : ∃ z, ns[j].name = z := ⟨_, rfl⟩
              rw [hz] at f1
              have HZ : Hid (ns[j].name = z) := hz
              clear hz y1 hc4
              cases hcmp : z.toList == nm.toList
              · go_wp2_with fail
                go_quiet (fail)
                go_wp2_with fail
                refine ⟨⟨j + 1, rfl, by omega, fun i hi hij => ?_, bel_drewN hbz _⟩, by simp [intOf]; omega⟩
                by_cases hij2 : i < j
                · exact HJA.out i hi hij2
                · obtain rfl : i = j := by omega
                  rw [HZ.out]; exact hcmp
              · go_wp2_with fail
                go_quiet (fail)
                go_wp2_with fail
                go_ret
                refine ⟨?_, bel_drewN hb5 _⟩
                rw [HBAD.out (rel_need _ _ _ hjn (by dsimp only; rw [HZ.out]; exact hcmp))]
                rfl
            · have hjn' : ¬ ((j : Int) < (ns.length : Int)) := by omega
              have hno : ∀ x ∈ ns, (x.name.toList == nm.toList) = false := fun x hx => by
                obtain ⟨i, hi, rfl⟩ := List.getElem_of_mem hx
                exact HJA.out i hi (by omega)
              have HNO : Hid (∀ x ∈ ns, (x.name.toList == nm.toList) = false) := hno
              have hb6 : Below w.heap.size w wr := good_below (good_below hb hb4) hbz
              have HK7 : Hid (Blk wr _ 35 #[.string nm, .int .i64 ve, .slice a4 ns.length c4]) := hk6
              clear hno hk6
              go_wp2_with fail
              go_loopw [6] (fun i6 wz => ∃ j : Nat, i6 = .int .i64 (j : Int) ∧ j ≤ k ∧ (∀ i (hi : i < l.length), i < j → (l[i].name.toList == nm.toList && l[i].ver == ve) = false) ∧ Below wr.heap.size wr wz) (fun i6 _ => k - (intOf i6).toNat)
              case atStart => exact ⟨0, rfl, by omega, fun i _ h => by omega, Below.refl _ _⟩
              case round =>
                obtain ⟨m, rfl, hm, hma, hbm⟩ := hrel
                have HMA : Hid (∀ i (hi : i < l.length), i < m → (l[i].name.toList == nm.toList && l[i].ver == ve) = false) := hma
                clear hma
                have hk8 := HK7.out.below hbm
                have g0 := hk8.cell 0
                have g1 := hk8.cell 1
                simp at g0 g1
                have hb7 : Below w.heap.size w wr := good_below hb6 hbm
                by_cases hmk : m < k
                · have hmk' : (m : Int) < (k : Int) := by omega
                  have hml : m < l.length := by omega
                  have hml' : (m : Int) < (l.length : Int) := by omega
                  obtain ⟨y1, y2, _, _, _⟩ := HCELL.out m hml
                  have f1 := (hb7.cell (p := ⟨b, off + m * 3, none⟩) hbw).trans y1
                  have f2 := (hb7.cell (p := ⟨b, off + m * 3 + 1, none⟩) hbw).trans y2
                  obtain ⟨zn, hzn⟩ : ∃ z, l[m].name = z := ⟨_, rfl⟩
                  obtain ⟨zv, hzv⟩ : ∃ z, l[m].ver = z := ⟨_, rfl⟩
                  rw [hzn] at f1
                  rw [hzv] at f2
                  have HZN : Hid (l[m].name = zn) := hzn
                  have HZV : Hid (l[m].ver = zv) := hzv
                  clear hzn hzv y1 y2
                  cases hcn : zn.toList == nm.toList
                  · go_wp2_with fail
                    go_quiet (fail)
                    go_wp2_with fail
                    refine ⟨⟨m + 1, rfl, by omega, fun i hi him => ?_, bel_drewN hbm _⟩, by simp [intOf]; omega⟩
                    by_cases him2 : i < m
                    · exact HMA.out i hi him2
                    · obtain rfl : i = m := by omega
                      rw [HZN.out, hcn]; rfl
                  · cases hcv : zv == ve
                    · go_wp2_with fail
                      go_quiet (fail)
                      go_wp2_with fail
                      refine ⟨⟨m + 1, rfl, by omega, fun i hi him => ?_, bel_drewN hbm _⟩, by simp [intOf]; omega⟩
                      by_cases him2 : i < m
                      · exact HMA.out i hi him2
                      · obtain rfl : i = m := by omega
                        rw [HZV.out, hcv]; simp
                    · go_wp2_with fail
                      go_quiet (fail)
                      go_wp2_with fail
                      go_ret
                      refine ⟨?_, bel_drewN hb7 _⟩
                      rw [HBAD.out (rel_twice _ _ () hmk hml (by dsimp only; rw [HZN.out, HZV.out, hcn, hcv]; rfl))]
                      rfl
                · have hmk' : ¬ ((m : Int) < (k : Int)) := by omega
                  go_wp2_with fail
                  refine ⟨⟨k + 1, rfl, by omega, fun i hi hik => ?_, hb7⟩, by simp [intOf]; omega⟩
                  by_cases hik2 : i < k
                  · exact HA.out i hi hik2
                  · obtain rfl : i = k := by omega
                    rw [HXK.out]
                    exact rel_good () () hB1 hv1 hv2 hB2 HNO.out (fun i hi h => HMA.out i hi (by omega))
        · have hbd : storeB nameB l = false := HBAD.out (by
            unfold relB
            dsimp only
            rw [hB1, hB2]
            rcases Bool.eq_false_or_eq_true B1 with rfl | rfl
            · rcases Bool.eq_false_or_eq_true B2 with rfl | rfl
              · have : ¬ (1 ≤ ve ∧ ve ≤ 999999) := fun h => hfirst ⟨rfl, h.1, h.2, rfl⟩
                by_cases h1 : 1 ≤ ve
                · rw [decide_eq_false (show ¬ ve ≤ 999999 by omega)]; simp
                · rw [decide_eq_false h1]; simp
              · simp
            · simp)
          have HBD : Hid (storeB nameB l = false) := hbd
          clear hbd
          cases B1
          · go_wp2_with (go_at_call 10; go_must (refine (cn _).mono ?_; rintro e w1 ⟨rfl, hb1⟩; have hk4 : Blk w1 wr.heap.size 35 #[.string nm, .int .i64 ve, .slice a4 ns.length c4] := Blk.below (heap_alloc_last wr _) hb1; have hb2 : Below wr.heap.size wr w1 := (((Below.refl _ wr).alloc (Nat.le_refl _) _).trans (hb1.mono (by simp))); have e1 := hk4.cell 1; have e2 := hk4.cell 2; simp at e1 e2))
            go_ret
            exact ⟨by rw [HBD.out]; rfl, good_below hb hb2⟩
          · by_cases hv1 : ve < 1
            · go_wp2_with (go_at_call 10; go_must (refine (cn _).mono ?_; rintro e w1 ⟨rfl, hb1⟩; have hk4 : Blk w1 wr.heap.size 35 #[.string nm, .int .i64 ve, .slice a4 ns.length c4] := Blk.below (heap_alloc_last wr _) hb1; have hb2 : Below wr.heap.size wr w1 := (((Below.refl _ wr).alloc (Nat.le_refl _) _).trans (hb1.mono (by simp))); have e1 := hk4.cell 1; have e2 := hk4.cell 2; simp at e1 e2))
              go_ret
              exact ⟨by rw [HBD.out]; rfl, good_below hb hb2⟩
            · by_cases hv2 : 999999 < ve
              · go_wp2_with (go_at_call 10; go_must (refine (cn _).mono ?_; rintro e w1 ⟨rfl, hb1⟩; have hk4 : Blk w1 wr.heap.size 35 #[.string nm, .int .i64 ve, .slice a4 ns.length c4] := Blk.below (heap_alloc_last wr _) hb1; have hb2 : Below wr.heap.size wr w1 := (((Below.refl _ wr).alloc (Nat.le_refl _) _).trans (hb1.mono (by simp))); have e1 := hk4.cell 1; have e2 := hk4.cell 2; simp at e1 e2))
                go_ret
                exact ⟨by rw [HBD.out]; rfl, good_below hb hb2⟩
              · cases B2
                · go_wp2_with (first
                    | (go_at_call 10; go_must (refine (cn _).mono ?_; rintro e w1 ⟨rfl, hb1⟩; have hk4 : Blk w1 wr.heap.size 35 #[.string nm, .int .i64 ve, .slice a4 ns.length c4] := Blk.below (heap_alloc_last wr _) hb1; have hb2 : Below wr.heap.size wr w1 := (((Below.refl _ wr).alloc (Nat.le_refl _) _).trans (hb1.mono (by simp))); have e1 := hk4.cell 1; have e2 := hk4.cell 2; simp at e1 e2))
                    | (go_at_call 11; go_must (refine (cw _ hb2).mono ?_; rintro e w2 ⟨rfl, hb3⟩)))
                  go_ret
                  exact ⟨by rw [HBD.out]; rfl, good_below (good_below hb hb2) hb3⟩
                · exact absurd ⟨rfl, by omega, by omega, rfl⟩ hfirst
      · have hkn' : ¬ ((k : Int) < (l.length : Int)) := by omega
        go_wp2_with fail
        go_ret
        exact ⟨by rw [store_good (by omega) (fun i hi => HA.out i hi (by omega))]; rfl, hb⟩
end Go.Proofs.YtmgboljcdhegiaaDoor
