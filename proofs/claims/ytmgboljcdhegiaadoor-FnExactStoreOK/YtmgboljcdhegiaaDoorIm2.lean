/-
  What impl.StoreOK answers. No statement of the seat is proved here.
-/
import Derived.Test.YtmgboljcdhegiaaDoorIm1
import Derived.Test.YtmgboljcdhegiaaDoorEnt
import Derived.Test.YtmgboljcdhegiaaDoorSt6
namespace Go.Proofs.YtmgboljcdhegiaaDoor
open Go.ChangeShapes Go.WideShapes Go.ChangeAt Go.RowKit
set_option linter.unusedVariables false

/-- f holds 1 of each release of pre, 0 of all others. -/
def SeenR (f : Lit → Int) (pre : List Rel) : Prop := ∀ (nm : ByteArray) (ve : Int) (kl : Lit), keyOf Tryd.prog 44 (pickVal nm ve) = some kl → f kl = if pre.any (fun q => q.name.toList == nm.toList && q.ver == ve) then 1 else 0
theorem SeenR.put {f : Lit → Int} {pre : List Rel} (h : SeenR f pre) {x : Rel} {kx : Lit} (hk : keyOf Tryd.prog 44 (pickVal x.name x.ver) = some kx) : SeenR (upd f kx 1) (pre ++ [x]) := by
  intro nm ve kl hkl
  have ha : (pre ++ [x]).any (fun q => q.name.toList == nm.toList && q.ver == ve) = (pre.any (fun q => q.name.toList == nm.toList && q.ver == ve) || (x.name.toList == nm.toList && x.ver == ve)) := by
    rw [List.any_append]; simp
  by_cases e : kl = kx
  · subst e
    obtain ⟨h1, h2⟩ := key44_inj hk hkl
    rw [upd_same (law44.key hk), ha, h1, h2]
    simp
  · rw [upd_other e, h nm ve kl hkl, ha]
    have hne : (x.name.toList == nm.toList && x.ver == ve) = false := by
      rw [beq_bytes]
      cases hd : (decide (x.name = nm) && x.ver == ve)
      · rfl
      · simp at hd
        rw [hd.1, hd.2, hkl] at hk
        exact absurd (Option.some.inj hk) e
    rw [hne, Bool.or_false]

set_option maxRecDepth 100000 in
set_option maxHeartbeats 2000000 in
theorem implStore : ImplStore (Lib.Utf8Tabs 0 1) nameOK := by
  intro S l v w hS h hl hok hT
  obtain ⟨hlm, a, cap, rfl, hc⟩ := h
  have hmm := @run_makeMap Tryd.prog
  have HC : Hid _ := hc
  have HT : Hid (Lib.Utf8Tabs 0 1 w) := hT
  have HZ : Hid _ := hok
  have hlm' : (l.length : Int) ≤ 9223372036854775807 := by simp [maxLen] at hlm; omega
  clear hc hlm hT hok
  by_cases h200 : 200 < l.length
  · have e0 : storeB nameOK l = false := by simp [storeB]; omega
    rw [e0]
    have h200' : (200 : Int) < (l.length : Int) := by omega
    go_enter Tryd.func7, Tryd.ntmps7
    go_wp2_with fail
    go_ret
    exact ⟨rfl, Below.refl _ _⟩
  · have h200' : ¬ ((200 : Int) < (l.length : Int)) := by omega
    obtain ⟨F, hF⟩ : ∃ F, storeB nameOK l = F := ⟨_, rfl⟩
    rw [hF]
    have HF : Hid _ := hF
    clear hF
    go_enter Tryd.func7, Tryd.ntmps7
    go_wp2_with fail
    go_loopw [13] (fun i13 wr => ∃ (k : Nat) (f : Lit → Int), i13 = .int .i64 (k : Int) ∧ k ≤ l.length ∧ Counts wr 44 w.heap.size k f ∧ SeenR f (l.take k) ∧ (∀ i (hi : i < l.length), i < k → relB nameOK (l.take i) l[i] = true) ∧ Below w.heap.size w wr) (fun i13 _ => l.length - (intOf i13).toNat)
    case atStart => exact ⟨0, _, rfl, by omega, Counts.made _ _, fun nm ve kl hk => by simp, fun i hi h0 => by omega, (Below.refl _ w).alloc (Nat.le_refl _) _⟩
    case round =>
      obtain ⟨k, f, rfl, hk, hcn, hse, hall, hb⟩ := hrel
      have HCN : Hid _ := hcn
      have HSE : Hid _ := hse
      have HAL : Hid _ := hall
      clear hcn hse hall
      by_cases hkn : k < l.length
      · have hkn' : (k : Int) < (l.length : Int) := by omega
        obtain ⟨b, off, rfl, hbB, hcell⟩ := HC.out (by omega)
        obtain ⟨x1, x2, nv, x3, hnv⟩ := hcell k hkn
        have hbw := hS b hbB
        have htk : l.take (k + 1) = l.take k ++ [l[k]] := List.take_succ_eq_append_getElem hkn
        have hmem := List.getElem_mem hkn
        obtain ⟨x, hx⟩ : ∃ x, l[k] = x := ⟨_, rfl⟩
        have HX : Hid (l[k] = x) := hx
        rw [hx] at x1 x2 hnv htk hmem
        have hzx := HZ.out x hmem
        have HTK : Hid _ := htk
        clear hx hcell htk hmem
        have hrs := rel_solo nameOK (l.take k) x
        have HRS : Hid _ := hrs
        clear hrs
        have cr := fun w' (hbb : Below w.heap.size w w') => implRelease x nv w' (fun c hc => Nat.lt_of_lt_of_le (hS c hc) hbb.size) (hnv.keep (cells_below hS hbb)) (fun y hy => by have := hzx.2.2 y hy; unfold ImpOK at this; omega) (Utf8Tabs_below HT.out hbb)
        obtain ⟨na, nc, rfl⟩ := hnv.shape
        have HNV : Hid _ := hnv
        have HZX : Hid _ := hzx
        clear hnv hzx
        obtain ⟨B1, hB1⟩ : ∃ B1, soloB nameOK x = B1 := ⟨_, rfl⟩
        rw [hB1] at cr
        have HB1 : Hid _ := hB1
        clear hB1
        obtain ⟨nm, ve, ns⟩ := x
        dsimp only at x1 x2 cr
        have d1 := (hb.cell (p := ⟨b, off + k * 3, none⟩) hbw).trans x1
        have d2 := (hb.cell (p := ⟨b, off + k * 3 + 1, none⟩) hbw).trans x2
        have d3 := (hb.cell (p := ⟨b, off + k * 3 + 2, none⟩) hbw).trans x3
        clear x1 x2 x3
        cases B1
        · have hno : storeB nameOK l = false := store_bad hkn (by rw [HX.out, HRS.out, HB1.out]; rfl)
          have hF := HF.out
          rw [hno] at hF
          subst hF
          clear hno
          go_wp2_with (go_at_call 13; go_must (refine (cr _ (hb.alloc hb.size _)).mono ?_; rintro e w1 ⟨rfl, hb1⟩))
          go_ret
          exact ⟨rfl, (hb.alloc hb.size _).trans (hb1.mono (by have := hb.size; simp only [World.size_alloc]; omega))⟩
        · have hve : 1 ≤ ve ∧ ve ≤ 999999 := by
            have := HB1.out
            simp [soloB] at this
            exact this.1.1.2
          have hnm : nm.size ≤ 1048576 := by have := HZX.out.1; dsimp only at this; omega
          obtain ⟨kl, hkl⟩ := key44 (s := nm) (v := ve) (by simp [maxLen]; omega) (WalkArith.wf_i64 (by omega))
          have HKL : Hid _ := hkl
          clear hkl
          go_upto_region 10 with (go_at_call 13; go_must (refine (cr _ (hb.alloc hb.size _)).mono ?_; rintro e w1 ⟨rfl, hb1⟩; have hk1 : Blk w1 wr.heap.size 35 #[.string nm, .int .i64 ve, .slice na ns.length nc] := Blk.below (heap_alloc_last wr _) hb1; have e1 := hk1.cell 0; have e2 := hk1.cell 1; simp at e1 e2))
          have hbA := (hb.alloc hb.size (.cells #[.string nm, .int .i64 ve, .slice na ns.length nc] 35)).trans (hb1.mono (by have := hb.size; simp only [World.size_alloc]; omega))
          have hcA : Counts (w1.alloc (.cells #[.string nm, .int .i64 ve] 44)).drew 44 w.heap.size k f := ((Counts.alloc HCN.out _).below hb1).alloc _
          have hgA : w.heap.size < w1.heap.size := by
            have q1 := hb1.size
            have q2 := (show Counts wr 44 w.heap.size k f from HCN.out).lt
            simp only [World.size_alloc] at q1
            omega
          have hfk := HSE.out nm ve kl HKL.out
          have hlk := (hcA.look law44 Tryd.underlying41 HKL.out).1
          obtain ⟨P1, hP1⟩ : ∃ P1, ((l.take k).any fun q => q.name.toList == nm.toList && q.ver == ve) = P1 := ⟨_, rfl⟩
          have HP1 : Hid _ := hP1
          rw [hP1] at hfk
          clear hP1
          cases P1
          · rw [if_neg (by simp)] at hfk
            obtain ⟨st, W1, W2, g1, g2, g3, g4, g5⟩ := hcA.entry (by simp [maxLen]; omega) HKL.out (c := 1) (by decide)
            rw [hfk] at g1 g2 hlk
            unfold pickVal at g1 g2 hlk
            have HC2 : Hid (Counts W2 44 w.heap.size (k + 1) (upd f kl 1)) := g4
            have hkb : Blk W2 w1.heap.size 44 #[.string nm, .int .i64 ve] := (g5.block w1.heap.size (by show w1.heap.size < (w1.alloc _).heap.size; simp only [World.size_alloc]; omega) (by simp; omega)).trans (heap_alloc_last w1 _)
            have hbB2 : Below w.heap.size w W2 := (hbA.alloc hbA.size (.cells #[.string nm, .int .i64 ve] 44)).drew.grown g5 (by show w.heap.size ≤ (w1.alloc _).heap.size; simp only [World.size_alloc]; omega) (fun j hj => by cases hj; exact Nat.le_refl _)
            have hl2 := (Counts.look HC2.out law44 Tryd.underlying41 HKL.out).1
            rw [upd_same (law44.key HKL.out)] at hl2
            unfold pickVal at hl2
            have k0 := hkb.cell 0
            have k1 := hkb.cell 1
            simp at k0 k1
            clear hfk g4 g5 hcA hkb
            go_cut [13] from 25 (fun s13 wx => s13 = .int .i64 (k : Int) ∧ wx = W2)
            case first =>
              go_region
              all_goals
                go_wp2_with fail
                go_meet
                exact ⟨rfl, rfl⟩
            case rest =>
              obtain ⟨rfl, rfl⟩ := hcut
              clear g1 g2 g3 hlk
              go_wp2_with fail
              refine ⟨⟨k + 1, _, rfl, by omega, HC2.out, ?_, ?_, hbB2⟩, by simp [intOf]; omega⟩
              · rw [HTK.out]; exact SeenR.put HSE.out (x := ⟨nm, ve, ns⟩) HKL.out
              · intro i hi hik
                by_cases hie : i < k
                · exact HAL.out i hi hie
                · have : i = k := by omega
                  subst this
                  rw [HX.out, HRS.out, HB1.out, HP1.out]; rfl
          · rw [if_pos rfl] at hfk
            obtain ⟨st, W1, W2, g1, g2, g3, g4, g5⟩ := hcA.entry (by simp [maxLen]; omega) HKL.out (c := 2) (by decide)
            rw [hfk] at g1 g2 hlk
            unfold pickVal at g1 g2 hlk
            have HC2 : Hid (Counts W2 44 w.heap.size (k + 1) (upd f kl 2)) := g4
            have hkb : Blk W2 w1.heap.size 44 #[.string nm, .int .i64 ve] := (g5.block w1.heap.size (by show w1.heap.size < (w1.alloc _).heap.size; simp only [World.size_alloc]; omega) (by simp; omega)).trans (heap_alloc_last w1 _)
            have hbB2 : Below w.heap.size w W2 := (hbA.alloc hbA.size (.cells #[.string nm, .int .i64 ve] 44)).drew.grown g5 (by show w.heap.size ≤ (w1.alloc _).heap.size; simp only [World.size_alloc]; omega) (fun j hj => by cases hj; exact Nat.le_refl _)
            have hl2 := (Counts.look HC2.out law44 Tryd.underlying41 HKL.out).1
            rw [upd_same (law44.key HKL.out)] at hl2
            unfold pickVal at hl2
            have k0 := hkb.cell 0
            have k1 := hkb.cell 1
            simp at k0 k1
            clear hfk g4 g5 hcA hkb
            go_cut [13] from 25 (fun s13 wx => s13 = .int .i64 (k : Int) ∧ wx = W2)
            case first =>
              go_region
              all_goals
                go_wp2_with fail
                go_meet
                exact ⟨rfl, rfl⟩
            case rest =>
              obtain ⟨rfl, rfl⟩ := hcut
              clear g1 g2 g3 hlk
              have hno : storeB nameOK l = false := store_bad hkn (by rw [HX.out, HRS.out, HB1.out, HP1.out]; rfl)
              have hF := HF.out
              rw [hno] at hF
              subst hF
              clear hno
              go_wp2_with fail
              go_ret
              exact ⟨rfl, hbB2⟩
      · have hkl : k = l.length := by omega
        subst hkl
        have hkn' : ¬ ((l.length : Int) < (l.length : Int)) := by omega
        have hyes : storeB nameOK l = true := store_good (by omega) (fun i hi => HAL.out i hi hi)
        have hF := HF.out
        rw [hyes] at hF
        subst hF
        clear hyes
        go_wp2_with fail
        go_ret
        exact ⟨rfl, hb⟩
end Go.Proofs.YtmgboljcdhegiaaDoor
