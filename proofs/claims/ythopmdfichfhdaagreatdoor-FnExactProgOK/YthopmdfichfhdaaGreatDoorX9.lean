/-
  Rows of instructions and rows of such rows, held against one another by the program; threads that are too long. No statement of the seat is proved here.
-/
import Derived.Test.YthopmdfichfhdaaGreatDoorX8
namespace Go.Proofs.YthopmdfichfhdaaGreatDoor
open Go.ChangeShapes Go.WideShapes Go.ChangeAt Go.RowKit
set_option linter.unusedVariables false
set_option linter.unusedSimpArgs false

theorem take_more {α : Type} {l m : List α} {j : Nat} (d : α) (hl : j < l.length) (hm : j < m.length) (h : l.take j = m.take j) (e : l.getD j d = m.getD j d) : l.take (j + 1) = m.take (j + 1) := by
  rw [List.take_add_one, List.take_add_one, h]
  rw [List.getD_eq_getElem?_getD, List.getElem?_eq_getElem hl, List.getD_eq_getElem?_getD, List.getElem?_eq_getElem hm] at e
  rw [List.getElem?_eq_getElem hl, List.getElem?_eq_getElem hm]
  have : l[j] = m[j] := e
  rw [this]
/-- Whether p holds. -/
noncomputable def holdsB (p : Prop) : Bool := @decide p (Classical.propDecidable p)
theorem holdsB_true {p : Prop} (h : p) : holdsB p = true := @decide_eq_true p (Classical.propDecidable p) h
theorem holdsB_false {p : Prop} (h : ¬ p) : holdsB p = false := @decide_eq_false p (Classical.propDecidable p) h
theorem bel_drewN' {B : Nat} {w w' : World} (h : Below B w w') (n : Nat) : Below B w (w'.drewN n) := bel_drewN h n
set_option maxRecDepth 100000 in
set_option maxHeartbeats 16000000 in
/-- slices.Equal over two rows of instructions. -/
theorem implEqualIns {l m : List Ins} {v u : Value} (w : World) (h : CIn w v l) (k : CIn w u m) (hl : l.length ≤ 2000000) (hm : m.length ≤ 2000000) :
    Calls Tryz.prog 35 #[v, u] w fun e w' => e = .returned (.bool (holdsB (l = m))) ∧ Below w.heap.size w w' := by
  have H1 : Hid (∀ W, Below w.heap.size w W → CIn W v l) := fun W hW => h.below hW
  have H2 : Hid (∀ W, Below w.heap.size w W → CIn W u m) := fun W hW => k.below hW
  obtain ⟨a, c, rfl, -⟩ := h
  obtain ⟨a', c', rfl, -⟩ := k
  have hl' : (l.length : Int) ≤ 2000000 := by omega
  have hm' : (m.length : Int) ≤ 2000000 := by omega
  go_enter Tryz.func35, Tryz.ntmps35
  by_cases hlm : l.length = m.length
  case neg =>
    have hlm' : ¬ ((l.length : Int) = (m.length : Int)) := by omega
    go_wp2_with fail
    go_ret
    refine ⟨?_, Below.refl _ _⟩
    have hne : l ≠ m := fun e => hlm (by rw [e])
    rw [holdsB_false hne]
    rfl
  have HLM : Hid (l.length = m.length) := hlm
  rw [← hlm]
  clear hlm
  go_wp2_with fail
  go_loopw [13] (fun i13 wr => ∃ (j : Nat), i13 = .int .i64 (j : Int) ∧ j ≤ l.length ∧ l.take j = m.take j ∧ Below w.heap.size w wr) (fun i13 _ => l.length - (intOf i13).toNat)
  case atStart => exact ⟨0, rfl, Nat.zero_le _, by simp, Below.refl _ _⟩
  case round =>
    obtain ⟨j, rfl, hj, htk, hb⟩ := hrel
    have HTK : Hid (l.take j = m.take j) := htk
    have HB : Hid (Below w.heap.size w wr) := hb
    clear htk
    by_cases hjn : j < l.length
    · have hjn' : (j : Int) < (l.length : Int) := by omega
      have hjm : j < m.length := by rw [← HLM.out]; exact hjn
      obtain ⟨A1, c1, q1, f1⟩ := H1.out wr hb
      cases q1
      obtain ⟨g1, o1, rfl, u⟩ := f1 j hjn
      obtain ⟨A2, c2, q2, f2⟩ := H2.out wr hb
      cases q2
      obtain ⟨g2, o2, rfl, v⟩ := f2 j hjm
      clear f1 f2
      obtain ⟨x, hxe⟩ : ∃ y, l.getD j ins0 = y := ⟨_, rfl⟩
      obtain ⟨y, hye⟩ : ∃ y, m.getD j ins0 = y := ⟨_, rfl⟩
      rw [hxe] at u
      rw [hye] at v
      obtain ⟨a0, a1, a2, a3, a4, a5, a6, a7, a8, a9⟩ := x
      obtain ⟨b0, b1, b2, b3, b4, b5, b6, b7, b8, b9⟩ := y
      have u0 : wr.cell? ⟨g1, o1 + j * 10, none⟩ = some (.int .i64 a0) := u 0 (by omega)
      have v0 : wr.cell? ⟨g2, o2 + j * 10, none⟩ = some (.int .i64 b0) := v 0 (by omega)
      have u1 : wr.cell? ⟨g1, o1 + j * 10 + 1, none⟩ = some (.int .i64 a1) := u 1 (by omega)
      have v1 : wr.cell? ⟨g2, o2 + j * 10 + 1, none⟩ = some (.int .i64 b1) := v 1 (by omega)
      have u2 : wr.cell? ⟨g1, o1 + j * 10 + 2, none⟩ = some (.int .i64 a2) := u 2 (by omega)
      have v2 : wr.cell? ⟨g2, o2 + j * 10 + 2, none⟩ = some (.int .i64 b2) := v 2 (by omega)
      have u3 : wr.cell? ⟨g1, o1 + j * 10 + 3, none⟩ = some (.int .i64 a3) := u 3 (by omega)
      have v3 : wr.cell? ⟨g2, o2 + j * 10 + 3, none⟩ = some (.int .i64 b3) := v 3 (by omega)
      have u4 : wr.cell? ⟨g1, o1 + j * 10 + 4, none⟩ = some (.int .i64 a4) := u 4 (by omega)
      have v4 : wr.cell? ⟨g2, o2 + j * 10 + 4, none⟩ = some (.int .i64 b4) := v 4 (by omega)
      have u5 : wr.cell? ⟨g1, o1 + j * 10 + 5, none⟩ = some (.int .i64 a5) := u 5 (by omega)
      have v5 : wr.cell? ⟨g2, o2 + j * 10 + 5, none⟩ = some (.int .i64 b5) := v 5 (by omega)
      have u6 : wr.cell? ⟨g1, o1 + j * 10 + 6, none⟩ = some (.int .i64 a6) := u 6 (by omega)
      have v6 : wr.cell? ⟨g2, o2 + j * 10 + 6, none⟩ = some (.int .i64 b6) := v 6 (by omega)
      have u7 : wr.cell? ⟨g1, o1 + j * 10 + 7, none⟩ = some (.int .i64 a7) := u 7 (by omega)
      have v7 : wr.cell? ⟨g2, o2 + j * 10 + 7, none⟩ = some (.int .i64 b7) := v 7 (by omega)
      have u8 : wr.cell? ⟨g1, o1 + j * 10 + 8, none⟩ = some (.int .i64 a8) := u 8 (by omega)
      have v8 : wr.cell? ⟨g2, o2 + j * 10 + 8, none⟩ = some (.int .i64 b8) := v 8 (by omega)
      have u9 : wr.cell? ⟨g1, o1 + j * 10 + 9, none⟩ = some (.int .i64 a9) := u 9 (by omega)
      have v9 : wr.cell? ⟨g2, o2 + j * 10 + 9, none⟩ = some (.int .i64 b9) := v 9 (by omega)
      clear u v
      by_cases e0 : a0 = b0
      · subst e0
        by_cases e1 : a1 = b1
        · subst e1
          by_cases e2 : a2 = b2
          · subst e2
            by_cases e3 : a3 = b3
            · subst e3
              by_cases e4 : a4 = b4
              · subst e4
                by_cases e5 : a5 = b5
                · subst e5
                  by_cases e6 : a6 = b6
                  · subst e6
                    by_cases e7 : a7 = b7
                    · subst e7
                      by_cases e8 : a8 = b8
                      · subst e8
                        by_cases e9 : a9 = b9
                        · subst e9
                          have HEQ : Hid (l.take (j + 1) = m.take (j + 1)) := take_more ins0 hjn hjm HTK.out (hxe.trans hye.symm)
                          clear hxe hye
                          go_upto_region 6 with fail
                          go_quiet (fail)
                          go_wp2_with fail
                          exact ⟨⟨j + 1, rfl, hjn, HEQ.out, bel_drewN HB.out _⟩, by simp [intOf]; omega⟩
                        · have HNE : Hid (l.getD j ins0 ≠ m.getD j ins0) := fun h => by rw [hxe, hye] at h; injection h; contradiction
                          clear hxe hye
                          go_upto_region 6 with fail
                          go_quiet (fail)
                          go_wp2_with fail
                          go_ret
                          refine ⟨?_, bel_drewN HB.out _⟩
                          have hne : l ≠ m := fun e => HNE.out (by rw [e])
                          rw [holdsB_false hne]
                          rfl
                      · have HNE : Hid (l.getD j ins0 ≠ m.getD j ins0) := fun h => by rw [hxe, hye] at h; injection h; contradiction
                        clear hxe hye
                        go_upto_region 6 with fail
                        go_quiet (fail)
                        go_wp2_with fail
                        go_ret
                        refine ⟨?_, bel_drewN HB.out _⟩
                        have hne : l ≠ m := fun e => HNE.out (by rw [e])
                        rw [holdsB_false hne]
                        rfl
                    · have HNE : Hid (l.getD j ins0 ≠ m.getD j ins0) := fun h => by rw [hxe, hye] at h; injection h; contradiction
                      clear hxe hye
                      go_upto_region 6 with fail
                      go_quiet (fail)
                      go_wp2_with fail
                      go_ret
                      refine ⟨?_, bel_drewN HB.out _⟩
                      have hne : l ≠ m := fun e => HNE.out (by rw [e])
                      rw [holdsB_false hne]
                      rfl
                  · have HNE : Hid (l.getD j ins0 ≠ m.getD j ins0) := fun h => by rw [hxe, hye] at h; injection h; contradiction
                    clear hxe hye
                    go_upto_region 6 with fail
                    go_quiet (fail)
                    go_wp2_with fail
                    go_ret
                    refine ⟨?_, bel_drewN HB.out _⟩
                    have hne : l ≠ m := fun e => HNE.out (by rw [e])
                    rw [holdsB_false hne]
                    rfl
                · have HNE : Hid (l.getD j ins0 ≠ m.getD j ins0) := fun h => by rw [hxe, hye] at h; injection h; contradiction
                  clear hxe hye
                  go_upto_region 6 with fail
                  go_quiet (fail)
                  go_wp2_with fail
                  go_ret
                  refine ⟨?_, bel_drewN HB.out _⟩
                  have hne : l ≠ m := fun e => HNE.out (by rw [e])
                  rw [holdsB_false hne]
                  rfl
              · have HNE : Hid (l.getD j ins0 ≠ m.getD j ins0) := fun h => by rw [hxe, hye] at h; injection h; contradiction
                clear hxe hye
                go_upto_region 6 with fail
                go_quiet (fail)
                go_wp2_with fail
                go_ret
                refine ⟨?_, bel_drewN HB.out _⟩
                have hne : l ≠ m := fun e => HNE.out (by rw [e])
                rw [holdsB_false hne]
                rfl
            · have HNE : Hid (l.getD j ins0 ≠ m.getD j ins0) := fun h => by rw [hxe, hye] at h; injection h; contradiction
              clear hxe hye
              go_upto_region 6 with fail
              go_quiet (fail)
              go_wp2_with fail
              go_ret
              refine ⟨?_, bel_drewN HB.out _⟩
              have hne : l ≠ m := fun e => HNE.out (by rw [e])
              rw [holdsB_false hne]
              rfl
          · have HNE : Hid (l.getD j ins0 ≠ m.getD j ins0) := fun h => by rw [hxe, hye] at h; injection h; contradiction
            clear hxe hye
            go_upto_region 6 with fail
            go_quiet (fail)
            go_wp2_with fail
            go_ret
            refine ⟨?_, bel_drewN HB.out _⟩
            have hne : l ≠ m := fun e => HNE.out (by rw [e])
            rw [holdsB_false hne]
            rfl
        · have HNE : Hid (l.getD j ins0 ≠ m.getD j ins0) := fun h => by rw [hxe, hye] at h; injection h; contradiction
          clear hxe hye
          go_upto_region 6 with fail
          go_quiet (fail)
          go_wp2_with fail
          go_ret
          refine ⟨?_, bel_drewN HB.out _⟩
          have hne : l ≠ m := fun e => HNE.out (by rw [e])
          rw [holdsB_false hne]
          rfl
      · have HNE : Hid (l.getD j ins0 ≠ m.getD j ins0) := fun h => by rw [hxe, hye] at h; injection h; contradiction
        clear hxe hye
        go_upto_region 6 with fail
        go_quiet (fail)
        go_wp2_with fail
        go_ret
        refine ⟨?_, bel_drewN HB.out _⟩
        have hne : l ≠ m := fun e => HNE.out (by rw [e])
        rw [holdsB_false hne]
        rfl
    · obtain rfl : j = l.length := by omega
      have hjn' : ¬ ((l.length : Int) < (l.length : Int)) := by omega
      have e : l = m := by
        have := HTK.out
        rwa [List.take_length, HLM.out, List.take_length] at this
      have HE : Hid (l = m) := e
      clear e
      go_wp2_with fail
      go_ret
      exact ⟨by rw [holdsB_true HE.out]; rfl, hb⟩
end Go.Proofs.YthopmdfichfhdaaGreatDoor
