/-
  Whether a program is right, by the specification: ProgOK. No statement of the seat is proved here.
-/
import Derived.Test.YthopmdfichfhdaaGreatDoorX11
namespace Go.Proofs.YthopmdfichfhdaaGreatDoor
open Go.ChangeShapes Go.WideShapes Go.ChangeAt Go.RowKit
set_option linter.unusedVariables false
set_option linter.unusedSimpArgs false

/-- An instruction of a program of n cells, in a thread of so many instructions, is right. -/
def GoodX (n L : Nat) (x : Ins) : Prop := insB x n = true ∧ (x.op = 10 → x.tgt ≤ (L : Int))
def GoodT (n : Nat) (c : List Ins) : Prop := c.length ≤ 40 ∧ ∀ x ∈ c, GoodX n c.length x
theorem ok_of {ini : List Int} {thr : List (List Ins)} (h1 : 1 ≤ ini.length) (h2 : ini.length ≤ 8) (h3 : 1 ≤ thr.length) (h4 : thr.length ≤ 4) (h5 : ini.all rangeB = true) (h6 : ∀ c ∈ thr, GoodT ini.length c) : OkP ini thr :=
  ⟨h1, h2, h3, h4, fun v hv => List.all_eq_true.1 h5 v hv, fun c hc => (h6 c hc).1, fun c hc x hx => ((h6 c hc).2 x hx).1, fun c hc x hx => ((h6 c hc).2 x hx).2⟩
theorem mem_take_more {α : Type} {l : List α} {j : Nat} (hj : j < l.length) {P : α → Prop} (h : ∀ x ∈ l.take j, P x) (hx : P l[j]) : ∀ x ∈ l.take (j + 1), P x := by
  rw [List.take_add_one, List.getElem?_eq_getElem hj]
  intro x hm
  rcases List.mem_append.1 hm with hm | hm
  · exact h x hm
  · simp at hm
    rw [hm]
    exact hx
theorem getD_ins {c : List Ins} {j : Nat} (hj : j < c.length) : c.getD j ins0 = c[j] := by rw [List.getD_eq_getElem?_getD, List.getElem?_eq_getElem hj]; rfl
theorem getD_row {c : List (List Ins)} {j : Nat} (hj : j < c.length) : c.getD j [] = c[j] := by rw [List.getD_eq_getElem?_getD, List.getElem?_eq_getElem hj]; rfl
theorem getD_num {c : List Int} {j : Nat} (hj : j < c.length) : c.getD j 0 = c[j] := by rw [List.getD_eq_getElem?_getD, List.getElem?_eq_getElem hj]; rfl
set_option maxRecDepth 100000 in
set_option maxHeartbeats 16000000 in
theorem specProgOK {ini : List Int} {thr : List (List Ins)} {iv tv : Value} (w : World) (h : PIn w iv tv ini thr) (hi : ini.length ≤ 2000000) (ht : thr.length ≤ 2000000) (hcl : ∀ c ∈ thr, c.length ≤ 2000000) :
    Calls Tryz.prog 6 #[.agg #[iv, tv]] w fun e w' => e = .returned (.bool (holdsB (OkP ini thr))) ∧ Below w.heap.size w w' := by
  have HP : Hid (∀ W, Below w.heap.size w W → PIn W iv tv ini thr) := fun W hW => h.below hW
  have HCL : Hid (∀ c ∈ thr, c.length ≤ 2000000) := hcl
  obtain ⟨⟨ia, ic, rfl, -⟩, ta, tc, rfl, -⟩ := h
  have hi' : (ini.length : Int) ≤ 2000000 := by omega
  have ht' : (thr.length : Int) ≤ 2000000 := by omega
  clear hcl
  have bB : Below w.heap.size w (w.alloc (.cells #[.slice ia ini.length ic, .slice ta thr.length tc] 30)) := (Below.refl _ w).alloc (Nat.le_refl _) _
  have kB : Blk (w.alloc (.cells #[.slice ia ini.length ic, .slice ta thr.length tc] 30)) w.heap.size 30 #[.slice ia ini.length ic, .slice ta thr.length tc] := heap_alloc_last w _
  obtain ⟨B, hB⟩ : ∃ B, holdsB (OkP ini thr) = B := ⟨_, rfl⟩
  have HF : Hid (¬ OkP ini thr → B = false) := fun h => by rw [← hB]; exact holdsB_false h
  have HT : Hid (OkP ini thr → B = true) := fun h => by rw [← hB]; exact holdsB_true h
  rw [hB]
  clear hB
  go_enter Tryz.func6, Tryz.ntmps6
  go_upto_region 1 with fail
  obtain ⟨wB, hwB⟩ : ∃ W, w.alloc (.cells #[.slice ia ini.length ic, .slice ta thr.length tc] 30) = W := ⟨_, rfl⟩
  rw [hwB] at bB kB ⊢
  clear hwB
  obtain ⟨b0, hb0⟩ : ∃ b, w.heap.size = b := ⟨_, rfl⟩
  rw [hb0] at kB ⊢
  have HKB : Hid (∀ W, Below wB.heap.size wB W → Blk W b0 30 #[.slice ia ini.length ic, .slice ta thr.length tc]) := fun W hW => kB.below hW
  have HBB : Hid (∀ W, Below wB.heap.size wB W → Below w.heap.size w W) := fun W hW => good_below bB hW
  have HB0 : Hid (∀ W, Below wB.heap.size wB W → Below b0 w W) := fun W hW => hb0 ▸ good_below bB hW
  have l0 := kB.cell 0
  have l1 := kB.cell 1
  simp at l0 l1
  clear kB
  by_cases c1 : (ini.length : Int) < 1
  · have HNO : Hid (B = false) := HF.out (fun ok => by have := ok.i1; omega)
    go_wp2_with fail
    go_ret
    exact ⟨by rw [HNO.out]; rfl, by first | exact HBB.out _ (Below.refl _ _) | exact HB0.out _ (Below.refl _ _)⟩
  by_cases c2 : (8 : Int) < (ini.length : Int)
  · have HNO : Hid (B = false) := HF.out (fun ok => by have := ok.i8; omega)
    go_wp2_with fail
    go_ret
    exact ⟨by rw [HNO.out]; rfl, by first | exact HBB.out _ (Below.refl _ _) | exact HB0.out _ (Below.refl _ _)⟩
  by_cases c3 : (thr.length : Int) < 1
  · have HNO : Hid (B = false) := HF.out (fun ok => by have := ok.t1; omega)
    go_wp2_with fail
    go_ret
    exact ⟨by rw [HNO.out]; rfl, by first | exact HBB.out _ (Below.refl _ _) | exact HB0.out _ (Below.refl _ _)⟩
  by_cases c4 : (4 : Int) < (thr.length : Int)
  · have HNO : Hid (B = false) := HF.out (fun ok => by have := ok.t4; omega)
    go_wp2_with fail
    go_ret
    exact ⟨by rw [HNO.out]; rfl, by first | exact HBB.out _ (Below.refl _ _) | exact HB0.out _ (Below.refl _ _)⟩
  have HLEN : Hid (1 ≤ ini.length ∧ ini.length ≤ 8 ∧ 1 ≤ thr.length ∧ thr.length ≤ 4) := ⟨by omega, by omega, by omega, by omega⟩
  go_wp2_with fail
  clear l0 l1 c1 c2 c3 c4
  go_loopw [3] (fun i3 wr => ∃ (j : Nat), i3 = .int .i64 (j : Int) ∧ j ≤ ini.length ∧ (∀ v ∈ ini.take j, rangeB v = true) ∧ Below wB.heap.size wB wr) (fun i3 _ => ini.length - (intOf i3).toNat)
  case atStart => exact ⟨0, rfl, Nat.zero_le _, by simp, Below.refl _ _⟩
  case round =>
    obtain ⟨j, rfl, hj, hall, hb⟩ := hrel
    have HA : Hid (∀ v ∈ ini.take j, rangeB v = true) := hall
    clear hall
    have kr := HKB.out wr hb
    have l0 := kr.cell 0
    have l1 := kr.cell 1
    simp at l0 l1
    clear kr
    by_cases hjn : j < ini.length
    · have hjn' : (j : Int) < (ini.length : Int) := by omega
      obtain ⟨⟨a', c', e', hI⟩, -⟩ := HP.out wr (HBB.out wr hb)
      cases e'
      obtain ⟨bi, oi, rfl, hcell⟩ := hI j hjn
      rw [getD_num hjn] at hcell
      have cn := specRange ini[j] wr
      obtain ⟨n, hn⟩ : ∃ n, ini[j] = n := ⟨_, rfl⟩
      rw [hn] at hcell cn
      have HN : Hid (ini[j] = n) := hn
      clear hI hn
      by_cases hr : rangeB n = true
      · have HR : Hid (∀ v ∈ ini.take (j + 1), rangeB v = true) := mem_take_more hjn HA.out (by rw [HN.out]; exact hr)
        rw [hr] at cn
        clear hr
        go_wp2_with (go_at_call 14; go_must (refine cn.mono ?_; rintro e w1 ⟨rfl, hq⟩; obtain rfl := hq.symm; clear hq))
        exact ⟨⟨j + 1, rfl, hjn, HR.out, hb⟩, by simp [intOf]; omega⟩
      · have HNO : Hid (B = false) := HF.out (fun ok => hr (by rw [← HN.out]; exact ok.nums _ (List.getElem_mem hjn)))
        rw [Bool.eq_false_iff.2 hr] at cn
        clear hr
        go_wp2_with (go_at_call 14; go_must (refine cn.mono ?_; rintro e w1 ⟨rfl, hq⟩; obtain rfl := hq.symm; clear hq))
        go_ret
        exact ⟨by rw [HNO.out]; rfl, by first | exact HBB.out _ hb | exact HB0.out _ hb⟩
    · obtain rfl : j = ini.length := by omega
      have hjn' : ¬ ((ini.length : Int) < (ini.length : Int)) := by omega
      have HNUM : Hid (∀ v ∈ ini, rangeB v = true) := by have := HA.out; rwa [List.take_length] at this
      clear HA
      go_wp2_with fail
      go_loopw [4] (fun i4 wr => ∃ (k : Nat), i4 = .int .i64 (k : Int) ∧ k ≤ thr.length ∧ (∀ c ∈ thr.take k, GoodT ini.length c) ∧ Below wB.heap.size wB wr) (fun i4 _ => thr.length - (intOf i4).toNat)
      case atStart => exact ⟨0, rfl, Nat.zero_le _, by simp, hb⟩
      case round =>
        obtain ⟨k, rfl, hk, hall, hb2⟩ := hrel
        have HA : Hid (∀ c ∈ thr.take k, GoodT ini.length c) := hall
        clear hall hb l0 l1
        have kr := HKB.out wr hb2
        have l0 := kr.cell 0
        have l1 := kr.cell 1
        simp at l0 l1
        clear kr
        by_cases hkn : k < thr.length
        · have hkn' : (k : Int) < (thr.length : Int) := by omega
          obtain ⟨-, a', c', e', hTt⟩ := HP.out w (Below.refl _ w)
          cases e'
          obtain ⟨bt, ot, v, rfl, hcell, hci⟩ := hTt k hkn
          rw [getD_row hkn] at hci
          obtain ⟨C, hC⟩ : ∃ C, thr[k] = C := ⟨_, rfl⟩
          rw [hC] at hci
          have hcm : C ∈ thr := by rw [← hC]; exact List.getElem_mem hkn
          have HCM : Hid (C ∈ thr) := hcm
          have HCK : Hid (thr[k] = C) := hC
          have hcs : (C.length : Int) ≤ 2000000 := by have := HCL.out C hcm; omega
          have HCC : Hid (∀ W, Below wB.heap.size wB W → W.cell? ⟨bt, ot + k, none⟩ = some v) := fun W hW => ((HBB.out W hW).cell (World.block_lt_of_cell? _ _ hcell)).trans hcell
          have HCI : Hid (∀ W, Below wB.heap.size wB W → CIn W v C) := fun W hW => hci.below (HBB.out W hW)
          obtain ⟨ca, cc, rfl, -⟩ := hci
          clear hcell hTt hcm hC
          have x0 := HCC.out wr hb2
          by_cases h40 : (40 : Int) < (C.length : Int)
          · have HNO : Hid (B = false) := HF.out (fun ok => by have := ok.len C HCM.out; omega)
            go_wp2_with fail
            go_ret
            exact ⟨by rw [HNO.out]; rfl, by first | exact HBB.out _ hb2 | exact HB0.out _ hb2⟩
          have H40 : Hid (C.length ≤ 40) := by show C.length ≤ 40; omega
          go_wp2_with fail
          clear l0 l1 x0 h40
          go_loopw [5] (fun i5 wr => ∃ (m : Nat), i5 = .int .i64 (m : Int) ∧ m ≤ C.length ∧ (∀ x ∈ C.take m, GoodX ini.length C.length x) ∧ Below wB.heap.size wB wr) (fun i5 _ => C.length - (intOf i5).toNat)
          case atStart => exact ⟨0, rfl, Nat.zero_le _, by simp, hb2⟩
          case round =>
            obtain ⟨m, rfl, hm, hall, hb3⟩ := hrel
            have HAX : Hid (∀ x ∈ C.take m, GoodX ini.length C.length x) := hall
            clear hall hb2
            have kr := HKB.out wr hb3
            have l0 := kr.cell 0
            have l1 := kr.cell 1
            simp at l0 l1
            clear kr
            have x0 := HCC.out wr hb3
            by_cases hmn : m < C.length
            · have hmn' : (m : Int) < (C.length : Int) := by omega
              obtain ⟨a', c', e', hCc⟩ := HCI.out wr hb3
              cases e'
              obtain ⟨bc, oc, rfl, hf⟩ := hCc m hmn
              rw [getD_ins hmn] at hf
              obtain ⟨x, hx⟩ : ∃ x, C[m] = x := ⟨_, rfl⟩
              rw [hx] at hf
              have HX : Hid (C[m] = x) := hx
              have hxm : x ∈ C := by rw [← hx]; exact List.getElem_mem hmn
              have HXM : Hid (x ∈ C) := hxm
              clear hCc hx hxm
              have HIN : Hid (∀ W, Calls Tryz.prog 15 #[insV x, .int .i64 (ini.length : Int)] W fun e w' => e = .returned (.bool (insB x (ini.length : Int))) ∧ Below W.heap.size W w') := fun W => specIns x (ini.length : Int) W
              obtain ⟨G, hG⟩ : ∃ G, insB x (ini.length : Int) = G := ⟨_, rfl⟩
              rw [hG] at HIN
              have HG : Hid (insB x (ini.length : Int) = G) := hG
              have HOPT : Hid (∃ o t, x.op = o ∧ x.tgt = t) := ⟨_, _, rfl, rfl⟩
              clear hG
              obtain ⟨op, ce, rg, ar, an, br, bn, od, cq, tg⟩ := x
              have HGX : Hid (G = true → (op = 10 → tg ≤ (C.length : Int)) → ∀ x ∈ C.take (m + 1), GoodX ini.length C.length x) := fun h1 h2 => mem_take_more hmn HAX.out (by rw [HX.out]; exact ⟨HG.out.trans h1, h2⟩)
              have HNX : Hid (G = false → B = false) := fun h1 => HF.out (fun ok => by have := ok.ins C HCM.out _ HXM.out; rw [HG.out, h1] at this; cases this)
              have HNT : Hid (op = 10 → (C.length : Int) < tg → B = false) := fun h1 h2 => HF.out (fun ok => by have := ok.jmp C HCM.out _ HXM.out h1; dsimp only at this; omega)
              have u0 : wr.cell? ⟨bc, oc + m * 10, none⟩ = some (.int .i64 op) := hf 0 (by omega)
              have u1 : wr.cell? ⟨bc, oc + m * 10 + 1, none⟩ = some (.int .i64 ce) := hf 1 (by omega)
              have u2 : wr.cell? ⟨bc, oc + m * 10 + 2, none⟩ = some (.int .i64 rg) := hf 2 (by omega)
              have u3 : wr.cell? ⟨bc, oc + m * 10 + 3, none⟩ = some (.int .i64 ar) := hf 3 (by omega)
              have u4 : wr.cell? ⟨bc, oc + m * 10 + 4, none⟩ = some (.int .i64 an) := hf 4 (by omega)
              have u5 : wr.cell? ⟨bc, oc + m * 10 + 5, none⟩ = some (.int .i64 br) := hf 5 (by omega)
              have u6 : wr.cell? ⟨bc, oc + m * 10 + 6, none⟩ = some (.int .i64 bn) := hf 6 (by omega)
              have u7 : wr.cell? ⟨bc, oc + m * 10 + 7, none⟩ = some (.int .i64 od) := hf 7 (by omega)
              have u8 : wr.cell? ⟨bc, oc + m * 10 + 8, none⟩ = some (.int .i64 cq) := hf 8 (by omega)
              have u9 : wr.cell? ⟨bc, oc + m * 10 + 9, none⟩ = some (.int .i64 tg) := hf 9 (by omega)
              clear hf
              go_upto_region 17 with fail
              clear u0 u1 u2 u3 u4 u5 u6 u7 u8 u9 l0 l1 x0
              obtain ⟨wx, hwx⟩ : ∃ W, wr.alloc (.cells #[.int .i64 op, .int .i64 ce, .int .i64 rg, .int .i64 ar, .int .i64 an, .int .i64 br, .int .i64 bn, .int .i64 od, .int .i64 cq, .int .i64 tg] 43) = W := ⟨_, rfl⟩
              have kx : Blk wx wr.heap.size 43 #[.int .i64 op, .int .i64 ce, .int .i64 rg, .int .i64 ar, .int .i64 an, .int .i64 br, .int .i64 bn, .int .i64 od, .int .i64 cq, .int .i64 tg] := by rw [← hwx]; exact heap_alloc_last wr _
              have hbx : Below wB.heap.size wB wx := by rw [← hwx]; exact hb3.alloc hb3.size _
              rw [hwx]
              clear hwx
              obtain ⟨gx, hgx⟩ : ∃ g, wr.heap.size = g := ⟨_, rfl⟩
              rw [hgx] at kx ⊢
              have HBX : Hid (Below wB.heap.size wB wx) := hbx
              have p0 := fun N : GoodW (fun W => Below wx.heap.size wx W) => (kx.below N.ok).cell 0
              have p1 := fun N : GoodW (fun W => Below wx.heap.size wx W) => (kx.below N.ok).cell 1
              have p2 := fun N : GoodW (fun W => Below wx.heap.size wx W) => (kx.below N.ok).cell 2
              have p3 := fun N : GoodW (fun W => Below wx.heap.size wx W) => (kx.below N.ok).cell 3
              have p4 := fun N : GoodW (fun W => Below wx.heap.size wx W) => (kx.below N.ok).cell 4
              have p5 := fun N : GoodW (fun W => Below wx.heap.size wx W) => (kx.below N.ok).cell 5
              have p6 := fun N : GoodW (fun W => Below wx.heap.size wx W) => (kx.below N.ok).cell 6
              have p7 := fun N : GoodW (fun W => Below wx.heap.size wx W) => (kx.below N.ok).cell 7
              have p8 := fun N : GoodW (fun W => Below wx.heap.size wx W) => (kx.below N.ok).cell 8
              have p9 := fun N : GoodW (fun W => Below wx.heap.size wx W) => (kx.below N.ok).cell 9
              simp at p0 p1 p2 p3 p4 p5 p6 p7 p8 p9
              have r0 := fun N : GoodW (fun W => Below wx.heap.size wx W) => (HKB.out N.W (good_below HBX.out N.ok)).cell 0
              have r1 := fun N : GoodW (fun W => Below wx.heap.size wx W) => (HKB.out N.W (good_below HBX.out N.ok)).cell 1
              simp at r0 r1
              have r2 := fun N : GoodW (fun W => Below wx.heap.size wx W) => HCC.out N.W (good_below HBX.out N.ok)
              have ci := HIN.out
              unfold insV at ci
              dsimp only at ci
              clear kx hbx hb3
              haveI ne : Nonempty (GoodW (fun W => Below wx.heap.size wx W)) := ⟨⟨_, Below.refl _ wx⟩⟩
              cases G
              · have HNO : Hid (B = false) := HNX.out rfl
                refine wp_region_calm (fun W => Below wx.heap.size wx W) (by kernel_rfl) (by kernel_rfl) (Below.refl _ wx).drew ?_
                iterate 22 (go_big_quiet_step ((go_at_call 15; exact Calls.calm _ (fun w2 hb => good_below (GoodW.ok _) hb) (ci _))))
                refine wpQuiet_nil ?_
                rintro _ ⟨⟨W2, hW2⟩, rfl⟩
                go_wp2_with fail
                go_ret
                exact ⟨by rw [HNO.out]; rfl, by first | exact HBB.out _ (good_below HBX.out hW2) | exact HB0.out _ (good_below HBX.out hW2)⟩
              · by_cases hop : op = 10
                · subst hop
                  by_cases htg : (C.length : Int) < tg
                  · have HNO : Hid (B = false) := HNT.out rfl htg
                    refine wp_region_calm (fun W => Below wx.heap.size wx W) (by kernel_rfl) (by kernel_rfl) (Below.refl _ wx).drew ?_
                    iterate 22 (go_big_quiet_step ((go_at_call 15; exact Calls.calm _ (fun w2 hb => good_below (GoodW.ok _) hb) (ci _))))
                    refine wpQuiet_nil ?_
                    rintro _ ⟨⟨W2, hW2⟩, rfl⟩
                    go_wp2_with fail
                    go_ret
                    exact ⟨by rw [HNO.out]; rfl, by first | exact HBB.out _ (good_below HBX.out hW2) | exact HB0.out _ (good_below HBX.out hW2)⟩
                  · have HYES : Hid (∀ x ∈ C.take (m + 1), GoodX ini.length C.length x) := HGX.out rfl (fun _ => by omega)
                    have htgB : decide ((C.length : Int) < tg) = false := decide_eq_false htg
                    refine wp_region_calm (fun W => Below wx.heap.size wx W) (by kernel_rfl) (by kernel_rfl) (Below.refl _ wx).drew ?_
                    iterate 22 (go_big_quiet_step ((go_at_call 15; exact Calls.calm _ (fun w2 hb => good_below (GoodW.ok _) hb) (ci _))))
                    refine wpQuiet_nil ?_
                    rintro _ ⟨⟨W2, hW2⟩, rfl⟩
                    go_wp2_with fail
                    exact ⟨⟨m + 1, rfl, hmn, HYES.out, good_below HBX.out hW2⟩, by simp [intOf]; omega⟩
                · have HYES : Hid (∀ x ∈ C.take (m + 1), GoodX ini.length C.length x) := HGX.out rfl (fun h => absurd h hop)
                  have hopB : (op == 10) = false := by simpa using hop
                  refine wp_region_calm (fun W => Below wx.heap.size wx W) (by kernel_rfl) (by kernel_rfl) (Below.refl _ wx).drew ?_
                  iterate 22 (go_big_quiet_step ((go_at_call 15; exact Calls.calm _ (fun w2 hb => good_below (GoodW.ok _) hb) (ci _))))
                  refine wpQuiet_nil ?_
                  rintro _ ⟨⟨W2, hW2⟩, rfl⟩
                  go_wp2_with fail
                  exact ⟨⟨m + 1, rfl, hmn, HYES.out, good_below HBX.out hW2⟩, by simp [intOf]; omega⟩
            · obtain rfl : m = C.length := by omega
              have hmn' : ¬ ((C.length : Int) < (C.length : Int)) := by omega
              have HNEXT : Hid (∀ c ∈ thr.take (k + 1), GoodT ini.length c) := mem_take_more hkn HA.out (by rw [HCK.out]; exact ⟨H40.out, by have := HAX.out; rwa [List.take_length] at this⟩)
              go_wp2_with fail
              exact ⟨⟨k + 1, rfl, hkn, HNEXT.out, hb3⟩, by simp [intOf]; omega⟩
        · obtain rfl : k = thr.length := by omega
          have hkn' : ¬ ((thr.length : Int) < (thr.length : Int)) := by omega
          have HYES : Hid (B = true) := HT.out (ok_of HLEN.out.1 HLEN.out.2.1 HLEN.out.2.2.1 HLEN.out.2.2.2 (List.all_eq_true.2 HNUM.out) (by have := HA.out; rwa [List.take_length] at this))
          go_wp2_with fail
          go_ret
          exact ⟨by rw [HYES.out]; rfl, by first | exact HBB.out _ hb2 | exact HB0.out _ hb2⟩
end Go.Proofs.YthopmdfichfhdaaGreatDoor
