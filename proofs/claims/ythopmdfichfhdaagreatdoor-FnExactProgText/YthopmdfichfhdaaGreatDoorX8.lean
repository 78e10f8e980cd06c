/-
  A program's text, written by the program: progText. A program's text, written by the program: progText. No statement of the seat is proved here.
-/
import Derived.Test.YthopmdfichfhdaaGreatDoorX6
namespace Go.Proofs.YthopmdfichfhdaaGreatDoor
open Go.ChangeShapes Go.WideShapes Go.ChangeAt Go.RowKit
set_option linter.unusedVariables false
set_option linter.unusedSimpArgs false

theorem own_lit (w : World) (t : ByteArray) : OwnTxts w.heap.size (w.alloc (.cells #[.string t] 9)) (.slice (some ⟨w.heap.size, 0, none⟩) 1 1) [t] := ⟨rfl, .inr ⟨w.heap.size, 1, #[.string t], rfl, Nat.le_refl _, heap_alloc_last w _, by first | decide | simp, by first | decide | simp, rfl, rfl⟩⟩
/-- The lines up to the instruction k of thread j. -/
def linesUp (ini : List Int) (thr : List (List Ins)) (j : Nat) : List ByteArray := (cellsL ini :: ((thr.take j).map thrL).flatten).map mkT
theorem linesUp_all (ini : List Int) (thr : List (List Ins)) : linesUp ini thr thr.length = (linesP ini thr).map mkT := by
  unfold linesUp linesP
  rw [List.take_length]
theorem linesUp_succ (ini : List Int) (thr : List (List Ins)) {j : Nat} (hj : j < thr.length) : linesUp ini thr (j + 1) = linesUp ini thr j ++ (threadW :: (thr.getD j []).map (fun x => mkT (insL x))) := by
  unfold linesUp
  have e : thr.getD j [] = thr[j] := by rw [List.getD_eq_getElem?_getD, List.getElem?_eq_getElem hj]; rfl
  rw [e, List.take_add_one, List.getElem?_eq_getElem hj]
  simp only [Option.toList_some, List.map_append, List.map_cons, List.map_nil, List.flatten_append, List.flatten_cons, List.flatten_nil, List.append_nil, thrL, mkT_self, List.map_map, List.cons_append]
  rfl
theorem lines_few (ini : List Int) : ∀ (thr : List (List Ins)), (∀ c ∈ thr, c.length ≤ 40) → (linesP ini thr).length ≤ 1 + 41 * thr.length
  | [], _ => by simp [linesP]
  | c :: r, h => by
    have h1 := lines_few ini r (fun x hx => h x (List.mem_cons_of_mem _ hx))
    have h2 := h c (List.mem_cons_self ..)
    simp only [linesP, List.length_cons, List.map_cons, List.flatten_cons, List.length_append, thrL, List.length_map] at h1 ⊢
    omega
theorem linesUp_few (ini : List Int) {thr : List (List Ins)} (h : ∀ c ∈ thr, c.length ≤ 40) (ht : thr.length ≤ 4) (j : Nat) : (linesUp ini thr j).length ≤ 165 := by
  have := lines_few ini (thr.take j) (fun c hc => h c (List.mem_of_mem_take hc))
  have h2 : (thr.take j).length ≤ 4 := Nat.le_trans (List.length_take_le' ..) ht
  unfold linesUp
  unfold linesP at this
  rw [List.length_map]
  omega
theorem line_len {ini : List Int} {thr : List (List Ins)} (hi : ini.length ≤ 8) (hn : ∀ v ∈ ini, i64B v) (hx : ∀ c ∈ thr, ∀ x ∈ c, Ins64 x) : ∀ w ∈ linesP ini thr, w.length ≤ 200 := by
  intro w hw
  rcases List.mem_cons.1 hw with rfl | hw
  · have := cellsL_len hi hn; omega
  · obtain ⟨l, hl, hw⟩ := List.mem_flatten.1 hw
    obtain ⟨c, hc, rfl⟩ := List.mem_map.1 hl
    rcases List.mem_cons.1 hw with rfl | hw
    · decide
    · obtain ⟨x, hxc, rfl⟩ := List.mem_map.1 hw
      have := lineI_len (hx c hc x hxc)
      unfold insL
      simp only [List.length_cons]
      omega
end Go.Proofs.YthopmdfichfhdaaGreatDoor

namespace Go.Proofs.YthopmdfichfhdaaGreatDoor
open Go.ChangeShapes Go.WideShapes Go.ChangeAt Go.RowKit
set_option linter.unusedVariables false
set_option linter.unusedSimpArgs false

theorem two_add (l : List UInt8) : (⟨#[32, 32]⟩ : ByteArray) ++ mkT l = mkT (32 :: 32 :: l) := by
  apply ByteArray.ext
  simp [mkT]
theorem end_add (l : List UInt8) : mkT l ++ (⟨#[10]⟩ : ByteArray) = mkT (l ++ [10]) := by
  apply ByteArray.ext
  simp [mkT]
theorem map_back (l : List (List UInt8)) : (l.map mkT).map (·.data.toList) = l := by
  rw [List.map_map]
  exact List.map_id l
set_option maxRecDepth 100000 in
set_option maxHeartbeats 16000000 in
/-- The line of the first values, written by the program. -/
theorem implCellsLine {ini : List Int} {iv : Value} (w : World) (h : NIn w iv ini) (hi : ini.length ≤ 8) (hn : ∀ v ∈ ini, i64B v) (hT : PowT w) :
    Calls Tryz.prog 42 #[iv] w fun e w' => e = .returned (.string (mkT (cellsL ini))) ∧ Below w.heap.size w w' := by
  have HP : Hid (∀ W, Below w.heap.size w W → NIn W iv ini) := fun W hW => h.below hW
  have HT : Hid (∀ W, Below w.heap.size w W → PowT W) := fun W hW => hT.below hW
  have HN : Hid (∀ v ∈ ini, i64B v) := hn
  obtain ⟨ia, ic, rfl, -⟩ := h
  have hi' : (ini.length : Int) ≤ 8 := by omega
  clear hn hT
  have oL := own_lit w cellsW
  have bL : Below w.heap.size w (w.alloc (.cells #[.string cellsW] 9)) := (Below.refl _ w).alloc (Nat.le_refl _) _
  have HL : Hid (OwnTxts w.heap.size (w.alloc (.cells #[.string cellsW] 9)) (.slice (some ⟨w.heap.size, 0, none⟩) 1 1) [cellsW] ∧ Below w.heap.size w (w.alloc (.cells #[.string cellsW] 9))) := ⟨oL, bL⟩
  clear oL bL
  go_enter Tryz.func42, Tryz.ntmps42
  have hcw : ({ data := #[99, 101, 108, 108, 115] } : ByteArray) = cellsW := rfl
  rw [hcw]
  go_wp2_with fail
  go_loopw [3, 5, 9] (fun i3 _ i9 wr => ∃ (j : Nat) (a3 : Option Addr) (c3 : Nat) (ls : List ByteArray), i3 = .slice a3 ls.length c3 ∧ i9 = .int .i64 (j : Int) ∧ j ≤ ini.length ∧ ls = cellsW :: (ini.take j).map itoaT ∧ OwnTxts w.heap.size wr (.slice a3 ls.length c3) ls ∧ Below w.heap.size w wr) (fun _ _ i9 _ => ini.length - (intOf i9).toNat)
  case atStart => exact ⟨0, _, _, [cellsW], rfl, rfl, Nat.zero_le _, rfl, HL.out.1, HL.out.2⟩
  case round =>
    obtain ⟨j, a3, c3, ls, rfl, rfl, hj, hls, hown, hB⟩ := hrel
    have HLS : Hid (ls = cellsW :: (ini.take j).map itoaT) := hls
    have hlen : ls.length ≤ 9 := by rw [hls]; simp only [List.length_cons, List.length_map, List.length_take]; omega
    have hszA : ls.length + 1 ≤ 1000000 := by omega
    have HO : Hid (OwnTxts w.heap.size wr (.slice a3 ls.length c3) ls) := hown
    have hbs := hB.size
    clear hls hown
    by_cases hjn : j < ini.length
    · have hjn' : (j : Int) < (ini.length : Int) := by omega
      obtain ⟨a', c', e', hI⟩ := HP.out wr hB
      cases e'
      obtain ⟨bi, oi, rfl, hcell⟩ := hI j hjn
      have hv : i64B (ini.getD j 0) := HN.out _ (by rw [List.getD_eq_getElem?_getD, List.getElem?_eq_getElem hjn]; exact List.getElem_mem hjn)
      have hstep : (ini.take (j + 1)).map itoaT = (ini.take j).map itoaT ++ [itoaT (ini.getD j 0)] := by
        rw [List.take_add_one, List.getElem?_eq_getElem hjn, List.map_append, List.getD_eq_getElem?_getD, List.getElem?_eq_getElem hjn]
        rfl
      obtain ⟨n, hne⟩ : ∃ n, ini.getD j 0 = n := ⟨_, rfl⟩
      rw [hne] at hcell hv hstep
      have cn := implItoa hv wr (HT.out wr hB)
      have HST : Hid ((ini.take (j + 1)).map itoaT = (ini.take j).map itoaT ++ [itoaT n]) := hstep
      clear hstep hne hI hv
      go_wp2_with (first
        | (go_at_call 50; go_must (refine cn.mono ?_; rintro e w9 ⟨rfl, hb9⟩; have hs9 : w.heap.size ≤ w9.heap.size := Nat.le_trans hbs hb9.size))
        | (at_builtin; go_must (refine wpList_appendTxts rfl (.tmp 13) (.tmp 16) rfl w.heap.size (.slice a3 ls.length c3) ls rfl (OwnTxts.below (HO.out.below hb9) ((Below.refl _ _).alloc (Nat.le_refl _) _)) _ [itoaT n] rfl (TxtsAt.new w9 (itoaT n)) (by simp; omega) (by simp only [World.size_alloc]; omega) ?_; intro v10 w10 hown10 hB10 hgr10 hnil10)))
      obtain ⟨va, vc, rfl⟩ := row_shape hown10
      exact ⟨⟨j + 1, va, vc, ls ++ [itoaT n], by simp, rfl, hjn, by rw [HST.out, HLS.out]; rfl, by simpa using hown10, ((hB.trans (hb9.mono hB.size)).alloc hs9 _).trans hB10⟩, by simp [intOf]; omega⟩
    · obtain rfl : j = ini.length := by omega
      have hjn' : ¬ ((ini.length : Int) < (ini.length : Int)) := by omega
      have hjoin : Lib.join (ls.map (·.data.toList)) [32] = cellsL ini := by
        rw [HLS.out, List.take_length, List.map_cons, List.map_map]
        rfl
      have hz := cellsL_len hi HN.out
      have cj := implJoin HO.out ⟨#[32]⟩ (by omega) (by rw [show (⟨#[32]⟩ : ByteArray).data.toList = [32] from rfl, hjoin]; omega)
      rw [show (⟨#[32]⟩ : ByteArray).data.toList = [32] from rfl, hjoin] at cj
      have HBR : Hid (Below w.heap.size w wr) := hB
      clear hjoin HO HLS hB HL
      go_wp2_with (go_at_call 43; go_must (refine cj.mono ?_; rintro e w4 ⟨rfl, hb4⟩))
      go_ret
      exact ⟨rfl, HBR.out.trans (hb4.mono HBR.out.size)⟩
set_option maxRecDepth 100000 in
set_option maxHeartbeats 16000000 in
theorem implProgText {ini : List Int} {thr : List (List Ins)} {iv tv : Value} (w : World) (h : PIn w iv tv ini thr) (hi : ini.length ≤ 8) (ht : thr.length ≤ 4) (hc : ∀ c ∈ thr, c.length ≤ 40) (hn : ∀ v ∈ ini, i64B v) (hx : ∀ c ∈ thr, ∀ x ∈ c, Ins64 x) (hT : PowT w) :
    Calls Tryz.prog 31 #[.agg #[iv, tv]] w fun e w' => e = .returned (.string (textP ini thr)) ∧ Below w.heap.size w w' := by
  have HP : Hid (∀ W, Below w.heap.size w W → PIn W iv tv ini thr) := fun W hW => h.below hW
  have HT : Hid (∀ W, Below w.heap.size w W → PowT W) := fun W hW => hT.below hW
  have HN : Hid (∀ v ∈ ini, i64B v) := hn
  have HX : Hid (∀ c ∈ thr, ∀ x ∈ c, Ins64 x) := hx
  have HC : Hid (∀ c ∈ thr, c.length ≤ 40) := hc
  obtain ⟨⟨ia, ic, rfl, -⟩, ta, tc, rfl, -⟩ := h
  have hi' : (ini.length : Int) ≤ 8 := by omega
  have ht' : (thr.length : Int) ≤ 4 := by omega
  clear hn hx hc hT
  have bB : Below w.heap.size w (w.alloc (.cells #[.slice ia ini.length ic, .slice ta thr.length tc] 30)) := (Below.refl _ w).alloc (Nat.le_refl _) _
  have kB : Blk (w.alloc (.cells #[.slice ia ini.length ic, .slice ta thr.length tc] 30)) w.heap.size 30 #[.slice ia ini.length ic, .slice ta thr.length tc] := heap_alloc_last w _
  have sB : (w.alloc (.cells #[.slice ia ini.length ic, .slice ta thr.length tc] 30)).heap.size = w.heap.size + 1 := by simp
  go_enter Tryz.func31, Tryz.ntmps31
  go_upto_region 1 with fail
  obtain ⟨wB, hwB⟩ : ∃ W, w.alloc (.cells #[.slice ia ini.length ic, .slice ta thr.length tc] 30) = W := ⟨_, rfl⟩
  rw [hwB] at bB kB sB ⊢
  clear hwB
  obtain ⟨b0, hb0⟩ : ∃ b, w.heap.size = b := ⟨_, rfl⟩
  rw [hb0] at kB sB ⊢
  have HKB : Hid (∀ W, Below wB.heap.size wB W → Blk W b0 30 #[.slice ia ini.length ic, .slice ta thr.length tc]) := fun W hW => kB.below hW
  have HBB : Hid (∀ W, Below wB.heap.size wB W → Below w.heap.size w W) := fun W hW => good_below bB hW
  have HS : Hid (wB.heap.size = b0 + 1 ∧ w.heap.size = b0) := ⟨sB, hb0⟩
  have lB0 := kB.cell 0
  simp at lB0
  have cc0 : Calls Tryz.prog 42 #[.slice ia ini.length ic] wB fun e w' => e = .returned (.string (mkT (cellsL ini))) ∧ Below wB.heap.size wB w' := implCellsLine wB (HP.out wB bB).i hi HN.out (HT.out wB bB)
  clear kB bB sB hb0
  go_upto_region 2 with (go_at_call 42; go_must (refine cc0.mono ?_; rintro e w4 ⟨rfl, hb4⟩))
  have bA : Below wB.heap.size wB (w4.alloc (.cells #[.string (mkT (cellsL ini))] 9)) := hb4.alloc hb4.size _
  have oA := own_lit w4 (mkT (cellsL ini))
  have hs4 : wB.heap.size ≤ w4.heap.size := hb4.size
  have lA := (HKB.out _ bA).cell 1
  simp at lA
  have e0 : [mkT (cellsL ini)] = linesUp ini thr 0 := rfl
  have HA : Hid (OwnTxts wB.heap.size (w4.alloc (.cells #[.string (mkT (cellsL ini))] 9)) (.slice (some ⟨w4.heap.size, 0, none⟩) 1 1) [mkT (cellsL ini)] ∧ Below wB.heap.size wB (w4.alloc (.cells #[.string (mkT (cellsL ini))] 9))) := ⟨row_mono oA hs4, bA⟩
  clear bA oA hb4 lB0 cc0
  go_wp2_with fail
  go_loopw [3, 15] (fun i6 i31 wr => ∃ (j : Nat) (a6 : Option Addr) (c6 : Nat) (ls : List ByteArray), i6 = .slice a6 ls.length c6 ∧ i31 = .int .i64 (j : Int) ∧ j ≤ thr.length ∧ ls = linesUp ini thr j ∧ OwnTxts wB.heap.size wr (.slice a6 ls.length c6) ls ∧ Below wB.heap.size wB wr) (fun _ i31 _ => thr.length - (intOf i31).toNat)
  case atStart => exact ⟨0, _, _, [mkT (cellsL ini)], rfl, rfl, Nat.zero_le _, rfl, HA.out.1, HA.out.2⟩
  case round =>
    obtain ⟨j, a6, c6, ls2, rfl, rfl, hj2, hls2, hown2, hB2⟩ := hrel
    have HLS2 : Hid (ls2 = linesUp ini thr j) := hls2
    have hlen2 : ls2.length ≤ 165 := by rw [hls2]; exact linesUp_few ini HC.out ht j
    have HO2 : Hid (OwnTxts wB.heap.size wr (.slice a6 ls2.length c6) ls2) := hown2
    have hbs2 := hB2.size
    have HB2 : Hid (Below wB.heap.size wB wr) := hB2
    clear hls2 hown2 hB2
    by_cases hjn2 : j < thr.length
    · have hjn2' : (j : Int) < (thr.length : Int) := by omega
      obtain ⟨-, a', c', e', hTt⟩ := HP.out w (Below.refl _ w)
      cases e'
      obtain ⟨bt, ot, v, rfl, hcell, hci⟩ := hTt j hjn2
      have hcm : thr.getD j [] ∈ thr := by rw [List.getD_eq_getElem?_getD, List.getElem?_eq_getElem hjn2]; exact List.getElem_mem hjn2
      have hc40 := HC.out _ hcm
      have hsucc := linesUp_succ ini thr hjn2
      have hxs := HX.out _ hcm
      obtain ⟨C, hC⟩ : ∃ C, thr.getD j [] = C := ⟨_, rfl⟩
      rw [hC] at hci hc40 hsucc hxs
      have hcr := ((HBB.out wr HB2.out).cell (World.block_lt_of_cell? _ _ hcell)).trans hcell
      have HCI : Hid (∀ W, Below wB.heap.size wB W → CIn W v C) := fun W hW => hci.below (HBB.out W hW)
      obtain ⟨ca, cc, rfl, -⟩ := hci
      have HSU : Hid (linesUp ini thr (j + 1) = linesUp ini thr j ++ (threadW :: C.map (fun x => mkT (insL x)))) := hsucc
      have HXS : Hid (∀ x ∈ C, Ins64 x) := hxs
      have hc40' : (C.length : Int) ≤ 40 := by omega
      have hszB : ls2.length + 1 ≤ 1000000 := by omega
      clear hcell hC hcm hsucc hxs hTt
      go_upto_region 6 with (at_builtin; go_must (refine wpList_appendTxts rfl (.tmp 19) (.tmp 20) rfl wB.heap.size (.slice a6 ls2.length c6) ls2 rfl (OwnTxts.below HO2.out ((Below.refl _ _).alloc (Nat.le_refl _) _)) _ [threadW] rfl (TxtsAt.new wr threadW) (by simp; omega) (by simp only [World.size_alloc]; omega) ?_; intro v5 w5 hown5 hB5 hgr5 hnil5))
      obtain ⟨va, vc, rfl⟩ := row_shape hown5
      obtain ⟨N5, hN5⟩ : ∃ n, (ls2 ++ [threadW]).length = n := ⟨_, rfl⟩
      rw [hN5] at hown5 ⊢
      have HN5 : Hid ((ls2 ++ [threadW]).length = N5) := hN5
      clear hN5
      have h5 : Below wB.heap.size wB w5 := (HB2.out.alloc hbs2 _).trans hB5
      have HA5 : Hid (OwnTxts wB.heap.size w5 (.slice va N5 vc) (ls2 ++ [threadW]) ∧ Below wB.heap.size wB w5) := ⟨hown5, h5⟩
      clear hown5 hB5 hgr5 hnil5 h5 lA HA hcr
      go_wp2_with fail
      go_loopw [3, 24] (fun i6 i40 wr => ∃ (k : Nat) (a6 : Option Addr) (c6 : Nat) (ls : List ByteArray), i6 = .slice a6 ls.length c6 ∧ i40 = .int .i64 (k : Int) ∧ k ≤ C.length ∧ ls = linesUp ini thr j ++ (threadW :: (C.take k).map (fun x => mkT (insL x))) ∧ OwnTxts wB.heap.size wr (.slice a6 ls.length c6) ls ∧ Below wB.heap.size wB wr) (fun _ i40 _ => C.length - (intOf i40).toNat)
      case atStart => exact ⟨0, va, vc, ls2 ++ [threadW], by rw [HN5.out], rfl, Nat.zero_le _, by rw [HLS2.out]; rfl, by rw [HN5.out]; exact HA5.out.1, HA5.out.2⟩
      case round =>
        obtain ⟨k, a7, c7, ls3, rfl, rfl, hk3, hls3, hown3, hB3⟩ := hrel
        have HLS3 : Hid (ls3 = linesUp ini thr j ++ (threadW :: (C.take k).map (fun x => mkT (insL x)))) := hls3
        have hlen3 : ls3.length ≤ 300 := by
          have := linesUp_few ini HC.out ht j
          rw [hls3]
          simp only [List.length_append, List.length_cons, List.length_map, List.length_take]
          omega
        have HO3 : Hid (OwnTxts wB.heap.size wr (.slice a7 ls3.length c7) ls3) := hown3
        have hbs3 := hB3.size
        have HB3 : Hid (Below wB.heap.size wB wr) := hB3
        clear hls3 hown3 hB3
        by_cases hkn : k < C.length
        · have hkn' : (k : Int) < (C.length : Int) := by omega
          obtain ⟨a', c', e', hCc⟩ := HCI.out wr HB3.out
          cases e'
          obtain ⟨bc, oc, rfl, hf⟩ := hCc k hkn
          have hxk := HXS.out (C.getD k ins0) (by rw [List.getD_eq_getElem?_getD, List.getElem?_eq_getElem hkn]; exact List.getElem_mem hkn)
          have htk : (C.take (k + 1)).map (fun x => mkT (insL x)) = (C.take k).map (fun x => mkT (insL x)) ++ [mkT (insL (C.getD k ins0))] := by
            rw [List.take_add_one, List.getElem?_eq_getElem hkn, List.map_append, List.getD_eq_getElem?_getD, List.getElem?_eq_getElem hkn]
            rfl
          obtain ⟨x, hxe⟩ : ∃ y, C.getD k ins0 = y := ⟨_, rfl⟩
          rw [hxe] at hf hxk htk
          have h3X : Below wB.heap.size wB (wr.alloc (.cells (insC x) 43)) := HB3.out.alloc hbs3 _
          have cw := implInsWords x hxk (wr.alloc (.cells (insC x) 43)) (HT.out _ (HBB.out _ h3X))
          have hjl := lineI_len hxk
          have hw6 := (wordsI_len hxk).1
          have eL : insL x = 32 :: 32 :: Lib.join (wordsI x) [32] := rfl
          obtain ⟨WS, hWS⟩ : ∃ l, wordsI x = l := ⟨_, rfl⟩
          rw [hWS] at cw hjl hw6 eL
          obtain ⟨L, hL⟩ : ∃ l, Lib.join WS [32] = l := ⟨_, rfl⟩
          rw [hL] at hjl eL
          rw [eL] at htk
          have HTK : Hid ((C.take (k + 1)).map (fun x => mkT (insL x)) = (C.take k).map (fun x => mkT (insL x)) ++ [mkT (32 :: 32 :: L)]) := htk
          have HJ : Hid (Lib.join ((WS.map mkT).map (·.data.toList)) [32] = L ∧ (WS.map mkT).length ≤ 6) := ⟨by rw [map_back]; exact hL, by rw [List.length_map]; exact hw6⟩
          have hsz : (mkT L).size ≤ 138 := hjl
          have h3X' := h3X.size
          have HOX : Hid (OwnTxts wB.heap.size (wr.alloc (.cells (insC x) 43)) (.slice a7 ls3.length c7) ls3) := HO3.out.below ((Below.refl _ _).alloc (Nat.le_refl _) _)
          have HBX : Hid (Below wB.heap.size wB (wr.alloc (.cells (insC x) 43))) := h3X
          have hszC : ls3.length + 1 ≤ 1000000 := by omega
          obtain ⟨op, ce, rg, ar, an, br, bn, od, cq, tg⟩ := x
          have u0 := hf 0 (by omega)
          have u1 := hf 1 (by omega)
          have u2 := hf 2 (by omega)
          have u3 := hf 3 (by omega)
          have u4 := hf 4 (by omega)
          have u5 := hf 5 (by omega)
          have u6 := hf 6 (by omega)
          have u7 := hf 7 (by omega)
          have u8 := hf 8 (by omega)
          have u9 := hf 9 (by omega)
          clear hf hxk htk hL hWS eL hxe hjl hw6 h3X hCc
          unfold insV at cw
          unfold insC at cw u0 u1 u2 u3 u4 u5 u6 u7 u8 u9 HOX HBX h3X'
          dsimp only at cw HOX HBX h3X'
          simp at u0 u1 u2 u3 u4 u5 u6 u7 u8 u9
          go_upto_region 9 with fail
          clear u0 u1 u2 u3 u4 u5 u6 u7 u8 u9
          go_wp2_with (first
            | (go_at_call 44; go_must (refine cw.mono ?_; rintro e w7 ⟨⟨v7, rfl, how7⟩, hb7⟩; have cj7 := implJoin how7 ⟨#[32]⟩ (by have := HJ.out.2; omega) (by rw [show (⟨#[32]⟩ : ByteArray).data.toList = [32] from rfl, HJ.out.1]; have : L.length ≤ 138 := hsz; omega); rw [show (⟨#[32]⟩ : ByteArray).data.toList = [32] from rfl, HJ.out.1] at cj7))
            | (go_at_call 43; go_must (refine cj7.mono ?_; rintro e w8 ⟨rfl, hb8⟩; have hs8 : wB.heap.size ≤ w8.heap.size := Nat.le_trans h3X' (Nat.le_trans hb7.size hb8.size)))
            | (at_builtin; go_must (refine wpList_appendTxts rfl (.tmp 28) (.tmp 33) rfl wB.heap.size (.slice a7 ls3.length c7) ls3 rfl (OwnTxts.below ((HOX.out.below hb7).below hb8) ((Below.refl _ _).alloc (Nat.le_refl _) _)) _ [⟨#[32, 32]⟩ ++ mkT L] rfl (TxtsAt.new w8 (⟨#[32, 32]⟩ ++ mkT L)) (by simp; omega) (by simp only [World.size_alloc]; omega) ?_; intro v10 w10 hown10 hB10 hgr10 hnil10)))
          obtain ⟨va9, vc9, rfl⟩ := row_shape hown10
          have e1 : ls3 ++ [⟨#[32, 32]⟩ ++ mkT L] = linesUp ini thr j ++ (threadW :: (C.take (k + 1)).map (fun x => mkT (insL x))) := by rw [HTK.out, HLS3.out, two_add, List.append_assoc]; rfl
          have b1 : Below wB.heap.size wB w10 := (((HBX.out.trans (hb7.mono HBX.out.size)).trans (hb8.mono (Nat.le_trans HBX.out.size hb7.size))).alloc hs8 _).trans hB10
          exact ⟨⟨k + 1, va9, vc9, ls3 ++ [⟨#[32, 32]⟩ ++ mkT L], by simp, rfl, hkn, e1, hown10, b1⟩, by simp [intOf]; omega⟩
        · obtain rfl : k = C.length := by omega
          have hkn' : ¬ ((C.length : Int) < (C.length : Int)) := by omega
          go_wp2_with fail
          exact ⟨⟨j + 1, _, _, ls3, rfl, rfl, hjn2, by rw [HLS3.out, HSU.out, List.take_length], HO3.out, HB3.out⟩, by simp [intOf]; omega⟩
    · obtain rfl : j = thr.length := by omega
      have hjn2' : ¬ ((thr.length : Int) < (thr.length : Int)) := by omega
      have hjoin2 : Lib.join (ls2.map (·.data.toList)) [10] = Lib.join (linesP ini thr) [10] := by
        rw [HLS2.out, linesUp_all, map_back]
      have hz2 : (Lib.join (linesP ini thr) [10]).length ≤ 100000 := by
        have h1 := join_le (s := [10]) _ (line_len hi HN.out HX.out)
        have h2 := lines_few ini thr HC.out
        have h3 : (linesP ini thr).length * (200 + [10].length) ≤ 165 * 201 := Nat.mul_le_mul (by omega) (by decide)
        omega
      have cj := implJoin HO2.out ⟨#[10]⟩ (by omega) (by rw [show (⟨#[10]⟩ : ByteArray).data.toList = [10] from rfl, hjoin2]; omega)
      rw [show (⟨#[10]⟩ : ByteArray).data.toList = [10] from rfl, hjoin2] at cj
      have hfin : textP ini thr = mkT (Lib.join (linesP ini thr) [10] ++ [10]) := rfl
      obtain ⟨J, hJ⟩ : ∃ l, Lib.join (linesP ini thr) [10] = l := ⟨_, rfl⟩
      rw [hJ] at cj hz2 hfin
      have hsz2 : (mkT J).size ≤ 100000 := hz2
      have HF : Hid (textP ini thr = mkT (J ++ [10])) := hfin
      clear hjoin2 hz2 hfin hJ lA HA
      go_wp2_with (go_at_call 43; go_must (refine cj.mono ?_; rintro e w9 ⟨rfl, hb9⟩))
      go_ret
      refine ⟨by rw [HF.out, ← end_add]; rfl, (HBB.out _ HB2.out).trans (hb9.mono (HBB.out _ HB2.out).size)⟩
end Go.Proofs.YthopmdfichfhdaaGreatDoor
