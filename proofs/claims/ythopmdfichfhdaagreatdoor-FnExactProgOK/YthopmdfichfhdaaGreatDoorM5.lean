/-
  A program's text, written by the specification: ProgText. No statement of the seat is proved here.
-/
import Derived.Test.YthopmdfichfhdaaGreatDoorM4
import Derived.Test.YthopmdfichfhdaaGreatDoorM1
namespace Go.Proofs.YthopmdfichfhdaaGreatDoor
open Go.ChangeShapes Go.WideShapes Go.ChangeAt Go.RowKit
set_option linter.unusedVariables false
set_option linter.unusedSimpArgs false

/-- Lines, each with its end. -/
def upL (ls : List (List UInt8)) : List UInt8 := (ls.map (· ++ [10])).flatten
theorem upL_append (a b : List (List UInt8)) : upL (a ++ b) = upL a ++ upL b := by simp [upL]
theorem tail_up : ∀ r : List (List UInt8), Lib.joinTail [10] r ++ [10] = [10] ++ upL r
  | [] => rfl
  | y :: r => by
    have h := tail_up r
    unfold Lib.joinTail upL at h ⊢
    simp only [List.map_cons, List.flatten_cons, List.append_assoc] at h ⊢
    rw [h]
theorem join_up {ls : List (List UInt8)} (h : ls ≠ []) : Lib.join ls [10] ++ [10] = upL ls := by
  cases ls with
  | nil => exact absurd rfl h
  | cons x r =>
    rw [Lib.join_cons, List.append_assoc, tail_up]
    simp [upL]
theorem text_up (ini : List Int) (thr : List (List Ins)) : textP ini thr = mkT (upL (linesP ini thr)) := by
  unfold textP
  rw [join_up (by unfold linesP; simp)]
theorem upL_len {ls : List (List UInt8)} (h : ∀ l ∈ ls, l.length ≤ 200) : (upL ls).length ≤ ls.length * 201 := by
  induction ls with
  | nil => simp [upL]
  | cons x r ih =>
    have h1 := h x (List.mem_cons_self ..)
    have h2 := ih (fun l hl => h l (List.mem_cons_of_mem _ hl))
    unfold upL at h2 ⊢
    simp only [List.map_cons, List.flatten_cons, List.length_append, List.length_cons, List.length_nil]
    have : (r.length + 1) * 201 = r.length * 201 + 201 := by omega
    omega
/-- The first line up to number j, as the specification builds it. -/
def cellsUp (ini : List Int) (j : Nat) : List UInt8 := cellsW.data.toList ++ (ini.take j).flatMap (fun n => 32 :: Lib.itoa n)
theorem cellsUp_succ (ini : List Int) {j : Nat} (hj : j < ini.length) : cellsUp ini (j + 1) = cellsUp ini j ++ (32 :: Lib.itoa ini[j]) := by
  unfold cellsUp
  rw [List.take_add_one, List.getElem?_eq_getElem hj, List.flatMap_append, List.append_assoc]
  simp
theorem cellsUp_all (ini : List Int) : cellsUp ini ini.length = cellsL ini := by
  unfold cellsUp cellsL
  rw [List.take_length, Lib.join_cons]
  unfold Lib.joinTail
  rw [List.map_map, List.flatMap_def]
  rfl
theorem cellsUp_len {ini : List Int} (h : ∀ v ∈ ini, i64B v) : ∀ j, (cellsUp ini j).length ≤ 5 + 22 * j
  | 0 => by simp [cellsUp]; decide
  | j + 1 => by
    by_cases hj : j < ini.length
    · rw [cellsUp_succ ini hj, List.length_append, List.length_cons]
      have h1 := cellsUp_len h j
      have h2 := itoa_len (h ini[j] (List.getElem_mem hj))
      omega
    · have h1 := cellsUp_len h j
      have e : cellsUp ini (j + 1) = cellsUp ini j := by
        unfold cellsUp
        rw [List.take_of_length_le (by omega), List.take_of_length_le (by omega)]
      rw [e]
      omega
/-- The lines up to thread k. -/
def outL (ini : List Int) (thr : List (List Ins)) (k : Nat) : List (List UInt8) := cellsL ini :: ((thr.take k).map thrL).flatten
/-- The lines up to instruction m of a thread. -/
def insUp (C : List Ins) (m : Nat) : List (List UInt8) := threadW.data.toList :: (C.take m).map insL
theorem outL_succ (ini : List Int) (thr : List (List Ins)) {k : Nat} (hk : k < thr.length) : outL ini thr (k + 1) = outL ini thr k ++ insUp thr[k] (thr[k]).length := by
  unfold outL insUp
  rw [List.take_add_one, List.getElem?_eq_getElem hk, List.take_length]
  simp only [Option.toList_some, List.map_append, List.map_cons, List.map_nil, List.flatten_append, List.flatten_cons, List.flatten_nil, List.append_nil, thrL, List.cons_append]
theorem outL_all (ini : List Int) (thr : List (List Ins)) : outL ini thr thr.length = linesP ini thr := by
  unfold outL linesP
  rw [List.take_length]
theorem insUp_succ (C : List Ins) {m : Nat} (hm : m < C.length) : insUp C (m + 1) = insUp C m ++ [insL C[m]] := by
  unfold insUp
  rw [List.take_add_one, List.getElem?_eq_getElem hm]
  simp only [Option.toList_some, List.map_append, List.map_cons, List.map_nil, List.cons_append]
theorem out_size {ini : List Int} {thr : List (List Ins)} (hi : ini.length ≤ 8) (ht : thr.length ≤ 4) (hc : ∀ c ∈ thr, c.length ≤ 40) (hn : ∀ v ∈ ini, i64B v) (hx : ∀ c ∈ thr, ∀ x ∈ c, Ins64 x) (k : Nat) : (mkT (upL (outL ini thr k))).size ≤ 35000 := by
  have h1 : (outL ini thr k).length ≤ 165 := by
    have := linesUp_few ini hc ht k
    unfold linesUp at this
    rw [List.length_map] at this
    exact this
  have h2 := upL_len (ls := outL ini thr k) (fun l hl => by
    refine line_len hi hn hx l ?_
    unfold outL at hl
    unfold linesP
    rcases List.mem_cons.1 hl with rfl | hl
    · exact List.mem_cons_self ..
    · refine List.mem_cons_of_mem _ ?_
      obtain ⟨t, ht1, ht2⟩ := List.mem_flatten.1 hl
      obtain ⟨c, hc1, rfl⟩ := List.mem_map.1 ht1
      exact List.mem_flatten.2 ⟨_, List.mem_map.2 ⟨c, List.mem_of_mem_take hc1, rfl⟩, ht2⟩)
  show (upL (outL ini thr k)).length ≤ 35000
  omega
theorem ins_size {C : List Ins} (hc : C.length ≤ 40) (hx : ∀ x ∈ C, Ins64 x) (m : Nat) : (mkT (upL (insUp C m))).size ≤ 10000 := by
  have h1 : (insUp C m).length ≤ 41 := by
    unfold insUp
    simp only [List.length_cons, List.length_map, List.length_take]
    omega
  have h2 := upL_len (ls := insUp C m) (fun l hl => by
    unfold insUp at hl
    rcases List.mem_cons.1 hl with rfl | hl
    · decide
    · obtain ⟨x, hx1, rfl⟩ := List.mem_map.1 hl
      have := lineI_len (hx x (List.mem_of_mem_take hx1))
      unfold insL
      simp only [List.length_cons]
      omega)
  show (upL (insUp C m)).length ≤ 10000
  omega
theorem add_line (o a : List (List UInt8)) (l : List UInt8) : mkT (upL (o ++ (a ++ [l]))) = mkT (upL (o ++ a)) ++ mkT (l ++ [10]) := by
  rw [mkT_append, ← List.append_assoc, upL_append (o ++ a)]
  simp [upL]
theorem two_end (L : List UInt8) : ((⟨#[32, 32]⟩ : ByteArray) ++ mkT L) ++ ⟨#[10]⟩ = mkT ((32 :: 32 :: L) ++ [10]) := by
  apply ByteArray.ext
  simp [mkT]
theorem num_add (l k : List UInt8) : mkT l ++ ((⟨#[32]⟩ : ByteArray) ++ mkT k) = mkT (l ++ (32 :: k)) := by
  apply ByteArray.ext
  simp [mkT]
theorem end_cells (l : List UInt8) : mkT l ++ (⟨#[10]⟩ : ByteArray) = mkT (upL [l]) := by
  apply ByteArray.ext
  simp [mkT, upL]
theorem add_thread (o : List (List UInt8)) (C : List Ins) : mkT (upL o) ++ (⟨#[116, 104, 114, 101, 97, 100, 10]⟩ : ByteArray) = mkT (upL (o ++ insUp C 0)) := by
  have e : (⟨#[116, 104, 114, 101, 97, 100, 10]⟩ : ByteArray) = mkT (threadW.data.toList ++ [10]) := by kernel_rfl
  rw [e, mkT_append, upL_append]
  unfold insUp
  simp [upL]
set_option maxRecDepth 100000 in
set_option maxHeartbeats 16000000 in
theorem specProgText {ini : List Int} {thr : List (List Ins)} {iv tv : Value} (w : World) (h : PIn w iv tv ini thr) (hi : ini.length ≤ 2000000) (ht : thr.length ≤ 2000000) (hcl : ∀ c ∈ thr, c.length ≤ 2000000) (hn : ∀ v ∈ ini, i64B v) (hx : ∀ c ∈ thr, ∀ x ∈ c, Ins64 x) :
    Calls Tryz.prog 10 #[.agg #[iv, tv]] w fun e w' => e = .returned (.tuple #[.string (rightT ini thr), .int .i64 (if holdsB (OkP ini thr) = true then 0 else 1)]) ∧ Below w.heap.size w w' := by
  have HP : Hid (∀ W, Below w.heap.size w W → PIn W iv tv ini thr) := fun W hW => h.below hW
  have bB : Below w.heap.size w (w.alloc (.cells #[iv, tv] 30)) := (Below.refl _ w).alloc (Nat.le_refl _) _
  have kB : Blk (w.alloc (.cells #[iv, tv] 30)) w.heap.size 30 #[iv, tv] := heap_alloc_last w _
  have ck := specProgOK (w.alloc (.cells #[iv, tv] 30)) (h.below bB) hi ht hcl
  by_cases ok : OkP ini thr
  case neg =>
    rw [holdsB_false ok] at ck ⊢
    rw [rightT_no ok]
    obtain ⟨⟨ia, ic, rfl, -⟩, ta, tc, rfl, -⟩ := h
    clear hn hx hcl ok kB
    go_enter Tryz.func10, Tryz.ntmps10
    go_wp2_with (go_at_call 6; go_must (refine ck.mono ?_; rintro e w2 ⟨rfl, hb2⟩))
    go_ret2
    exact ⟨rfl, good_below bB hb2⟩
  rw [holdsB_true ok] at ck ⊢
  rw [rightT_ok ok]
  have OK : Hid (OkP ini thr) := ok
  have HN : Hid (∀ v ∈ ini, i64B v) := hn
  have HX : Hid (∀ c ∈ thr, ∀ x ∈ c, Ins64 x) := hx
  obtain ⟨X, hX⟩ : ∃ X, textP ini thr = X := ⟨_, rfl⟩
  have HXX : Hid (textP ini thr = X) := hX
  rw [hX]
  clear hX hn hx hcl ok
  obtain ⟨⟨ia, ic, rfl, -⟩, ta, tc, rfl, -⟩ := h
  have hi' : (ini.length : Int) ≤ 8 := by have := OK.out.i8; omega
  have ht' : (thr.length : Int) ≤ 4 := by have := OK.out.t4; omega
  have HSO : Hid (∀ k, (mkT (upL (outL ini thr k))).size ≤ 35000) := fun k => out_size OK.out.i8 OK.out.t4 OK.out.len HN.out HX.out k
  obtain ⟨wA, hwA⟩ : ∃ W, w.alloc (.cells #[.slice ia ini.length ic, .slice ta thr.length tc] 30) = W := ⟨_, rfl⟩
  have HBA : Hid (Below w.heap.size w wA) := by rw [← hwA]; exact bB
  have HKA : Hid (∀ W, Below wA.heap.size wA W → Blk W w.heap.size 30 #[.slice ia ini.length ic, .slice ta thr.length tc]) := by rw [← hwA]; exact fun W hW => kB.below hW
  have HWA : Hid (w.alloc (.cells #[.slice ia ini.length ic, .slice ta thr.length tc] 30) = wA) := hwA
  rw [hwA] at ck
  clear bB kB hwA
  go_enter Tryz.func10, Tryz.ntmps10
  go_upto_region 1 with fail
  rw [HWA.out]
  obtain ⟨b0, hb0⟩ : ∃ b, w.heap.size = b := ⟨_, rfl⟩
  rw [hb0] at HKA ⊢
  have HBB : Hid (∀ W, Below wA.heap.size wA W → Below w.heap.size w W) := fun W hW => good_below HBA.out hW
  have HBC : Hid (∀ W, Below wA.heap.size wA W → Below b0 w W) := fun W hW => hb0 ▸ good_below HBA.out hW
  have kA := HKA.out wA (Below.refl _ _)
  have a0 := kA.cell 0
  have a1 := kA.cell 1
  simp at a0 a1
  clear hb0 kA HWA
  go_upto_region 3 with (go_at_call 6; go_must (refine ck.mono ?_; rintro e wB ⟨rfl, hbB⟩))
  have HB1 : Hid (Below wA.heap.size wA wB) := hbB
  have hcw : ({ data := #[99, 101, 108, 108, 115] } : ByteArray) = mkT (cellsUp ini 0) := by
    unfold cellsUp
    simp [mkT]
    rfl
  rw [hcw]
  go_wp2_with fail
  clear a0 a1 ck hcw
  go_loopw [4, 5] (fun i4 i5 wr => ∃ (j : Nat), i4 = .string (mkT (cellsUp ini j)) ∧ i5 = .int .i64 (j : Int) ∧ j ≤ ini.length ∧ Below wA.heap.size wA wr) (fun _ i5 _ => ini.length - (intOf i5).toNat)
  case atStart => exact ⟨0, rfl, rfl, Nat.zero_le _, hbB⟩
  case round =>
    obtain ⟨j, rfl, rfl, hj, hb⟩ := hrel
    have hz : (mkT (cellsUp ini j)).size ≤ 200 := by
      have h1 := cellsUp_len HN.out j
      show (cellsUp ini j).length ≤ 200
      omega
    clear hbB
    have kr := HKA.out wr hb
    have l0 := kr.cell 0
    have l1 := kr.cell 1
    simp at l0 l1
    clear kr
    by_cases hjn : j < ini.length
    · have hjn' : (j : Int) < (ini.length : Int) := by omega
      obtain ⟨⟨a', c', e', hI⟩, -⟩ := HP.out wr (HBB.out wr hb)
      cases e'
      obtain ⟨bi, oi, rfl, hcell⟩ := hI j hjn
      rw [getD_num hjn] at hcell
      have hn := HN.out ini[j] (List.getElem_mem hjn)
      have cd := fun W => specDigits hn W
      have hzd : (itoaT ini[j]).size ≤ 21 := itoa_len hn
      have hnx : mkT (cellsUp ini j) ++ (⟨#[32]⟩ ++ itoaT ini[j]) = mkT (cellsUp ini (j + 1)) := by rw [cellsUp_succ ini hjn]; exact num_add _ _
      obtain ⟨O, hO⟩ : ∃ O, mkT (cellsUp ini j) = O := ⟨_, rfl⟩
      obtain ⟨D, hD⟩ : ∃ D, itoaT ini[j] = D := ⟨_, rfl⟩
      rw [hO] at hz hnx ⊢
      rw [hD] at cd hzd hnx
      have HNX : Hid (O ++ (⟨#[32]⟩ ++ D) = mkT (cellsUp ini (j + 1))) := hnx
      obtain ⟨n, hnn⟩ : ∃ n, ini[j] = n := ⟨_, rfl⟩
      rw [hnn] at hcell cd
      clear hI hO hD hnx hnn hn
      go_wp2_with (go_at_call 21; go_must (refine (cd _).mono ?_; rintro e w1 ⟨rfl, hb1⟩))
      exact ⟨⟨j + 1, by rw [← HNX.out], rfl, hjn, good_below hb hb1⟩, by simp [intOf]; omega⟩
    · obtain rfl : j = ini.length := by omega
      have hjn' : ¬ ((ini.length : Int) < (ini.length : Int)) := by omega
      rw [cellsUp_all] at hz ⊢
      have hnx : mkT (cellsL ini) ++ ⟨#[10]⟩ = mkT (upL (outL ini thr 0)) := end_cells _
      have HNX : Hid (mkT (cellsL ini) ++ ⟨#[10]⟩ = mkT (upL (outL ini thr 0))) := hnx
      obtain ⟨O, hO⟩ : ∃ O, mkT (cellsL ini) = O := ⟨_, rfl⟩
      rw [hO] at hz HNX ⊢
      clear hnx hO
      go_wp2_with fail
      rw [HNX.out]
      go_loopw [4, 6] (fun i4 i6 wr => ∃ (k : Nat), i4 = .string (mkT (upL (outL ini thr k))) ∧ i6 = .int .i64 (k : Int) ∧ k ≤ thr.length ∧ Below wA.heap.size wA wr) (fun _ i6 _ => thr.length - (intOf i6).toNat)
      case atStart => exact ⟨0, rfl, rfl, Nat.zero_le _, hb⟩
      case round =>
        obtain ⟨k, rfl, rfl, hk, hb2⟩ := hrel
        clear hb l0 l1 hz HNX
        have kr := HKA.out wr hb2
        have l0 := kr.cell 0
        have l1 := kr.cell 1
        simp at l0 l1
        clear kr
        by_cases hkn : k < thr.length
        · have hkn' : (k : Int) < (thr.length : Int) := by omega
          obtain ⟨-, a', c', e', hTt⟩ := HP.out w (Below.refl _ w)
          cases e'
          obtain ⟨bt, ot, v, rfl, hcell, hci⟩ := hTt k hkn
          rw [getD_row hkn] at hci
          obtain ⟨C, hC⟩ : ∃ C, thr[k] = C := ⟨_, rfl⟩
          rw [hC] at hci
          have hcm : C ∈ thr := by rw [← hC]; exact List.getElem_mem hkn
          have HCM : Hid (C ∈ thr) := hcm
          have hcs : (C.length : Int) ≤ 40 := by have := OK.out.len C hcm; omega
          have HSI : Hid (∀ m, (mkT (upL (insUp C m))).size ≤ 10000) := fun m => ins_size (OK.out.len C HCM.out) (HX.out C HCM.out) m
          have HLST : Hid (outL ini thr (k + 1) = outL ini thr k ++ insUp C C.length) := by rw [← hC]; exact outL_succ ini thr hkn
          have HCC : Hid (∀ W, Below wA.heap.size wA W → W.cell? ⟨bt, ot + k, none⟩ = some v) := fun W hW => ((HBB.out W hW).cell (World.block_lt_of_cell? _ _ hcell)).trans hcell
          have HCI : Hid (∀ W, Below wA.heap.size wA W → CIn W v C) := fun W hW => hci.below (HBB.out W hW)
          obtain ⟨ca, cc, rfl, -⟩ := hci
          have hz : (mkT (upL (outL ini thr k))).size ≤ 35000 := HSO.out k
          obtain ⟨L, hL⟩ : ∃ L, outL ini thr k = L := ⟨_, rfl⟩
          rw [hL] at hz HLST ⊢
          have hnx := add_thread L C
          have HNX : Hid (mkT (upL L) ++ (⟨#[116, 104, 114, 101, 97, 100, 10]⟩ : ByteArray) = mkT (upL (L ++ insUp C 0))) := hnx
          have HZL : Hid ((mkT (upL L)).size ≤ 35000) := hz
          obtain ⟨O, hO⟩ : ∃ O, mkT (upL L) = O := ⟨_, rfl⟩
          rw [hO] at hz HNX ⊢
          clear hcell hTt hcm hC hL hnx hO
          go_wp2_with fail
          rw [HNX.out]
          clear l0 l1 hz HNX
          go_loopw [4, 7] (fun i4 i7 wr => ∃ (m : Nat), i4 = .string (mkT (upL (L ++ insUp C m))) ∧ i7 = .int .i64 (m : Int) ∧ m ≤ C.length ∧ Below wA.heap.size wA wr) (fun _ i7 _ => C.length - (intOf i7).toNat)
          case atStart => exact ⟨0, rfl, rfl, Nat.zero_le _, hb2⟩
          case round =>
            obtain ⟨m, rfl, rfl, hm, hb3⟩ := hrel
            clear hb2
            have kr := HKA.out wr hb3
            have l0 := kr.cell 0
            have l1 := kr.cell 1
            simp at l0 l1
            clear kr
            have x0 := HCC.out wr hb3
            by_cases hmn : m < C.length
            · have hmn' : (m : Int) < (C.length : Int) := by omega
              obtain ⟨a', c', e', hCc⟩ := HCI.out wr hb3
              cases e'
              obtain ⟨bc, oc, rfl, hf⟩ := hCc m hmn
              rw [getD_ins hmn] at hf
              have hnx := add_line L (insUp C m) (insL C[m])
              rw [← insUp_succ C hmn] at hnx
              obtain ⟨x, hx⟩ : ∃ x, C[m] = x := ⟨_, rfl⟩
              rw [hx] at hf hnx
              have hxm : x ∈ C := by rw [← hx]; exact List.getElem_mem hmn
              have h64 := HX.out C HCM.out x hxm
              have hins := OK.out.ins C HCM.out x hxm
              have ct := fun W => specText hins h64 W
              have hll := lineI_len h64
              have hil : insL x = 32 :: 32 :: Lib.join (wordsI x) [32] := rfl
              rw [hil, ← two_end] at hnx
              have hz : (mkT (upL (L ++ insUp C m))).size ≤ 45000 := by
                have h1 : (upL L).length ≤ 35000 := HZL.out
                have h2 : (upL (insUp C m)).length ≤ 10000 := HSI.out m
                show (upL (L ++ insUp C m)).length ≤ 45000
                rw [upL_append, List.length_append]
                omega
              have hzl : (mkT (Lib.join (wordsI x) [32])).size ≤ 138 := hll
              obtain ⟨O, hO⟩ : ∃ O, mkT (upL (L ++ insUp C m)) = O := ⟨_, rfl⟩
              obtain ⟨J, hJ⟩ : ∃ J, mkT (Lib.join (wordsI x) [32]) = J := ⟨_, rfl⟩
              rw [hO] at hz hnx ⊢
              rw [hJ] at hzl hnx ct
              have HNX : Hid (mkT (upL (L ++ insUp C (m + 1))) = O ++ ((⟨#[32, 32]⟩ ++ J) ++ ⟨#[10]⟩)) := hnx
              clear hCc hx hxm h64 hins hll hil hnx hO hJ
              obtain ⟨op, ce, rg, ar, an, br, bn, od, cq, tg⟩ := x
              unfold insV at ct
              dsimp only at ct
              have u0 : wr.cell? ⟨bc, oc + m * 10, none⟩ = some (.int .i64 op) := hf 0 (by omega)
              have u1 : wr.cell? ⟨bc, oc + m * 10 + 1, none⟩ = some (.int .i64 ce) := hf 1 (by omega)
              have u2 : wr.cell? ⟨bc, oc + m * 10 + 2, none⟩ = some (.int .i64 rg) := hf 2 (by omega)
              have u3 : wr.cell? ⟨bc, oc + m * 10 + 3, none⟩ = some (.int .i64 ar) := hf 3 (by omega)
              have u4 : wr.cell? ⟨bc, oc + m * 10 + 4, none⟩ = some (.int .i64 an) := hf 4 (by omega)
              have u5 : wr.cell? ⟨bc, oc + m * 10 + 5, none⟩ = some (.int .i64 br) := hf 5 (by omega)
              have u6 : wr.cell? ⟨bc, oc + m * 10 + 6, none⟩ = some (.int .i64 bn) := hf 6 (by omega)
              have u7 : wr.cell? ⟨bc, oc + m * 10 + 7, none⟩ = some (.int .i64 od) := hf 7 (by omega)
              have u8 : wr.cell? ⟨bc, oc + m * 10 + 8, none⟩ = some (.int .i64 cq) := hf 8 (by omega)
              have u9 : wr.cell? ⟨bc, oc + m * 10 + 9, none⟩ = some (.int .i64 tg) := hf 9 (by omega)
              clear hf
              go_wp2_with (go_at_call 22; go_must (refine (ct _).mono ?_; rintro e w4 ⟨rfl, hb4⟩))
              exact ⟨⟨m + 1, by rw [HNX.out], rfl, hmn, good_below hb3 hb4⟩, by simp [intOf]; omega⟩
            · obtain rfl : m = C.length := by omega
              have hmn' : ¬ ((C.length : Int) < (C.length : Int)) := by omega
              go_wp2_with fail
              exact ⟨⟨k + 1, by rw [HLST.out], rfl, hkn, hb3⟩, by simp [intOf]; omega⟩
        · obtain rfl : k = thr.length := by omega
          have hkn' : ¬ ((thr.length : Int) < (thr.length : Int)) := by omega
          have he : mkT (upL (outL ini thr thr.length)) = X := by rw [outL_all, ← text_up]; exact HXX.out
          rw [he]
          go_wp2_with fail
          go_ret2
          exact ⟨rfl, by first | exact HBB.out _ hb2 | exact HBC.out _ hb2⟩
end Go.Proofs.YthopmdfichfhdaaGreatDoor
