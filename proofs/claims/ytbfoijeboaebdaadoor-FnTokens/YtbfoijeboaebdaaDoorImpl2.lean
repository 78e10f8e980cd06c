/-
  The contracts of impl.valueOf, of impl.isBlank and of impl's scanner's number. No statement of the seat is proved here.
-/
import Derived.Test.YtbfoijeboaebdaaDoorImpl1
namespace Go.Proofs.YtbfoijeboaebdaaDoor
open Go.ChangeShapes Go.WideShapes Go.ChangeAt Go.RowKit
set_option linter.unusedVariables false

set_option maxRecDepth 100000 in
set_option maxHeartbeats 1000000 in
theorem implValue (d : ByteArray) (h18 : d.size ≤ 18) (hd : ∀ i, i < d.size → 48 ≤ byt d i ∧ byt d i ≤ 57) (w : World) :
    Calls Tryd.prog 71 #[.string d] w fun e w' => e = .returned (.int .i64 (numOf d.data.toList : Int)) ∧ Below w.heap.size w w' := by
  have HA : Hid (numOf (d.data.toList.take d.size) = numOf d.data.toList) := by show _ = _; rw [List.take_of_length_le (by simp)]
  have HD : Hid (∀ i, i < d.size → 48 ≤ byt d i ∧ byt d i ≤ 57) := hd
  obtain ⟨N, hN⟩ : ∃ N, numOf d.data.toList = N := ⟨_, rfl⟩
  have HN : Hid (numOf d.data.toList = N) := hN
  rw [hN]
  clear hN hd
  go_enter Tryd.func71, Tryd.ntmps71
  go_wp2_with fail
  go_loopw [3] (fun x wr => ∃ k : Nat, k ≤ d.size ∧ x = .int .i64 ((numOf (d.data.toList.take k) : Nat) : Int) ∧ wr.heap[w.heap.size]? = some (.stringIter d k) ∧ Below w.heap.size w wr) (fun _ wr => d.size - wr.iterPos w.heap.size)
  case atStart => exact ⟨0, by omega, rfl, iter_fresh w d 0, (Below.refl _ w).alloc (Nat.le_refl _) _⟩
  case round =>
    obtain ⟨k, hk, rfl, hi, hB⟩ := hrel
    have hip := iterPos_of hi
    by_cases hkn : k < d.size
    · have hnx : ∀ ty, (Instr.next (.pointer (some ⟨w.heap.size, 0, none⟩)) true ty).run Tryd.prog wr = _ := fun ty => Lib.run_next_any_at wr w.heap.size d k ty hi hkn
      have hdk := HD.out k hkn
      rw [decode_low (by omega)] at hnx
      have hlt := numOf_lt d HD.out k hk
      have hsu := numOf_succ d k hkn
      have hpw : 10 ^ k ≤ 10 ^ 17 := Nat.pow_le_pow_right (by omega) (by omega)
      obtain ⟨c, hc⟩ : ∃ c, byt d k = c := ⟨_, rfl⟩
      obtain ⟨n, hn⟩ : ∃ n, numOf (d.data.toList.take k) = n := ⟨_, rfl⟩
      obtain ⟨m, hm⟩ : ∃ m, numOf (d.data.toList.take (k + 1)) = m := ⟨_, rfl⟩
      have HM : Hid (numOf (d.data.toList.take (k + 1)) = m) := hm
      rw [hc] at hnx hdk hsu
      rw [hn] at hlt hsu ⊢
      rw [hm] at hsu
      have hn17 : n < 100000000000000000 := by omega
      obtain ⟨wt, hwt⟩ : ∃ wt, wr.iterAt w.heap.size d (k + 1) = wt := ⟨_, rfl⟩
      have hiT : wt.heap[w.heap.size]? = some (.stringIter d (k + 1)) := by rw [← hwt]; exact Lib.iterAt_heap wr _ _ _ _ hi
      have hBT : Below w.heap.size w wt := by rw [← hwt]; exact Lib.below_iterAt hB (Nat.le_refl _) _ _
      simp only at hnx
      rw [hwt] at hnx
      clear hm hn hc hlt hpw hwt hi hB
      go_wp2
      go_roundw
      case rel => exact ⟨k + 1, by omega, by rw [HM.out, hsu]; congr 1; omega, hiT, hBT⟩
      case measure => rw [hip, iterPos_of hiT]; omega
    · have hnx : ∀ ty, (Instr.next (.pointer (some ⟨w.heap.size, 0, none⟩)) true ty).run Tryd.prog wr = _ := fun ty => Lib.run_next_end_at wr w.heap.size d k ty hi hkn
      have hNk : numOf (d.data.toList.take k) = N := by rw [show k = d.size by omega, HA.out, HN.out]
      rw [hNk]
      clear hi hNk
      go_wp2
      go_ret
      exact ⟨rfl, hB⟩

set_option maxRecDepth 100000 in
set_option maxHeartbeats 400000 in
theorem implBlank (r : Nat) (w : World) : Calls Tryd.prog 40 #[.int .i64 (r : Int)] w fun e w' => e = .returned (.bool (blankB r)) ∧ w = w' := by
  by_cases h1 : r = 32
  · subst h1; go_enter Tryd.func40, Tryd.ntmps40; go_wp2; go_ret; exact ⟨rfl, rfl⟩
  have q1 : ((r : Int) == 32) = false := by rw [beq_eq_false_iff_ne]; omega
  by_cases h2 : r = 9
  · subst h2; clear q1; go_enter Tryd.func40, Tryd.ntmps40; go_wp2; go_ret; exact ⟨rfl, rfl⟩
  have q2 : ((r : Int) == 9) = false := by rw [beq_eq_false_iff_ne]; omega
  by_cases h3 : r = 10
  · subst h3; clear q1 q2; go_enter Tryd.func40, Tryd.ntmps40; go_wp2; go_ret; exact ⟨rfl, rfl⟩
  have q3 : ((r : Int) == 10) = false := by rw [beq_eq_false_iff_ne]; omega
  by_cases h4 : r = 13
  · subst h4; clear q1 q2 q3; go_enter Tryd.func40, Tryd.ntmps40; go_wp2; go_ret; exact ⟨rfl, rfl⟩
  have q4 : ((r : Int) == 13) = false := by rw [beq_eq_false_iff_ne]; omega
  have e : blankB r = false := by simp [blankB, h1, h2, h3, h4]
  rw [e]
  go_enter Tryd.func40, Tryd.ntmps40
  go_wp2
  go_ret
  exact ⟨rfl, rfl⟩

set_option maxRecDepth 100000 in
set_option maxHeartbeats 400000 in
theorem implWrongAt (s : ByteArray) (i : Nat) (hs : s.size ≤ 65536) (hi : i < s.size) (w : World) (hT : Lib.Utf8Tabs 0 1 w) :
    Calls Tryd.prog 20 #[.string s, .int .i64 i] w fun e w' => e = .returned (.bool (wrongB s i)) ∧ Below w.heap.size w w' := by
  have c := implRuneAt s (i : Int) w hT
  rw [runeAt_in hs hi] at c
  unfold wrongB
  obtain ⟨R, hR⟩ : ∃ R, (Utf8.decode s i).1 = R := ⟨_, rfl⟩
  obtain ⟨K, hK⟩ : ∃ K, (Utf8.decode s i).2 = K := ⟨_, rfl⟩
  rw [hR, hK] at c ⊢
  have cw := implIsWrong R K
  obtain ⟨W, hW⟩ : ∃ W, (decide (R = 65533) && decide (K = 1)) = W := ⟨_, rfl⟩
  rw [hW] at cw ⊢
  clear hR hK hT hW
  go_enter Tryd.func20, Tryd.ntmps20
  go_wp2_with (first | (go_at_call 36; go_must (refine c.mono ?_; rintro e w1 ⟨rfl, hB1⟩)) | (go_at_call 35; go_must (refine (cw _).mono ?_; rintro e w2 ⟨rfl, rfl⟩)))
  go_ret
  exact ⟨rfl, hB1⟩

set_option maxRecDepth 100000 in
set_option maxHeartbeats 2000000 in
theorem implNumber {B g : Nat} {s : ByteArray} {p ln cl : Nat} {l : List Tok} {v : Value} {w0 w : World} (hs : s.size ≤ 65536) (hp : p < s.size) (hln : ln ≤ p + 1) (hcl : cl ≤ p + 1) (hl : l.length ≤ 20000) (hdg : isDig ((Utf8.decode s p).1 : Int) = true) (hT : ∀ W, Below B w0 W → Lib.Utf8Tabs 0 1 W) (h : Im B g s p ln cl l v w0 w) :
    Calls Tryd.prog 48 #[.pointer (some ⟨g, 0, none⟩)] w fun e w' => ImEnd B g s p ln cl l w0 (numLex s p) e w' := by
  have k0 : ∀ n : GoodW (Im B g s p ln cl l v w0), n.W.cell? ⟨g, 0, none⟩ = some (.string s) := fun n => by simpa using n.ok.blk.cell 0
  have k1 : ∀ n : GoodW (Im B g s p ln cl l v w0), n.W.cell? ⟨g, 1, none⟩ = some (.int .i64 (p : Int)) := fun n => by simpa using n.ok.blk.cell 1
  have cn := runEndDig s p hs (by omega)
  have hE := digEnd_lt hp hdg
  have hall := endDig_all s p (by omega)
  have hal := endOf_al isDig s p (by omega)
  unfold numLex
  obtain ⟨E, hEE⟩ : ∃ E, endOf isDig s p = E := ⟨_, rfl⟩
  rw [hEE] at cn hE hall hal ⊢
  clear hEE
  have hb0 := byt_extract s p E 0 (by omega) (by omega)
  have hdsz : (s.extract p E).size = E - p := by simp; omega
  have hdall : ∀ i, i < (s.extract p E).size → 48 ≤ byt (s.extract p E) i ∧ byt (s.extract p E) i ≤ 57 := by
    intro i hi
    rw [byt_extract s p E i (by omega) (by omega)]
    exact hall (p + i) (by omega) (by omega)
  obtain ⟨d, hd⟩ : ∃ d, s.extract p E = d := ⟨_, rfl⟩
  rw [hd] at hb0 hdsz hdall ⊢
  rw [Nat.add_zero] at hb0
  have hpos : 0 < d.size := by omega
  have hdb := byt_eq d 0 hpos
  rw [hb0] at hdb
  obtain ⟨b, hb⟩ : ∃ b, byt s p = b := ⟨_, rfl⟩
  rw [hb] at hdb hb0 ⊢
  have HDA : Hid (∀ i, i < d.size → 48 ≤ byt d i ∧ byt d i ≤ 57) := hdall
  have HAL : Hid (Al s p E) := hal
  have HT : Hid (∀ W, Below B w0 W → Lib.Utf8Tabs 0 1 W) := hT
  have HD : Hid (s.extract p E = d) := hd
  have HZ : Hid (d.size = E - p) := hdsz
  have hsl1 : (0 : Int) < (d.size : Int) := by omega
  -- what stands behind the digits
  have hbh : ∃ R K : Nat, runeAt s (E : Int) = ((R : Int), (K : Int)) ∧ isLet (R : Int) = decide (E < s.size ∧ isLet ((Utf8.decode s E).1 : Int) = true) := by
    by_cases hEs : E < s.size
    · refine ⟨(Utf8.decode s E).1, (Utf8.decode s E).2, by rw [runeAt_in hs hEs], ?_⟩
      simp [hEs]
    · refine ⟨0, 0, ?_, ?_⟩
      · rw [runeAt_out (s := s) (p := (E : Int)) (.inr (.inr (by omega)))]; rfl
      · rw [decide_eq_false (fun hc => hEs hc.1)]; decide
  obtain ⟨R, K, hRK, hLR⟩ := hbh
  have hLB : ∀ x y : Lex, (if E < s.size ∧ isLet ((Utf8.decode s E).1 : Int) = true then x else y) = if isLet (R : Int) = true then x else y := by
    intro x y
    rw [hLR]
    by_cases hc : E < s.size ∧ isLet ((Utf8.decode s E).1 : Int) = true
    · rw [if_pos hc, decide_eq_true hc, if_pos rfl]
    · rw [if_neg hc, decide_eq_false hc, if_neg (by decide)]
  rw [hLB]
  have cra0 := fun w hT => implRuneAt s (E : Int) w hT
  rw [hRK] at cra0
  clear hb hdall hb0 hal hdg hall hd hT hLB hRK hLR
  have clt := implLetter (R : Int)
  by_cases hA : 18 < E - p
  · rw [if_pos hA]
    have hA' : (18 : Int) < (d.size : Int) := by omega
    clear hA hdsz
    go_enter Tryd.func48, Tryd.ntmps48
    go_wp2_with fail
    haveI ne : Nonempty (GoodW (Im B g s p ln cl l v w0)) := ⟨⟨_, h⟩⟩
    refine wp_region_calm (Im B g s p ln cl l v w0) (by kernel_rfl) (by kernel_rfl) (h).drew ?_
    repeat (go_big_quiet_step ((go_at_call 69; exact Calls.calm _ (fun w2 hb => Im.bel (GoodW.ok _) hb) (cn _))))
    refine wpQuiet_nil ?_
    rintro _ ⟨⟨w1, hw1⟩, rfl⟩
    have e0 := hw1.blk.cell 0
    have e1 := hw1.blk.cell 1
    simp at e0 e1
    have hex := HD.out
    go_wp2_with fail
    go_quiet (fail)
    have cra := cra0 _ (HT.out _ (hw1.drewN nq).below)
    go_wp2_with (first
      | (go_at_call 36; go_must (refine cra.mono ?_; rintro e w3 ⟨rfl, hB3⟩); have h3 := (hw1.drewN nq).bel hB3; have e13 := h3.blk.cell 1; simp at e13))
    go_quiet (fail)
    go_wp2_with fail
    go_ret2
    exact ⟨rfl, (h3.drewN _).below⟩
  rw [if_neg hA]
  have hA' : ¬ ((18 : Int) < (d.size : Int)) := by omega
  by_cases hBc : 1 < E - p ∧ b = 48
  · rw [if_pos hBc]
    have hB' : (1 : Int) < (d.size : Int) := by omega
    have hb48 := hBc.2
    subst hb48
    clear hBc hA hdsz
    go_enter Tryd.func48, Tryd.ntmps48
    go_wp2_with fail
    haveI ne : Nonempty (GoodW (Im B g s p ln cl l v w0)) := ⟨⟨_, h⟩⟩
    refine wp_region_calm (Im B g s p ln cl l v w0) (by kernel_rfl) (by kernel_rfl) (h).drew ?_
    repeat (go_big_quiet_step ((go_at_call 69; exact Calls.calm _ (fun w2 hb => Im.bel (GoodW.ok _) hb) (cn _))))
    refine wpQuiet_nil ?_
    rintro _ ⟨⟨w1, hw1⟩, rfl⟩
    have e0 := hw1.blk.cell 0
    have e1 := hw1.blk.cell 1
    simp at e0 e1
    have hex := HD.out
    go_wp2_with fail
    go_quiet (fail)
    have cra := cra0 _ (HT.out _ (hw1.drewN nq).below)
    go_wp2_with (first
      | (go_at_call 36; go_must (refine cra.mono ?_; rintro e w3 ⟨rfl, hB3⟩); have h3 := (hw1.drewN nq).bel hB3; have e13 := h3.blk.cell 1; simp at e13))
    go_quiet (fail)
    go_wp2_with fail
    go_ret2
    exact ⟨rfl, (h3.drewN _).below⟩
  rw [if_neg hBc]
  cases hLt : isLet (R : Int)
  · rw [hLt] at clt
    rw [if_neg (by decide)]
    by_cases h1d : 1 < E - p
    · have hB' : (1 : Int) < (d.size : Int) := by omega
      have q48 : ((b : Int) == 48) = false := by rw [beq_eq_false_iff_ne]; omega
      clear hBc h1d hdsz hLt
      go_enter Tryd.func48, Tryd.ntmps48
      go_wp2_with fail
      haveI ne : Nonempty (GoodW (Im B g s p ln cl l v w0)) := ⟨⟨_, h⟩⟩
      refine wp_region_calm (Im B g s p ln cl l v w0) (by kernel_rfl) (by kernel_rfl) (h).drew ?_
      repeat (go_big_quiet_step ((go_at_call 69; exact Calls.calm _ (fun w2 hb => Im.bel (GoodW.ok _) hb) (cn _))))
      refine wpQuiet_nil ?_
      rintro _ ⟨⟨w1, hw1⟩, rfl⟩
      have e0 := hw1.blk.cell 0
      have e1 := hw1.blk.cell 1
      simp at e0 e1
      have hex := HD.out
      go_wp2_with fail
      go_quiet (fail)
      have cra := cra0 _ (HT.out _ (hw1.drewN nq).below)
      go_wp2_with (first
        | (go_at_call 36; go_must (refine cra.mono ?_; rintro e w3 ⟨rfl, hB3⟩); have h3 := (hw1.drewN nq).bel hB3; have e13 := h3.blk.cell 1; simp at e13)
        | (go_at_call 43; go_must (refine (clt _).mono ?_; rintro e w4 ⟨rfl, rfl⟩))
        | (go_at_call 71; go_must (refine (implValue d (by have := HZ.out; omega) HDA _).mono ?_; rintro e w5 ⟨rfl, hB5⟩))
        | (go_at_call 68; go_must (refine (implAdd 2 E d (numOf d.data.toList) hs (by omega) hln hcl hl (by have := HZ.out; omega) HAL (h3.bel hB5)).mono ?_; rintro x w6 ⟨rfl, h6⟩)))
      go_ret2
      exact ⟨rfl, h6⟩
    · have hB' : ¬ ((1 : Int) < (d.size : Int)) := by omega
      clear hBc h1d hdsz hLt
      go_enter Tryd.func48, Tryd.ntmps48
      go_wp2_with fail
      haveI ne : Nonempty (GoodW (Im B g s p ln cl l v w0)) := ⟨⟨_, h⟩⟩
      refine wp_region_calm (Im B g s p ln cl l v w0) (by kernel_rfl) (by kernel_rfl) (h).drew ?_
      repeat (go_big_quiet_step ((go_at_call 69; exact Calls.calm _ (fun w2 hb => Im.bel (GoodW.ok _) hb) (cn _))))
      refine wpQuiet_nil ?_
      rintro _ ⟨⟨w1, hw1⟩, rfl⟩
      have e0 := hw1.blk.cell 0
      have e1 := hw1.blk.cell 1
      simp at e0 e1
      have hex := HD.out
      go_wp2_with fail
      go_quiet (fail)
      have cra := cra0 _ (HT.out _ (hw1.drewN nq).below)
      go_wp2_with (first
        | (go_at_call 36; go_must (refine cra.mono ?_; rintro e w3 ⟨rfl, hB3⟩); have h3 := (hw1.drewN nq).bel hB3; have e13 := h3.blk.cell 1; simp at e13)
        | (go_at_call 43; go_must (refine (clt _).mono ?_; rintro e w4 ⟨rfl, rfl⟩))
        | (go_at_call 71; go_must (refine (implValue d (by have := HZ.out; omega) HDA _).mono ?_; rintro e w5 ⟨rfl, hB5⟩))
        | (go_at_call 68; go_must (refine (implAdd 2 E d (numOf d.data.toList) hs (by omega) hln hcl hl (by have := HZ.out; omega) HAL (h3.bel hB5)).mono ?_; rintro x w6 ⟨rfl, h6⟩)))
      go_ret2
      exact ⟨rfl, h6⟩
  · rw [hLt] at clt
    rw [if_pos rfl]
    by_cases h1d : 1 < E - p
    · have hB' : (1 : Int) < (d.size : Int) := by omega
      have q48 : ((b : Int) == 48) = false := by rw [beq_eq_false_iff_ne]; omega
      clear hBc h1d hdsz hLt
      go_enter Tryd.func48, Tryd.ntmps48
      go_wp2_with fail
      haveI ne : Nonempty (GoodW (Im B g s p ln cl l v w0)) := ⟨⟨_, h⟩⟩
      refine wp_region_calm (Im B g s p ln cl l v w0) (by kernel_rfl) (by kernel_rfl) (h).drew ?_
      repeat (go_big_quiet_step ((go_at_call 69; exact Calls.calm _ (fun w2 hb => Im.bel (GoodW.ok _) hb) (cn _))))
      refine wpQuiet_nil ?_
      rintro _ ⟨⟨w1, hw1⟩, rfl⟩
      have e0 := hw1.blk.cell 0
      have e1 := hw1.blk.cell 1
      simp at e0 e1
      have hex := HD.out
      go_wp2_with fail
      go_quiet (fail)
      have cra := cra0 _ (HT.out _ (hw1.drewN nq).below)
      go_wp2_with (first
        | (go_at_call 36; go_must (refine cra.mono ?_; rintro e w3 ⟨rfl, hB3⟩); have h3 := (hw1.drewN nq).bel hB3; have e13 := h3.blk.cell 1; simp at e13)
        | (go_at_call 43; go_must (refine (clt _).mono ?_; rintro e w4 ⟨rfl, rfl⟩)))
      go_ret2
      exact ⟨rfl, h3.below⟩
    · have hB' : ¬ ((1 : Int) < (d.size : Int)) := by omega
      clear hBc h1d hdsz hLt
      go_enter Tryd.func48, Tryd.ntmps48
      go_wp2_with fail
      haveI ne : Nonempty (GoodW (Im B g s p ln cl l v w0)) := ⟨⟨_, h⟩⟩
      refine wp_region_calm (Im B g s p ln cl l v w0) (by kernel_rfl) (by kernel_rfl) (h).drew ?_
      repeat (go_big_quiet_step ((go_at_call 69; exact Calls.calm _ (fun w2 hb => Im.bel (GoodW.ok _) hb) (cn _))))
      refine wpQuiet_nil ?_
      rintro _ ⟨⟨w1, hw1⟩, rfl⟩
      have e0 := hw1.blk.cell 0
      have e1 := hw1.blk.cell 1
      simp at e0 e1
      have hex := HD.out
      go_wp2_with fail
      go_quiet (fail)
      have cra := cra0 _ (HT.out _ (hw1.drewN nq).below)
      go_wp2_with (first
        | (go_at_call 36; go_must (refine cra.mono ?_; rintro e w3 ⟨rfl, hB3⟩); have h3 := (hw1.drewN nq).bel hB3; have e13 := h3.blk.cell 1; simp at e13)
        | (go_at_call 43; go_must (refine (clt _).mono ?_; rintro e w4 ⟨rfl, rfl⟩)))
      go_ret2
      exact ⟨rfl, h3.below⟩
end Go.Proofs.YtbfoijeboaebdaaDoor
