/-
  An instruction's text, written by the specification. No statement of the seat is proved here.
-/
import Derived.Test.YthopmdfichfhdaaGreatDoorM3
namespace Go.Proofs.YthopmdfichfhdaaGreatDoor
open Go.ChangeShapes Go.WideShapes Go.ChangeAt Go.RowKit
set_option linter.unusedVariables false
set_option linter.unusedSimpArgs false

theorem sp_add (l k : List UInt8) : (mkT l ++ (⟨#[32]⟩ : ByteArray)) ++ mkT k = mkT (l ++ (32 :: k)) := by
  apply ByteArray.ext
  simp [mkT]
/-- What is known of a right instruction's fields. -/
theorem ins_facts {x : Ins} {n : Int} (h : insB x n = true) : 1 ≤ x.op ∧ x.op ≤ 13 ∧ 0 ≤ x.ar ∧ 0 ≤ x.br ∧ (inB (formF x.op) 79 = true → 1 ≤ x.ord ∧ x.ord ≤ 5) ∧ (inB (formF x.op) 81 = true → 1 ≤ x.cnd ∧ x.cnd ≤ 4) := by
  have h0 := h
  unfold insB at h
  simp only [Bool.and_eq_true, Bool.not_eq_true', Bool.or_eq_false_iff, decide_eq_false_iff_not] at h
  refine ⟨by omega, by omega, ?_, ?_, fun hi => ?_, fun hi => ?_⟩
  · have := h.2.1.1.1.1.1.1.1.1.1.1
    unfold valB at this
    simp at this
    omega
  · have := h.2.1.1.1.1.1.1.1.1.1.2
    unfold valB at this
    simp at this
    omega
  · have := h.2.1.1.2
    rw [hi] at this
    exact ordB_range this
  · have := h.2.1.2
    rw [hi] at this
    exact cnd_range this
set_option maxRecDepth 100000 in
set_option maxHeartbeats 16000000 in
theorem specText {x : Ins} {n : Int} (hb : insB x n = true) (hx : Ins64 x) (w : World) :
    Calls Tryz.prog 22 #[insV x] w fun e w' => e = .returned (.string (mkT (Lib.join (wordsI x) [32]))) ∧ Below w.heap.size w w' := by
  obtain ⟨h1, h2, har, hbr, hO, hQ⟩ := ins_facts hb
  have hall := (lett_at h1 h2).2.2
  have hfs := (form_size h1 h2).1
  have hlen := txtUp_len hx h1 h2
  have hend := txtUp_all h1 h2
  have hst : mkT (txtUp x 0) = formW x.op := by
    unfold txtUp
    simp only [List.range_zero, List.flatMap_nil, List.append_nil]
    exact mkT_self _
  have hsuc : ∀ j, mkT (txtUp x (j + 1)) = (mkT (txtUp x j) ++ ⟨#[32]⟩) ++ mkT (fieldT x (mapL (byt (formF x.op) j))) := fun j => by rw [txtUp_succ, sp_add]
  have cfo := fun W => specForm x.op h1 h2 W
  have HIO : Hid (inB (formF x.op) 79 = true → 1 ≤ x.ord ∧ x.ord ≤ 5) := hO
  have HIQ : Hid (inB (formF x.op) 81 = true → 1 ≤ x.cnd ∧ x.cnd ≤ 4) := hQ
  have HSUC : Hid (∀ j, mkT (txtUp x (j + 1)) = (mkT (txtUp x j) ++ ⟨#[32]⟩) ++ mkT (fieldT x (mapL (byt (formF x.op) j)))) := hsuc
  have HLEN : Hid (∀ j, (txtUp x j).length ≤ 6 + 23 * j) := hlen
  have HX : Hid (Ins64 x) := hx
  rw [← hend]
  obtain ⟨F, hF⟩ : ∃ F, formF x.op = F := ⟨_, rfl⟩
  rw [hF] at hall hfs cfo HIO HIQ HSUC ⊢
  have HALL : Hid (∀ j, j < F.size → byt (frmFAt x.op.toNat) j = mapL (byt F j) ∧ _) := hall
  obtain ⟨W0, hW0⟩ : ∃ W0, formW x.op = W0 := ⟨_, rfl⟩
  rw [hW0] at cfo hst
  have HST : Hid (mkT (txtUp x 0) = W0) := hst
  have HSZ : Hid (F.size ≤ 5) := hfs
  have hfs' : (F.size : Int) ≤ 5 := by omega
  have HAR : Hid (0 ≤ x.ar ∧ 0 ≤ x.br) := ⟨har, hbr⟩
  obtain ⟨U, hU⟩ : ∃ U : Nat → List UInt8, txtUp x = U := ⟨_, rfl⟩
  rw [hU] at HSUC HLEN HST ⊢
  clear hb hx h1 h2 har hbr hO hQ hall hfs hlen hend hst hsuc hF hW0 hU
  have hw1 : Below w.heap.size w (w.alloc (.cells (insC x) 43)) := (Below.refl _ w).alloc (Nat.le_refl _) _
  have kb : Blk (w.alloc (.cells (insC x) 43)) w.heap.size 43 (insC x) := heap_alloc_last w _
  have HF1 : Hid (∀ c, fieldT x c = fieldT x c) := fun c => rfl
  obtain ⟨fR, hR⟩ : ∃ l, fieldT x 82 = l := ⟨_, rfl⟩
  have HFR : Hid (mkT (fieldT x 82) = ⟨#[114]⟩ ++ itoaT x.reg ∧ mkT (fieldT x 67) = ⟨#[99]⟩ ++ itoaT x.cell ∧ mkT (fieldT x 65) = mkT (valT x.ar x.an) ∧ mkT (fieldT x 66) = mkT (valT x.br x.bn) ∧ mkT (fieldT x 79) = wordAt ordL x.ord ∧ mkT (fieldT x 63) = wordAt cndL x.cnd ∧ mkT (fieldT x 78) = itoaT x.tgt) :=
    ⟨(lett_add 114 (Lib.itoa x.reg)).symm, (lett_add 99 (Lib.itoa x.cell)).symm, rfl, rfl, mkT_self _, mkT_self _, rfl⟩
  have HFL : Hid (∀ c, (fieldT x c).length ≤ 22) := fun c => fieldT_len HX.out c
  obtain ⟨Fd, hFd⟩ : ∃ Fd : Nat → List UInt8, fieldT x = Fd := ⟨_, rfl⟩
  rw [hFd] at HSUC HFR HFL
  clear HF1 hR hFd
  obtain ⟨op, ce, rg, ar, an, br, bn, od, cq, tg⟩ := x
  unfold insV
  unfold insC at hw1 kb
  dsimp only at hw1 kb cfo HIO HIQ HFR HAR ⊢
  have HK : Hid (∀ W, Below (w.alloc (.cells #[.int .i64 op, .int .i64 ce, .int .i64 rg, .int .i64 ar, .int .i64 an, .int .i64 br, .int .i64 bn, .int .i64 od, .int .i64 cq, .int .i64 tg] 43)).heap.size (w.alloc (.cells #[.int .i64 op, .int .i64 ce, .int .i64 rg, .int .i64 ar, .int .i64 an, .int .i64 br, .int .i64 bn, .int .i64 od, .int .i64 cq, .int .i64 tg] 43)) W → Blk W w.heap.size 43 #[.int .i64 op, .int .i64 ce, .int .i64 rg, .int .i64 ar, .int .i64 an, .int .i64 br, .int .i64 bn, .int .i64 od, .int .i64 cq, .int .i64 tg]) := fun W hW => kb.below hW
  have HB0 : Hid (Below w.heap.size w (w.alloc (.cells #[.int .i64 op, .int .i64 ce, .int .i64 rg, .int .i64 ar, .int .i64 an, .int .i64 br, .int .i64 bn, .int .i64 od, .int .i64 cq, .int .i64 tg] 43))) := hw1
  clear kb hw1
  go_enter Tryz.func22, Tryz.ntmps22
  go_upto_region 2 with (go_at_call 24; go_must (refine (cfo _).mono ?_; rintro e w2 ⟨rfl, hq⟩; obtain rfl := hq.symm; clear hq))
  obtain ⟨wB, hwB⟩ : ∃ W, w.alloc (.cells #[.int .i64 op, .int .i64 ce, .int .i64 rg, .int .i64 ar, .int .i64 an, .int .i64 br, .int .i64 bn, .int .i64 od, .int .i64 cq, .int .i64 tg] 43) = W := ⟨_, rfl⟩
  rw [hwB] at HK HB0 ⊢
  obtain ⟨b0, hb0⟩ : ∃ b, w.heap.size = b := ⟨_, rfl⟩
  rw [hb0] at HK ⊢
  have HBB : Hid (∀ W, Below wB.heap.size wB W → Below w.heap.size w W) := fun W hW => good_below HB0.out hW
  have HBC : Hid (∀ W, Below wB.heap.size wB W → Below b0 w W) := fun W hW => hb0 ▸ good_below HB0.out hW
  clear hwB hb0 cfo
  go_wp2_with fail
  go_loopw [3, 5] (fun i3 i5 wr => ∃ (j : Nat), i3 = .string (mkT (U j)) ∧ i5 = .int .i64 (j : Int) ∧ j ≤ F.size ∧ Below wB.heap.size wB wr) (fun _ i5 _ => F.size - (intOf i5).toNat)
  case atStart => exact ⟨0, by rw [HST.out], rfl, Nat.zero_le _, Below.refl _ _⟩
  case round =>
    obtain ⟨j, rfl, rfl, hj, hb⟩ := hrel
    have kr := HK.out wr hb
    by_cases hjn : j < F.size
    · have hjn' : (j : Int) < (F.size : Int) := by omega
      have hbt := byt_eq F j hjn
      obtain ⟨-, hcase⟩ := HALL.out j hjn
      have hz : (mkT (U j)).size ≤ 200 := by
        have h1 := HLEN.out j
        have h2 := HSZ.out
        show (U j).length ≤ 200
        omega
      have hnx := HSUC.out j
      obtain ⟨O, hO⟩ : ∃ O, mkT (U j) = O := ⟨_, rfl⟩
      rw [hO] at hz hnx ⊢
      have h79 : byt F j = 79 → 1 ≤ od ∧ od ≤ 5 := fun e => HIO.out (inB_hit hjn e)
      have h81 : byt F j = 81 → 1 ≤ cq ∧ cq ≤ 4 := fun e => HIQ.out (inB_hit hjn e)
      have HNX : Hid (mkT (U (j + 1)) = (O ++ ⟨#[32]⟩) ++ mkT (Fd (mapL (byt F j)))) := hnx
      have H79 : Hid (byt F j = 79 → 1 ≤ od ∧ od ≤ 5) := h79
      have H81 : Hid (byt F j = 81 → 1 ≤ cq ∧ cq ≤ 4) := h81
      clear hnx h79 h81 hO
      rcases hcase with hc | hc | hc | hc | hc | hc | hc | hc
      · have HC : Hid (byt F j = 82) := hc
        have ht : mkT (U (j + 1)) = (O ++ ⟨#[32]⟩) ++ (⟨#[114]⟩ ++ itoaT rg) := by rw [HNX.out, HC.out]; exact congrArg (fun t => (O ++ ⟨#[32]⟩) ++ t) HFR.out.1
        rw [hc] at hbt
        have HTT : Hid (mkT (U (j + 1)) = (O ++ ⟨#[32]⟩) ++ (⟨#[114]⟩ ++ itoaT rg)) := ht
        have cd := fun W => specDigits HX.out.rg W
        have hs : (itoaT rg).size ≤ 22 := Nat.le_trans (itoa_len HX.out.rg) (by omega)
        obtain ⟨D, hD⟩ : ∃ D, itoaT rg = D := ⟨_, rfl⟩
        rw [hD] at cd hs HTT
        clear hD
        clear ht hc
        have u2 := kr.cell 2
        simp at u2
        clear kr
        go_wp2_with (go_at_call 21; go_must (refine (cd _).mono ?_; rintro e w2 ⟨rfl, hb2⟩))
        exact ⟨⟨j + 1, by rw [HTT.out], rfl, hjn, good_below hb hb2⟩, by simp [intOf]; omega⟩
      · have HC : Hid (byt F j = 67) := hc
        have ht : mkT (U (j + 1)) = (O ++ ⟨#[32]⟩) ++ (⟨#[99]⟩ ++ itoaT ce) := by rw [HNX.out, HC.out]; exact congrArg (fun t => (O ++ ⟨#[32]⟩) ++ t) HFR.out.2.1
        rw [hc] at hbt
        have HTT : Hid (mkT (U (j + 1)) = (O ++ ⟨#[32]⟩) ++ (⟨#[99]⟩ ++ itoaT ce)) := ht
        have cd := fun W => specDigits HX.out.ce W
        have hs : (itoaT ce).size ≤ 22 := Nat.le_trans (itoa_len HX.out.ce) (by omega)
        obtain ⟨D, hD⟩ : ∃ D, itoaT ce = D := ⟨_, rfl⟩
        rw [hD] at cd hs HTT
        clear hD
        clear ht hc
        have u1 := kr.cell 1
        simp at u1
        clear kr
        go_wp2_with (go_at_call 21; go_must (refine (cd _).mono ?_; rintro e w2 ⟨rfl, hb2⟩))
        exact ⟨⟨j + 1, by rw [HTT.out], rfl, hjn, good_below hb hb2⟩, by simp [intOf]; omega⟩
      · have HC : Hid (byt F j = 86) := hc
        have ht : mkT (U (j + 1)) = (O ++ ⟨#[32]⟩) ++ mkT (valT ar an) := by rw [HNX.out, HC.out]; exact congrArg (fun t => (O ++ ⟨#[32]⟩) ++ t) HFR.out.2.2.1
        rw [hc] at hbt
        have HTT : Hid (mkT (U (j + 1)) = (O ++ ⟨#[32]⟩) ++ mkT (valT ar an)) := ht
        have cd := fun W => specValWord HAR.out.1 HX.out.ar HX.out.an W
        have hs : (mkT (valT ar an)).size ≤ 22 := valT_len HX.out.ar HX.out.an
        obtain ⟨D, hD⟩ : ∃ D, mkT (valT ar an) = D := ⟨_, rfl⟩
        rw [hD] at cd hs HTT
        clear hD
        clear ht hc
        have u3 := kr.cell 3
        have u4 := kr.cell 4
        simp at u3 u4
        clear kr
        go_wp2_with (go_at_call 37; go_must (refine (cd _).mono ?_; rintro e w2 ⟨rfl, hb2⟩))
        exact ⟨⟨j + 1, by rw [HTT.out], rfl, hjn, good_below hb hb2⟩, by simp [intOf]; omega⟩
      · have HC : Hid (byt F j = 87) := hc
        have ht : mkT (U (j + 1)) = (O ++ ⟨#[32]⟩) ++ mkT (valT br bn) := by rw [HNX.out, HC.out]; exact congrArg (fun t => (O ++ ⟨#[32]⟩) ++ t) HFR.out.2.2.2.1
        rw [hc] at hbt
        have HTT : Hid (mkT (U (j + 1)) = (O ++ ⟨#[32]⟩) ++ mkT (valT br bn)) := ht
        have cd := fun W => specValWord HAR.out.2 HX.out.br HX.out.bn W
        have hs : (mkT (valT br bn)).size ≤ 22 := valT_len HX.out.br HX.out.bn
        obtain ⟨D, hD⟩ : ∃ D, mkT (valT br bn) = D := ⟨_, rfl⟩
        rw [hD] at cd hs HTT
        clear hD
        clear ht hc
        have u5 := kr.cell 5
        have u6 := kr.cell 6
        simp at u5 u6
        clear kr
        go_wp2_with (go_at_call 37; go_must (refine (cd _).mono ?_; rintro e w2 ⟨rfl, hb2⟩))
        exact ⟨⟨j + 1, by rw [HTT.out], rfl, hjn, good_below hb hb2⟩, by simp [intOf]; omega⟩
      · have HC : Hid (byt F j = 79) := hc
        have ht : mkT (U (j + 1)) = (O ++ ⟨#[32]⟩) ++ wordAt ordL od := by rw [HNX.out, HC.out]; exact congrArg (fun t => (O ++ ⟨#[32]⟩) ++ t) HFR.out.2.2.2.2.1
        rw [hc] at hbt
        have HTT : Hid (mkT (U (j + 1)) = (O ++ ⟨#[32]⟩) ++ wordAt ordL od) := ht
        have cd := fun W => specOrderWord (H79.out HC.out).1 (H79.out HC.out).2 W
        have hs : (wordAt ordL od).size ≤ 22 := Nat.le_trans (wordAt_len (by decide)) (by omega)
        obtain ⟨D, hD⟩ : ∃ D, wordAt ordL od = D := ⟨_, rfl⟩
        rw [hD] at cd hs HTT
        clear hD
        clear ht hc
        have u7 := kr.cell 7
        simp at u7
        clear kr
        go_wp2_with (go_at_call 38; go_must (refine (cd _).mono ?_; rintro e w2 ⟨rfl, hb2⟩))
        exact ⟨⟨j + 1, by rw [HTT.out], rfl, hjn, good_below hb hb2⟩, by simp [intOf]; omega⟩
      · have HC : Hid (byt F j = 81) := hc
        have ht : mkT (U (j + 1)) = (O ++ ⟨#[32]⟩) ++ wordAt cndL cq := by rw [HNX.out, HC.out]; exact congrArg (fun t => (O ++ ⟨#[32]⟩) ++ t) HFR.out.2.2.2.2.2.1
        rw [hc] at hbt
        have HTT : Hid (mkT (U (j + 1)) = (O ++ ⟨#[32]⟩) ++ wordAt cndL cq) := ht
        have cd := fun W => specCondWord (H81.out HC.out).1 (H81.out HC.out).2 W
        have hs : (wordAt cndL cq).size ≤ 22 := Nat.le_trans (wordAt_len (by decide)) (by omega)
        obtain ⟨D, hD⟩ : ∃ D, wordAt cndL cq = D := ⟨_, rfl⟩
        rw [hD] at cd hs HTT
        clear hD
        clear ht hc
        have u8 := kr.cell 8
        simp at u8
        clear kr
        go_wp2_with (go_at_call 39; go_must (refine (cd _).mono ?_; rintro e w2 ⟨rfl, hb2⟩))
        exact ⟨⟨j + 1, by rw [HTT.out], rfl, hjn, good_below hb hb2⟩, by simp [intOf]; omega⟩
      · have HC : Hid (byt F j = 77) := hc
        have ht : mkT (U (j + 1)) = (O ++ ⟨#[32]⟩) ++ itoaT tg := by rw [HNX.out, HC.out]; exact congrArg (fun t => (O ++ ⟨#[32]⟩) ++ t) HFR.out.2.2.2.2.2.2
        rw [hc] at hbt
        have HTT : Hid (mkT (U (j + 1)) = (O ++ ⟨#[32]⟩) ++ itoaT tg) := ht
        have cd := fun W => specDigits HX.out.tg W
        have hs : (itoaT tg).size ≤ 22 := Nat.le_trans (itoa_len HX.out.tg) (by omega)
        obtain ⟨D, hD⟩ : ∃ D, itoaT tg = D := ⟨_, rfl⟩
        rw [hD] at cd hs HTT
        clear hD
        clear ht hc
        have u9 := kr.cell 9
        simp at u9
        clear kr
        go_wp2_with (go_at_call 21; go_must (refine (cd _).mono ?_; rintro e w2 ⟨rfl, hb2⟩))
        exact ⟨⟨j + 1, by rw [HTT.out], rfl, hjn, good_below hb hb2⟩, by simp [intOf]; omega⟩
      · have HC : Hid (byt F j = 78) := hc
        have ht : mkT (U (j + 1)) = (O ++ ⟨#[32]⟩) ++ itoaT tg := by rw [HNX.out, HC.out]; exact congrArg (fun t => (O ++ ⟨#[32]⟩) ++ t) HFR.out.2.2.2.2.2.2
        rw [hc] at hbt
        have HTT : Hid (mkT (U (j + 1)) = (O ++ ⟨#[32]⟩) ++ itoaT tg) := ht
        have cd := fun W => specDigits HX.out.tg W
        have hs : (itoaT tg).size ≤ 22 := Nat.le_trans (itoa_len HX.out.tg) (by omega)
        obtain ⟨D, hD⟩ : ∃ D, itoaT tg = D := ⟨_, rfl⟩
        rw [hD] at cd hs HTT
        clear hD
        clear ht hc
        have u9 := kr.cell 9
        simp at u9
        clear kr
        go_wp2_with (go_at_call 21; go_must (refine (cd _).mono ?_; rintro e w2 ⟨rfl, hb2⟩))
        exact ⟨⟨j + 1, by rw [HTT.out], rfl, hjn, good_below hb hb2⟩, by simp [intOf]; omega⟩
    · obtain rfl : j = F.size := by omega
      have hjn' : ¬ ((F.size : Int) < (F.size : Int)) := by omega
      go_wp2_with fail
      go_ret
      exact ⟨rfl, by first | exact HBB.out _ hb | exact HBC.out _ hb⟩
end Go.Proofs.YthopmdfichfhdaaGreatDoor
