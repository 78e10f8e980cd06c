/-
  An instruction's words, written by the program. Rows of one's own texts joined. A program that comes in, as it lies in memory; how long its text is at most. No statement of the seat is proved here.
-/
import Derived.Test.YthopmdfichfhdaaGreatDoorX3
import Derived.Test.YthopmdfichfhdaaGreatDoorI7
namespace Go.Proofs.YthopmdfichfhdaaGreatDoor
open Go.ChangeShapes Go.WideShapes Go.ChangeAt Go.RowKit
set_option linter.unusedVariables false
set_option linter.unusedSimpArgs false

set_option maxRecDepth 100000 in
theorem index_form (k : Nat) (hk : k < 14) (w : World) : (Instr.index 103 (.agg frmV) (.int .i64 (k : Int))).run Tryz.prog w = .ok (.agg #[.string (frmWAt k), .string (frmFAt k)]) w := by
  rcases fourteen hk with rfl | rfl | rfl | rfl | rfl | rfl | rfl | rfl | rfl | rfl | rfl | rfl | rfl | rfl <;> rfl
theorem own_iter {B it j : Nat} {w : World} {v : Value} {l : List ByteArray} {F : ByteArray} (h : OwnTxts B w v l) (hi : w.heap[it]? = some (.stringIter F j)) : v.ownBlock ≠ some it := by
  rcases h.2 with ⟨rfl, _⟩ | ⟨g, cap, cur, rfl, hB, hg, _⟩
  · simp [Value.ownBlock]
  · intro e
    have e2 : g = it := by simpa [Value.ownBlock] using e
    subst e2
    rw [hi] at hg
    cases hg
theorem iter_grown (w : World) (it j : Nat) (F : ByteArray) : w.grownBy (w.iterAt it F j) (some it) :=
  ⟨rfl, rfl, rfl, by rw [Lib.iterAt_size]; exact Nat.le_refl _, fun k _ hk => Lib.iterAt_other w it k F j (fun e => hk (by rw [e]))⟩
/-- The words of the first n fields. -/
def fldsW (x : Ins) (F : ByteArray) (n : Nat) : List ByteArray := (List.range n).map (fun j => mkT (fieldT x (byt F j)))
theorem fldsW_succ (x : Ins) (F : ByteArray) (n : Nat) : fldsW x F (n + 1) = fldsW x F n ++ [mkT (fieldT x (byt F n))] := by
  unfold fldsW
  rw [List.range_succ, List.map_append]
  rfl
theorem fldsW_len (x : Ins) (F : ByteArray) (n : Nat) : (fldsW x F n).length = n := by simp [fldsW]
theorem step_callW {ops : Array Oper} {o : Oper} {a : Act} {w : World} {K : Act → World → Prop} {Q : Exit → Act → World → Prop} {E : Prop} (hg : o.guard = none) (f : FuncId) (args : Array Value) (hrun : (execOp a.eval o).run Tryz.prog w = .ok (.enter f args) w) {Post : Ending → World → Prop} (hc : Calls Tryz.prog f args w Post) (h : ∀ e w', Post e w' → ∃ v, e = .returned v ∧ K (a.put o.dst v) w') :
    if Region.wanted o (yielded ops a.tmps) = true then Oper.wp Tryz.prog o a w K Q else E := by
  have hw : Region.wanted o (yielded ops a.tmps) = true := by simp [Region.wanted, hg]
  rw [if_pos hw]
  unfold Oper.wp
  rw [hrun, Oper.upon_enter]
  refine hc.mono fun e w'' hh => ?_
  obtain ⟨v, rfl, hk⟩ := h e w'' hh
  exact hk
set_option maxRecDepth 100000 in
set_option maxHeartbeats 8000000 in
theorem implInsWords (x : Ins) (hx : Ins64 x) (w : World) (hT : PowT w) : Calls Tryz.prog 44 #[insV x] w fun e w' => (∃ v, e = .returned v ∧ OwnTxts w.heap.size w' v ((wordsI x).map mkT)) ∧ Below w.heap.size w w' := by
  have hb0 : Below w.heap.size w (w.alloc (.cells (insC x) 43)) := (Below.refl _ w).alloc (Nat.le_refl _) _
  have k0 : Blk (w.alloc (.cells (insC x) 43)) w.heap.size 43 (insC x) := heap_alloc_last w _
  have cb := fun W => implBetween x.op 1 13 W
  by_cases h : 1 ≤ x.op ∧ x.op ≤ 13
  case neg =>
    have hB : (decide (1 ≤ x.op) && decide (x.op ≤ 13)) = false := by
      rw [Bool.and_eq_false_iff, decide_eq_false_iff_not, decide_eq_false_iff_not]
      omega
    rw [hB] at cb
    have hw : wordsI x = [] := if_neg h
    rw [hw]
    have HB : Hid (Below w.heap.size w (w.alloc (.cells (insC x) 43))) := hb0
    clear hb0 k0 hB hw h hx hT
    obtain ⟨op, ce, rg, ar, an, br, bn, od, cq, tg⟩ := x
    unfold insV
    unfold insC at HB
    dsimp only at HB cb ⊢
    go_enter Tryz.func44, Tryz.ntmps44
    go_wp2_with (go_at_call 54; go_must (refine (cb _).mono ?_; rintro e w2 ⟨rfl, hq⟩; obtain rfl := hq.symm; clear hq))
    go_ret
    exact ⟨⟨_, rfl, OwnTxts.nil _ _⟩, HB.out⟩
  case pos =>
    obtain ⟨k, hk⟩ := Int.eq_ofNat_of_zero_le (show 0 ≤ x.op by omega)
    have hk14 : k < 14 := by omega
    have hk1 : 1 ≤ k := by omega
    have hw : (wordsI x).map mkT = frmWAt k :: fldsW x (frmFAt k) (frmFAt k).size := by
      unfold wordsI
      rw [if_pos h, hk, Int.toNat_natCast, List.map_cons, List.map_map]
      rfl
    rw [hw, decide_eq_true h.1, decide_eq_true h.2] at *
    clear hw
    have cix := index_form k hk14
    have ci := fun W => implInsForms W
    have hf5 := frm_five hk14
    have HCH : Hid (∀ j, j < (frmFAt k).size → byt (frmFAt k) j = 82 ∨ byt (frmFAt k) j = 67 ∨ byt (frmFAt k) j = 65 ∨ byt (frmFAt k) j = 66 ∨ byt (frmFAt k) j = 79 ∨ byt (frmFAt k) j = 63 ∨ byt (frmFAt k) j = 78) := fun j hj => frm_chars hk14 hj
    have hTB := hT.below hb0
    have hs0 : (w.alloc (.cells (insC x) 43)).heap.size = w.heap.size + 1 := by simp
    have HX : Hid (Ins64 x) := hx
    obtain ⟨W0, hW0⟩ : ∃ X, frmWAt k = X := ⟨_, rfl⟩
    obtain ⟨F, hF⟩ : ∃ X, frmFAt k = X := ⟨_, rfl⟩
    obtain ⟨FV, hFV⟩ : ∃ X, frmV = X := ⟨_, rfl⟩
    simp only [hW0, hF, hFV] at *
    clear hW0 hF hFV
    have hopc := k0.cell 0
    have HK : Hid (Blk (w.alloc (.cells (insC x) 43)) w.heap.size 43 (insC x)) := k0
    have HB : Hid (Below w.heap.size w (w.alloc (.cells (insC x) 43))) := hb0
    have HT : Hid (PowT (w.alloc (.cells (insC x) 43))) := hTB
    have hV : ∃ IV, insV x = IV := ⟨_, rfl⟩
    clear hb0 k0 hT hTB hx h
    have hbx : ∀ C, insC x = C → insV x = .agg C := fun C hC => by rw [← hC]; rfl
    have hcs : (insC x)[0]? = some (.int .i64 (k : Int)) := by unfold insC; rw [hk]; rfl
    obtain ⟨op, ce, rg, ar, an, br, bn, od, cq, tg⟩ := x
    dsimp only at hk cb
    subst hk
    clear hbx hcs hV
    unfold insV
    unfold insC at HB HK HT hs0 hopc
    dsimp only at HB HK HT hs0 hopc ⊢
    simp at hopc
    go_enter Tryz.func44, Tryz.ntmps44
    go_upto_region 3 with (go_at_call 54; go_must (refine (cb _).mono ?_; rintro e w2 ⟨rfl, hq⟩; obtain rfl := hq.symm; clear hq))
    obtain ⟨wb, hwb⟩ : ∃ W, w.alloc (.cells #[.int .i64 (k : Int), .int .i64 ce, .int .i64 rg, .int .i64 ar, .int .i64 an, .int .i64 br, .int .i64 bn, .int .i64 od, .int .i64 cq, .int .i64 tg] 43) = W := ⟨_, rfl⟩
    obtain ⟨b0, hbb⟩ : ∃ b, w.heap.size = b := ⟨_, rfl⟩
    rw [hwb] at HB HK HT hs0 ⊢
    rw [hbb] at HB HK hs0 ⊢
    have HS0 : Hid (wb.heap.size = b0 + 1) := hs0
    clear hwb cb hopc hs0
    have HKC : Hid (∀ W, Below wb.heap.size wb W → W.cell? ⟨b0, 0, none⟩ = some (.int .i64 (k : Int))) := fun W hW => (HK.out.below hW).cell 0
    have c0 := HKC.out wb (Below.refl _ wb)
    go_cut [3] from 7 to 14 (fun s3 wx => ∃ g, s3 = .pointer (some ⟨g, 0, none⟩) ∧ wb.heap.size ≤ g ∧ Blk wx g 102 #[.string W0, .string F] ∧ Below wb.heap.size wb wx)
    case first =>
      have bD : Below wb.heap.size wb wb.drew := (Below.refl _ wb).drew
      have bE : Below wb.heap.size wb (wb.drew.alloc (.cells #[.string ⟨#[]⟩, .string ⟨#[]⟩] 102)) := bD.alloc bD.size _
      have kE : Blk (wb.drew.alloc (.cells #[.string ⟨#[]⟩, .string ⟨#[]⟩] 102)) wb.heap.size 102 #[.string ⟨#[]⟩, .string ⟨#[]⟩] := heap_alloc_last _ _
      have HE : Hid (Below wb.heap.size wb (wb.drew.alloc (.cells #[.string ⟨#[]⟩, .string ⟨#[]⟩] 102)) ∧ Blk (wb.drew.alloc (.cells #[.string ⟨#[]⟩, .string ⟨#[]⟩] 102)) wb.heap.size 102 #[.string ⟨#[]⟩, .string ⟨#[]⟩] ∧ Below wb.heap.size wb wb.drew) := ⟨bE, kE, bD⟩
      have cD := HKC.out _ bD
      have cE := HKC.out _ bE
      have cE2 : (wb.alloc (.cells #[.string ⟨#[]⟩, .string ⟨#[]⟩] 102)).drew.cell? ⟨b0, 0, none⟩ = some (.int .i64 (k : Int)) := cE
      clear bD bE kE
      go_region_law (refine step_callW rfl 55 #[] (by kernel_rfl) (ci _) ?_; rintro e w8 ⟨rfl, hb8⟩; refine ⟨_, rfl, ?_⟩; have B8 : Below wb.heap.size wb w8 := (by first | exact good_below HE.out.2.2 hb8 | exact good_below HE.out.1 hb8); have c8 := HKC.out w8 B8; have c9 := HKC.out _ (B8.alloc B8.size (.cells #[.string ⟨#[]⟩, .string ⟨#[]⟩] 102)); (try (have k8 := HE.out.2.1.below hb8; have u0 := k8.cell 0; have u1 := k8.cell 1; have f0 := k8.fro 0; have f1 := k8.fro 1; have v1 := (k8.set 0 (.string W0)).cell 1; have g1 := (k8.set 0 (.string W0)).fro 1; simp at u0 u1 v1)))
      all_goals
        refine meet_then (by assumption) ?_
        go_meet
        first
          | exact ⟨_, rfl, B8.size, heap_alloc_last w8 _, B8.alloc B8.size _⟩
          | exact ⟨_, rfl, Nat.le_refl _, ((HE.out.2.1.below hb8).set 0 (.string W0)).set 1 (.string F), (B8.setCell (p := ⟨wb.heap.size, 0, none⟩) (Nat.le_refl _) _).setCell (p := ⟨wb.heap.size, 1, none⟩) (Nat.le_refl _) _⟩
    case rest =>
      obtain ⟨g, rfl, hgl, kg, hbg⟩ := hcut
      obtain ⟨wC, hwC⟩ : ∃ W, W = wc := ⟨_, rfl⟩
      subst hwC
      have hgC : g < wC.heap.size := kg.lt
      have hbC : wb.heap.size ≤ wC.heap.size := hbg.size
      have bL : Below wC.heap.size wC (wC.alloc (.cells #[.string W0] 9)) := (Below.refl _ wC).alloc (Nat.le_refl _) _
      have x0 := kg.cell 0
      have x1 := (kg.below bL).cell 1
      simp at x0
      have x1' : (wC.alloc (.cells #[.string W0] 9)).cell? ⟨g, 1, none⟩ = some (.string F) := x1
      have oL : OwnTxts wC.heap.size (wC.alloc (.cells #[.string W0] 9)) (.slice (some ⟨wC.heap.size, 0, none⟩) 1 1) [W0] := ⟨rfl, .inr ⟨wC.heap.size, 1, #[.string W0], rfl, Nat.le_refl _, heap_alloc_last wC _, by first | decide | simp, by first | decide | simp, rfl, rfl⟩⟩
      have hsL : (wC.alloc (.cells #[.string W0] 9)).heap.size = wC.heap.size + 1 := by simp
      obtain ⟨wL, hwL⟩ : ∃ W, wC.alloc (.cells #[.string W0] 9) = W := ⟨_, rfl⟩
      have HL : Hid (OwnTxts wC.heap.size wL (.slice (some ⟨wC.heap.size, 0, none⟩) 1 1) [W0] ∧ Below wC.heap.size wC wL) := by rw [← hwL]; exact ⟨oL, bL⟩
      clear oL bL x1 c0 cix ci
      go_upto_region 5 with fail
      rw [hwL] at x1' hsL
      clear hwL x0
      have hi0 : (wL.iter F 0).heap[wC.heap.size + 1]? = some (.stringIter F 0) := by rw [← hsL]; exact iter_fresh wL F 0
      have hIL : Below wC.heap.size wC (wL.iter F 0) := HL.out.2.trans ((Below.refl _ wL).alloc (by omega) _)
      have oI : OwnTxts wC.heap.size (wL.iter F 0) (.slice (some ⟨wC.heap.size, 0, none⟩) 1 1) [W0] := HL.out.1.below ((Below.refl _ wL).alloc (Nat.le_refl _) _)
      have HI : Hid ((wL.iter F 0).heap[wC.heap.size + 1]? = some (.stringIter F 0) ∧ Below wC.heap.size wC (wL.iter F 0) ∧ OwnTxts wC.heap.size (wL.iter F 0) (.slice (some ⟨wC.heap.size, 0, none⟩) 1 1) [W0]) := ⟨hi0, hIL, oI⟩
      obtain ⟨it, hit⟩ : ∃ i, wC.heap.size + 1 = i := ⟨_, rfl⟩
      have HIT : Hid (wC.heap.size + 1 = it) := hit
      rw [hit] at HI hsL
      clear hi0 hIL oI HL hit
      obtain ⟨X, hX⟩ : ∃ X : Ins, ({ op := (k : Int), cell := ce, reg := rg, ar := ar, an := an, br := br, bn := bn, ord := od, cnd := cq, tgt := tg } : Ins) = X := ⟨_, rfl⟩
      go_wp2_with fail
      go_loopw [4, 6] (fun i4 _ wr => ∃ (j : Nat) (a4 : Option Addr) (c4 : Nat) (ls : List ByteArray), i4 = .slice a4 ls.length c4 ∧ wr.heap[it]? = some (.stringIter F j) ∧ j ≤ F.size ∧ ls = W0 :: fldsW X F j ∧ OwnTxts wC.heap.size wr (.slice a4 ls.length c4) ls ∧ Below wC.heap.size wC wr) (fun _ _ wr => F.size - wr.iterPos it)
      case atStart => exact ⟨0, _, _, [W0], rfl, HI.out.1, Nat.zero_le _, rfl, HI.out.2.2, HI.out.2.1⟩
      case round =>
        obtain ⟨j, a4, c4, ls, rfl, hi, hj, hls, hown, hB⟩ := hrel
        have hip := iterPos_of hi
        have HLS : Hid (ls = W0 :: fldsW X F j) := hls
        have hlen : ls.length = j + 1 := by rw [hls]; simp [fldsW_len]
        have hszA : ls.length + 1 ≤ 1000000 := by omega
        have HO : Hid (OwnTxts wC.heap.size wr (.slice a4 ls.length c4) ls) := hown
        have HLEN : Hid (ls.length = j + 1) := hlen
        clear hls hown hlen x1' HI
        by_cases hjn : j < F.size
        · have hnx : ∀ ty, (Instr.next (.pointer (some ⟨it, 0, none⟩)) true ty).run Tryz.prog wr = _ := fun ty => Lib.run_next_any_at wr it F j ty hi hjn
          have hch := HCH.out j hjn
          rw [decode_low (by omega)] at hnx
          obtain ⟨c, hc⟩ : ∃ c, byt F j = c := ⟨_, rfl⟩
          rw [hc] at hnx hch
          simp only at hnx
          obtain ⟨wt, hwt⟩ : ∃ wt, wr.iterAt it F (j + 1) = wt := ⟨_, rfl⟩
          have hiT : wt.heap[it]? = some (.stringIter F (j + 1)) := by rw [← hwt]; exact Lib.iterAt_heap wr _ _ _ _ hi
          have hBT : Below wC.heap.size wC wt := by rw [← hwt]; exact Lib.below_iterAt hB (by have := HIT.out; omega) _ _
          have oT : OwnTxts wC.heap.size wt (.slice a4 ls.length c4) ls := by rw [← hwt]; exact HO.out.kept (iter_grown wr it (j + 1) F) (.inr (own_iter HO.out hi))
          rw [hwt] at hnx
          have hBTb : Below wb.heap.size wb wt := good_below hbg hBT
          have hkT : Blk wt b0 43 #[.int .i64 (k : Int), .int .i64 ce, .int .i64 rg, .int .i64 ar, .int .i64 an, .int .i64 br, .int .i64 bn, .int .i64 od, .int .i64 cq, .int .i64 tg] := HK.out.below hBTb
          have cfd := implFieldText hch X wt (by rw [← hX]; exact HX.out) (HT.out.below hBTb)
          obtain ⟨T, hT⟩ : ∃ T, mkT (fieldT X c) = T := ⟨_, rfl⟩
          rw [hT] at cfd
          have hsucc : fldsW X F (j + 1) = fldsW X F j ++ [T] := by rw [fldsW_succ, hc, hT]
          have HSUC : Hid (fldsW X F (j + 1) = fldsW X F j ++ [T]) := hsucc
          have cfd2 : Calls Tryz.prog 56 #[.agg #[.int .i64 (k : Int), .int .i64 ce, .int .i64 rg, .int .i64 ar, .int .i64 an, .int .i64 br, .int .i64 bn, .int .i64 od, .int .i64 cq, .int .i64 tg], .int .i32 (c : Int)] wt fun e w' => e = .returned (.string T) ∧ Below wt.heap.size wt w' := by
            rw [← hX] at cfd
            exact cfd
          have HT2 : Hid (wt.heap[it]? = some (.stringIter F (j + 1)) ∧ Below wC.heap.size wC wt ∧ OwnTxts wC.heap.size wt (.slice a4 ls.length c4) ls) := ⟨hiT, hBT, oT⟩
          have HKT : Hid (Blk wt b0 43 #[.int .i64 (k : Int), .int .i64 ce, .int .i64 rg, .int .i64 ar, .int .i64 an, .int .i64 br, .int .i64 bn, .int .i64 od, .int .i64 cq, .int .i64 tg]) := hkT
          clear hsucc hT hwt hiT hBT oT hBTb hkT cfd hi hB hc hch
          go_wp2_with (first
            | (go_at_call 56; go_must (refine cfd2.mono ?_; rintro e w9 ⟨rfl, hb9⟩; have hs9 : wC.heap.size ≤ w9.heap.size := Nat.le_trans HT2.out.2.1.size hb9.size))
            | (refine wpList_load_row rfl 43 _ rfl b0 rfl 43 #[.int .i64 (k : Int), .int .i64 ce, .int .i64 rg, .int .i64 ar, .int .i64 an, .int .i64 br, .int .i64 bn, .int .i64 od, .int .i64 cq, .int .i64 tg] (0, 0) _ HKT.out Tryz.underlying43 rfl (by first | kernel_rfl | rfl) ?_)
            | (at_builtin; go_must (refine wpList_appendTxts rfl (.tmp 24) (.tmp 28) rfl wC.heap.size (.slice a4 ls.length c4) ls rfl (OwnTxts.below (HT2.out.2.2.below hb9) ((Below.refl _ _).alloc (Nat.le_refl _) _)) _ [T] rfl (TxtsAt.new w9 T) (by simp; omega) (by simp only [World.size_alloc]; omega) ?_; intro v10 w10 hown10 hB10 hgr10 hnil10)))
          have hi9 : (w9.alloc (.cells #[.string T] 9)).heap[it]? = some (.stringIter F (j + 1)) := by
            have hlt : it < wt.heap.size := (Array.getElem?_eq_some_iff.1 HT2.out.1).1
            rw [((Below.refl _ w9).alloc (Nat.le_refl _) _).block it (by have := hb9.size; omega), hb9.block it hlt]
            exact HT2.out.1
          have hi10 : w10.heap[it]? = some (.stringIter F (j + 1)) := by
            rw [hgr10.block it (Array.getElem?_eq_some_iff.1 hi9).1 (fun e => own_iter (HT2.out.2.2.below hb9 |>.below ((Below.refl _ w9).alloc (Nat.le_refl _) _)) hi9 e.symm)]
            exact hi9
          obtain ⟨va, vc, rfl⟩ := row_shape hown10
          refine ⟨⟨j + 1, va, vc, ls ++ [T], by simp, hi10, by omega, by rw [HSUC.out, HLS.out]; rfl, by simpa using hown10, ((HT2.out.2.1.trans (hb9.mono HT2.out.2.1.size)).alloc hs9 _).trans hB10⟩, by rw [hip, iterPos_of hi10]; omega⟩
        · obtain rfl : j = F.size := by omega
          have hnx : ∀ ty, (Instr.next (.pointer (some ⟨it, 0, none⟩)) true ty).run Tryz.prog wr = _ := fun ty => Lib.run_next_end_at wr it F F.size ty hi hjn
          clear hi hip
          go_wp2_with fail
          go_ret
          refine ⟨⟨_, rfl, ?_⟩, ?_⟩
          · rw [hX]
            rw [← HLS.out]
            exact row_mono HO.out (by have := HS0.out; omega)
          · have h1 : Below b0 w wC := HB.out.trans (hbg.mono (by have := HS0.out; omega))
            rw [hbb]
            exact h1.trans (hB.mono (by have := HS0.out; omega))
end Go.Proofs.YthopmdfichfhdaaGreatDoor

namespace Go.Proofs.YthopmdfichfhdaaGreatDoor
open Go.ChangeShapes Go.WideShapes Go.ChangeAt Go.RowKit
set_option linter.unusedVariables false
set_option linter.unusedSimpArgs false

theorem own_cells {B : Nat} {w : World} {v : Value} {l : List ByteArray} (h : OwnTxts B w v l) : (l = [] ∧ ∃ a c, v = .slice a 0 c) ∨ ∃ g cap, v = .slice (some ⟨g, 0, none⟩) l.length cap ∧ g < w.heap.size ∧ l.length ≤ cap ∧ ∀ (j : Nat) x, l[j]? = some x → w.cell? ⟨g, 0 + j, none⟩ = some (.string x) := by
  rcases h.2 with ⟨rfl, h0⟩ | ⟨g, cap, cur, rfl, hB, hg, h1, h2, h3, h4⟩
  · exact .inl ⟨List.eq_nil_of_length_eq_zero h0, _, _, rfl⟩
  · refine .inr ⟨g, cap, rfl, (Array.getElem?_eq_some_iff.1 hg).1, by omega, fun j x hx => ?_⟩
    have hj : j < l.length := by
      rcases Nat.lt_or_ge j l.length with h | h
      · exact h
      · rw [List.getElem?_eq_none h] at hx; cases hx
    have hx2 : l[j] = x := by rw [List.getElem?_eq_getElem hj] at hx; exact Option.some.inj hx
    have hr := TxtsRow_at l j hj
    have hg2 : Blk w g 9 cur := hg
    rw [Nat.zero_add, hg2.cell j]
    rw [← h4, List.getElem?_take_of_lt (by omega)] at hr
    rw [← Array.getElem?_toList, hr, hx2]
theorem implJoin {B : Nat} {w : World} {v : Value} {l : List ByteArray} (h : OwnTxts B w v l) (sep : ByteArray) (hl : l.length ≤ 1000000) (hz : (Lib.join (l.map (·.data.toList)) sep.data.toList).length ≤ 1000000000) :
    Calls Tryz.prog 43 #[v, .string sep] w fun e w' => e = .returned (.string (mkT (Lib.join (l.map (·.data.toList)) sep.data.toList))) ∧ Below w.heap.size w w' := by
  rcases own_cells h with ⟨rfl, a, c, rfl⟩ | ⟨g, cap, rfl, hg, hc, hcell⟩
  · exact (Tryz.strings_Join_none a c sep w).mono fun e w' hh => ⟨hh.1, hh.2 ▸ Below.refl _ _⟩
  · exact (Tryz.strings_Join g 0 cap l sep w hcell hg (by omega) hc (by omega)).mono fun e w' hh => hh
end Go.Proofs.YthopmdfichfhdaaGreatDoor

namespace Go.Proofs.YthopmdfichfhdaaGreatDoor
open Go.ChangeShapes Go.WideShapes Go.ChangeAt Go.RowKit
set_option linter.unusedVariables false
set_option linter.unusedSimpArgs false

/-- A row of numbers that came in. -/
def NIn (w : World) (v : Value) (l : List Int) : Prop := ∃ a c, v = .slice a l.length c ∧ ∀ j, j < l.length → ∃ b o, a = some ⟨b, o, none⟩ ∧ w.cell? ⟨b, o + j, none⟩ = some (.int .i64 (l.getD j 0))
/-- A row of instructions that came in. -/
def CIn (w : World) (v : Value) (l : List Ins) : Prop := ∃ a c, v = .slice a l.length c ∧ ∀ j, j < l.length → ∃ b o, a = some ⟨b, o, none⟩ ∧ ∀ f, f < 10 → w.cell? ⟨b, o + j * 10 + f, none⟩ = (insC (l.getD j ins0))[f]?
/-- A program that came in. -/
structure PIn (w : World) (iv tv : Value) (ini : List Int) (thr : List (List Ins)) : Prop where
  i : NIn w iv ini
  t : ∃ a c, tv = .slice a thr.length c ∧ ∀ j, j < thr.length → ∃ b o v, a = some ⟨b, o, none⟩ ∧ w.cell? ⟨b, o + j, none⟩ = some v ∧ CIn w v (thr.getD j [])
theorem NIn.below {w w' : World} {v : Value} {l : List Int} (h : NIn w v l) (hb : Below w.heap.size w w') : NIn w' v l := by
  obtain ⟨a, c, e, hc⟩ := h
  refine ⟨a, c, e, fun j hj => ?_⟩
  obtain ⟨b, o, ea, hx⟩ := hc j hj
  exact ⟨b, o, ea, (hb.cell (World.block_lt_of_cell? _ _ hx)).trans hx⟩
theorem insC_size (x : Ins) : (insC x).size = 10 := rfl
theorem CIn.below {w w' : World} {v : Value} {l : List Ins} (h : CIn w v l) (hb : Below w.heap.size w w') : CIn w' v l := by
  obtain ⟨a, c, e, hc⟩ := h
  refine ⟨a, c, e, fun j hj => ?_⟩
  obtain ⟨b, o, ea, hx⟩ := hc j hj
  refine ⟨b, o, ea, fun f hf => ?_⟩
  have h1 := hx f hf
  rw [Array.getElem?_eq_getElem (by rw [insC_size]; exact hf)] at h1 ⊢
  exact (hb.cell (World.block_lt_of_cell? _ _ h1)).trans h1
theorem PIn.below {w w' : World} {iv tv : Value} {ini : List Int} {thr : List (List Ins)} (h : PIn w iv tv ini thr) (hb : Below w.heap.size w w') : PIn w' iv tv ini thr := by
  obtain ⟨h1, a, c, e, hc⟩ := h
  refine ⟨h1.below hb, a, c, e, fun j hj => ?_⟩
  obtain ⟨b, o, v, ea, hx, hv⟩ := hc j hj
  exact ⟨b, o, v, ea, (hb.cell (World.block_lt_of_cell? _ _ hx)).trans hx, hv.below hb⟩
/-! ### How long a text is at most -/
theorem join_le {s : List UInt8} {M : Nat} : ∀ (ws : List (List UInt8)), (∀ w ∈ ws, w.length ≤ M) → (Lib.join ws s).length ≤ ws.length * (M + s.length)
  | [], _ => by rw [join_nil]; simp
  | [w], h => by
    rw [join_single]
    have := h w (List.mem_singleton.2 rfl)
    simp only [List.length_singleton]
    omega
  | w :: v :: r, h => by
    rw [join_two]
    have h1 := h w (List.mem_cons_self ..)
    have h2 := join_le (s := s) (v :: r) (fun x hx => h x (List.mem_cons_of_mem _ hx))
    simp only [List.length_append, List.length_cons] at h2 ⊢
    have h3 : (r.length + 1 + 1) * (M + s.length) = (r.length + 1) * (M + s.length) + (M + s.length) := by rw [Nat.add_mul (r.length + 1) 1, Nat.one_mul]
    omega
theorem itoa_len {n : Int} (hn : i64B n) : (Lib.itoa n).length ≤ 21 := Lib.itoa_length_le n hn.1 hn.2
theorem valT_len {r n : Int} (hr : i64B r) (hn : i64B n) : (valT r n).length ≤ 22 := by
  have h1 := itoa_len hr
  have h2 := itoa_len hn
  unfold valT
  split
  · simp only [List.length_cons]; omega
  · omega
theorem wordAt_len {l : List ByteArray} {i : Int} (h : ∀ t ∈ l, t.size ≤ 7) : (wordAt l i).data.toList.length ≤ 7 := by
  unfold wordAt
  split
  · rw [List.getD_eq_getElem?_getD]
    cases hg : l[i.toNat]? with
    | none => simp
    | some t => exact h t (List.mem_of_getElem? hg)
  · simp
theorem fieldT_len {x : Ins} (hx : Ins64 x) (c : Nat) : (fieldT x c).length ≤ 22 := by
  unfold fieldT
  have h1 := itoa_len hx.rg
  have h2 := itoa_len hx.ce
  have h3 := valT_len hx.ar hx.an
  have h4 := valT_len hx.br hx.bn
  have h5 := itoa_len hx.tg
  have h6 : (wordAt ordL x.ord).data.toList.length ≤ 7 := wordAt_len (by decide)
  have h7 : (wordAt cndL x.cnd).data.toList.length ≤ 7 := wordAt_len (by decide)
  repeat' split
  all_goals first | omega | (simp only [List.length_cons]; omega)
theorem wordsI_len {x : Ins} (hx : Ins64 x) : (wordsI x).length ≤ 6 ∧ ∀ w ∈ wordsI x, w.length ≤ 22 := by
  unfold wordsI
  split
  · rename_i h
    obtain ⟨k, hk⟩ := Int.eq_ofNat_of_zero_le (show 0 ≤ x.op by omega)
    have hk14 : k < 14 := by omega
    rw [hk, Int.toNat_natCast]
    have h5 := frm_five hk14
    have hw : (frmWAt k).size ≤ 22 := by
      rcases fourteen hk14 with rfl | rfl | rfl | rfl | rfl | rfl | rfl | rfl | rfl | rfl | rfl | rfl | rfl | rfl <;> decide
    refine ⟨by simp only [List.length_cons, List.length_map, List.length_range]; omega, fun w hw2 => ?_⟩
    rcases List.mem_cons.1 hw2 with rfl | hw2
    · exact hw
    · obtain ⟨j, _, rfl⟩ := List.mem_map.1 hw2
      exact fieldT_len hx _
  · exact ⟨by simp, fun w hw => by cases hw⟩
/-- An instruction's line, behind its two blanks. -/
theorem lineI_len {x : Ins} (hx : Ins64 x) : (Lib.join (wordsI x) [32]).length ≤ 138 := by
  obtain ⟨h1, h2⟩ := wordsI_len hx
  have := join_le (s := [32]) _ h2
  simp only [List.length_singleton] at this
  have h3 : (wordsI x).length * (22 + 1) ≤ 6 * 23 := Nat.mul_le_mul_right _ h1
  omega
theorem cellsL_len {ini : List Int} (hi : ini.length ≤ 8) (h : ∀ v ∈ ini, i64B v) : (cellsL ini).length ≤ 198 := by
  unfold cellsL
  have := join_le (s := [32]) (M := 21) (cellsW.data.toList :: ini.map Lib.itoa) (fun w hw => by
    rcases List.mem_cons.1 hw with rfl | hw
    · decide
    · obtain ⟨n, hn, rfl⟩ := List.mem_map.1 hw
      exact itoa_len (h n hn))
  simp only [List.length_cons, List.length_map, List.length_nil] at this
  have h3 : (ini.length + 1) * (21 + 1) ≤ 9 * 22 := Nat.mul_le_mul_right _ (by omega)
  omega
end Go.Proofs.YthopmdfichfhdaaGreatDoor
