/-
  spec.l12Read: an instruction's words, as the document reads them. No statement of the seat is proved here.
-/
import Derived.Test.YtbkhkpdpaaphoaaDoorS2
import Derived.Test.YtbkhkpdpaaphoaaDoorI11
import Derived.Deep.RegionHeld3
namespace Go.Proofs.YtbkhkpdpaaphoaaDoor
open Go.ChangeShapes Go.WideShapes Go.ChangeAt Go.RowKit
set_option linter.unusedVariables false
set_option linter.unusedSimpArgs false

def spcChk : Bool := (List.range 13).all fun k => decide ((formF ((k + 1 : Nat) : Int)).size ≤ 5) && (List.range (formF ((k + 1 : Nat) : Int)).size).all fun j => [82, 67, 86, 87, 79, 81, 78, 77].contains (byt (formF ((k + 1 : Nat) : Int)) j)
theorem spc_chk : spcChk = true := by kernel_rfl
theorem spc_chars {k j : Nat} (h1 : 1 ≤ k) (h2 : k ≤ 13) (hj : j < (formF (k : Int)).size) : byt (formF (k : Int)) j = 82 ∨ byt (formF (k : Int)) j = 67 ∨ byt (formF (k : Int)) j = 86 ∨ byt (formF (k : Int)) j = 87 ∨ byt (formF (k : Int)) j = 79 ∨ byt (formF (k : Int)) j = 81 ∨ byt (formF (k : Int)) j = 78 ∨ byt (formF (k : Int)) j = 77 := by
  have h := spc_chk
  unfold spcChk at h
  rw [List.all_eq_true] at h
  have h3 := h (k - 1) (List.mem_range.2 (by omega))
  rw [show k - 1 + 1 = k by omega, Bool.and_eq_true, List.all_eq_true] at h3
  have h4 := h3.2 j (List.mem_range.2 hj)
  simpa using h4
theorem spc_five {k : Nat} (h1 : 1 ≤ k) (h2 : k ≤ 13) : (formF (k : Int)).size ≤ 5 := by
  have h := spc_chk
  unfold spcChk at h
  rw [List.all_eq_true] at h
  have h3 := h (k - 1) (List.mem_range.2 (by omega))
  rw [show k - 1 + 1 = k by omega, Bool.and_eq_true, decide_eq_true_eq] at h3
  exact h3.1
/-- The word's operation, found. -/
theorem frm_hit {t : ByteArray} {k : Nat} (h1 : 1 ≤ k) (h2 : k ≤ 13) (hne : t ≠ ⟨#[]⟩) (h : ∀ i, 1 ≤ i → i < k → ((formW (i : Int)).toList == t.toList) = false) (hk : ((formW (k : Int)).toList == t.toList) = true) : idxV frmW t = (k : Int) := by
  have hl : frmW.length = 14 := rfl
  refine idx_hitN (l := frmW) (k := k) (by omega) (fun i hi => ?_) ?_
  · by_cases h0 : i = 0
    · subst h0
      rw [beq_bytes]
      exact decide_eq_false (fun e => hne e.symm)
    · have := h i (by omega) hi
      rwa [← (frm_form (k := i) (by omega) (by omega)).2] at this
  · rwa [← (frm_form h1 h2).2] at hk
theorem frm_miss {t : ByteArray} (hne : t ≠ ⟨#[]⟩) (h : ∀ i : Nat, 1 ≤ i → i < 14 → ((formW (i : Int)).toList == t.toList) = false) : idxV frmW t = -1 := by
  have hl : frmW.length = 14 := rfl
  refine idx_missN (l := frmW) (fun i hi => ?_)
  by_cases h0 : i = 0
  · subst h0
    rw [beq_bytes]
    exact decide_eq_false (fun e => hne e.symm)
  · have := h i (by omega) (by omega)
    rwa [← (frm_form (k := i) (by omega) (by omega)).2] at this
theorem same_out {x : Ins} {b c : Bool} {o : Option Ins} (h : SameI o (x, c)) (hc : c = b) : (Ending.returned (.tuple #[insV x, .bool b]) = Ending.returned (.tuple #[insV x, .bool false]) ∧ o = none ∧ ∀ y, o = some y → x = y) ∨ (Ending.returned (.tuple #[insV x, .bool b]) = Ending.returned (.tuple #[insV x, .bool true]) ∧ o.isSome = true ∧ ∀ y, o = some y → x = y) := by
  subst hc
  cases c
  · left
    refine ⟨rfl, ?_, h.2⟩
    have := h.1
    cases o with
    | none => rfl
    | some y => cases this
  · exact .inr ⟨rfl, h.1.symm, h.2⟩
theorem setI_other {w : World} {g g' : Nat} {ty : TypeId} {cs : Array Value} (h : Blk w g ty cs) (hne : g ≠ g') (x : Ins) : Blk (w.setRow g' (insC x)) g ty cs := by
  unfold Blk at *
  simp only [World.setRow, Array.getElem?_modify]
  rw [if_neg (Ne.symm hne)]
  exact h
theorem step_callN {o : Oper} {a : Act} {w : World} {K : Act → World → Prop} {Q : Exit → Act → World → Prop} (f : FuncId) (args : Array Value) (hrun : (execOp a.eval o).run Tryd.prog w = .ok (.enter f args) w) {Post : Ending → World → Prop} (hc : Calls Tryd.prog f args w Post) (h : ∀ e w', Post e w' → ∃ v, e = .returned v ∧ K (a.put o.dst v) w') :
    Oper.wp Tryd.prog o a w K Q := by
  unfold Oper.wp
  rw [hrun, Oper.upon_enter]
  refine hc.mono fun e w'' hh => ?_
  obtain ⟨v, rfl, hk⟩ := h e w'' hh
  exact hk
theorem step_callG {ops : Array Oper} {o : Oper} {a : Act} {w : World} {K : Act → World → Prop} {Q : Exit → Act → World → Prop} {E : Prop} (hw : Region.wanted o (yielded ops a.tmps) = true) (f : FuncId) (args : Array Value) (hrun : (execOp a.eval o).run Tryd.prog w = .ok (.enter f args) w) {Post : Ending → World → Prop} (hc : Calls Tryd.prog f args w Post) (h : ∀ e w', Post e w' → ∃ v, e = .returned v ∧ K (a.put o.dst v) w') :
    if Region.wanted o (yielded ops a.tmps) = true then Oper.wp Tryd.prog o a w K Q else E := by
  rw [if_pos hw]
  exact step_callN f args hrun hc h
theorem step_storeI {ops : Array Oper} {o : Oper} {a : Act} {w : World} {K : Act → World → Prop} {Q : Exit → Act → World → Prop} {E : Prop} (hg : o.guard = none) (x y : Operand) (ho : o.op = .store 41 x y) (g : Nat) (z u : Ins) (hx : a.eval x = .pointer (some ⟨g, 0, none⟩)) (hy : a.eval y = insV z) (hb : Blk w g 41 (insC u)) (h : K (a.put o.dst undef) (w.setRow g (insC z))) :
    if Region.wanted o (yielded ops a.tmps) = true then Oper.wp Tryd.prog o a w K Q else E := by
  have hw : Region.wanted o (yielded ops a.tmps) = true := by simp [Region.wanted, hg]
  rw [if_pos hw]
  exact wp_store_row 41 x y ho g (insC z) hx hy 41 _ hb (by first | kernel_rfl | rfl) (by first | kernel_rfl | rfl) (by first | kernel_rfl | rfl) h
set_option maxRecDepth 100000 in
set_option maxHeartbeats 16000000 in
theorem specRead (ws : List ByteArray) (wb wo wq n : Nat) (w : World) (h0 : 0 < ws.length) (hlen : ws.length ≤ 70000) (hsz : ∀ t ∈ ws, t.size ≤ 65536) (hn : n ≤ 8) (hne : ws.getD 0 ⟨#[]⟩ ≠ ⟨#[]⟩)
    (hws : ∀ i, i < ws.length → w.cell? ⟨wb, wo + i, none⟩ = some (.string (ws.getD i ⟨#[]⟩))) :
    Calls Tryd.prog 12 #[.slice (some ⟨wb, wo, none⟩) ws.length wq, .int .i64 n] w fun e w' => (∃ (x : Ins) (b : Bool), e = .returned (.tuple #[insV x, .bool b]) ∧ b = (insI ws n).isSome ∧ ∀ y, insI ws n = some y → x = y) ∧ Below w.heap.size w w' := by
  have hlen' : (ws.length : Int) ≤ 70000 := by omega
  have hlen0 : (0 : Int) < (ws.length : Int) := by omega
  have hn' : (n : Int) ≤ 8 := by omega
  have hwb : wb < w.heap.size := by
    have hr := hws 0 h0
    cases hh : w.heap[wb]? with
    | none => simp [World.cell?, hh] at hr
    | some o => exact (Array.getElem?_eq_some_iff.1 hh).1
  have HWS : Hid (∀ W, Below w.heap.size w W → ∀ i, i < ws.length → W.cell? ⟨wb, wo + i, none⟩ = some (.string (ws.getD i ⟨#[]⟩))) := fun W hW i hi => (hW.cell (p := ⟨wb, wo + i, none⟩) hwb).trans (hws i hi)
  have HSZ : Hid (∀ i, i < ws.length → (ws.getD i ⟨#[]⟩).size ≤ 65536) := fun i hi => by
    rw [List.getD_eq_getElem?_getD, List.getElem?_eq_getElem hi]
    exact hsz _ (List.getElem_mem hi)
  have HNE : Hid (ws.getD 0 ⟨#[]⟩ ≠ ⟨#[]⟩) := hne
  have b1 : Below w.heap.size w (w.alloc (.cells (insC ins0) 41)) := (Below.refl _ w).alloc (Nat.le_refl _) _
  have k1 : Blk (w.alloc (.cells (insC ins0) 41)) w.heap.size 41 (insC ins0) := heap_alloc_last w _
  have z1 : (w.alloc (.cells (insC ins0) 41)).heap.size = w.heap.size + 1 := by simp
  unfold insC ins0 at b1 k1 z1
  dsimp only at b1 k1 z1
  obtain ⟨wz, hwz⟩ : ∃ W, w.alloc (.cells #[.int .i64 0, .int .i64 0, .int .i64 0, .int .i64 0, .int .i64 0, .int .i64 0, .int .i64 0, .int .i64 0, .int .i64 0, .int .i64 0] 41) = W := ⟨_, rfl⟩
  obtain ⟨gw, hgw⟩ : ∃ g, w.heap.size = g := ⟨_, rfl⟩
  rw [hwz] at b1 k1 z1
  rw [hgw] at b1 k1 z1 hwb HWS ⊢
  have HK1 : Hid (Blk wz gw 41 (insC ins0)) := k1
  have HB1 : Hid (Below gw w wz) := b1
  have HZ1 : Hid (wz.heap.size = gw + 1) := z1
  clear hws hsz hne k1 b1 z1
  have hwz0 := HWS.out wz HB1.out 0 h0
  rw [Nat.add_zero] at hwz0
  obtain ⟨t0, ht0⟩ : ∃ t, ws.getD 0 ⟨#[]⟩ = t := ⟨_, rfl⟩
  rw [ht0] at hwz0
  have HT0 : Hid (ws.getD 0 ⟨#[]⟩ = t0) := ht0
  clear ht0
  go_enter Tryd.func12, Tryd.ntmps12
  go_upto_region 2 with fail
  clear hwz hgw
  go_wp2_with fail
  go_loopw [6] (fun i6 wr => ∃ (k : Nat), i6 = .int .i64 (k : Int) ∧ 1 ≤ k ∧ k ≤ 14 ∧ Hid (∀ i, 1 ≤ i → i < k → ((formW (i : Int)).toList == t0.toList) = false) ∧ wr = wz) (fun i6 _ => 14 - (intOf i6).toNat)
  case atStart => exact ⟨1, rfl, by omega, by omega, fun i h1 h2 => by omega, rfl⟩
  case round =>
    obtain ⟨k, rfl, hk1, hk14, hall, hwr⟩ := hrel
    have hwr' := hwr.symm
    subst hwr'
    by_cases hk : k < 14
    · have hk13 : k ≤ 13 := by omega
      have hk' : (k : Int) ≤ 13 := by omega
      have cf := specForm (k : Int) (by omega) (by omega) wz
      have hf5 := spc_five hk1 hk13
      have HCH : Hid (∀ j, j < (formF (k : Int)).size → byt (formF (k : Int)) j = 82 ∨ byt (formF (k : Int)) j = 67 ∨ byt (formF (k : Int)) j = 86 ∨ byt (formF (k : Int)) j = 87 ∨ byt (formF (k : Int)) j = 79 ∨ byt (formF (k : Int)) j = 81 ∨ byt (formF (k : Int)) j = 78 ∨ byt (formF (k : Int)) j = 77) := fun j hj => spc_chars hk1 hk13 hj
      obtain ⟨B, hB⟩ : ∃ B, ((formW (k : Int)).toList == t0.toList) = B := ⟨_, rfl⟩
      have HBB : Hid (((formW (k : Int)).toList == t0.toList) = B) := hB
      obtain ⟨F, hF⟩ : ∃ F, formF (k : Int) = F := ⟨_, rfl⟩
      obtain ⟨FW, hFW⟩ : ∃ F, formW (k : Int) = F := ⟨_, rfl⟩
      rw [hF, hFW] at cf
      rw [hF] at hf5 HCH
      rw [hFW] at hB
      have HFF : Hid (formF (k : Int) = F) := hF
      have hf5' : (F.size : Int) ≤ 5 := by omega
      have hbn : (FW.toList != t0.toList) = !B := by rw [bne, hB]
      clear hF hFW
      cases B
      · clear HCH
        go_wp2_with (go_at_call 22; go_must (refine cf.mono ?_; rintro e w2 ⟨rfl, hq⟩; obtain rfl := hq.symm; clear hq))
        refine ⟨⟨k + 1, rfl, by omega, by omega, fun i h1 h2 => ?_, by first | rfl | trivial⟩, by simp [intOf]; omega⟩
        by_cases e : i = k
        · rw [e]; exact HBB.out
        · exact hall.out i h1 (by omega)
      · have hid : idxV frmW (ws.getD 0 ⟨#[]⟩) = (k : Int) := by rw [HT0.out]; exact frm_hit hk1 hk13 (by rw [← HT0.out]; exact HNE.out) hall.out HBB.out
        have hI := insI_at (n := n) hid
        have hsm := same_ins hk1 hk13 ws n hn
        rw [(frm_form hk1 hk13).1, HFF.out] at hI
        clear hid
        by_cases hl : ws.length = 1 + F.size
        · rw [if_neg (fun h => h hl)] at hI
          rw [(frm_form hk1 hk13).1, HFF.out, ← hI] at hsm
          unfold insS at hsm
          rw [HFF.out] at hsm
          have HSM : Hid (SameI (insI ws n) ((readS F ws (k : Int) F.size).1, (readS F ws (k : Int) F.size).2 && insB (readS F ws (k : Int) F.size).1 n)) := hsm
          have HLEN : Hid (ws.length = 1 + F.size) := hl
          have hlf : ((ws.length : Int) != (F.size : Int) + 1) = false := by rw [bne_eq_false_iff_eq]; omega
          clear hI hsm hl hall
          -- the instruction's box
          have kX : Blk (wz.alloc (.cells (insC { ins0 with op := (k : Int) }) 41)) wz.heap.size 41 (insC { ins0 with op := (k : Int) }) := heap_alloc_last wz _
          have bX : Below wz.heap.size wz (wz.alloc (.cells (insC { ins0 with op := (k : Int) }) 41)) := (Below.refl _ wz).alloc (Nat.le_refl _) _
          go_upto_region 9 with (first
            | (go_at_call 22; go_must (refine cf.mono ?_; rintro e w2 ⟨rfl, hq⟩; obtain rfl := hq.symm; clear hq))
            | (refine wpList_store_row rfl 41 _ _ rfl wz.heap.size (insC { ins0 with op := (k : Int) }) rfl rfl 41 _ (heap_alloc_last _ _) (by first | kernel_rfl | rfl) (by first | kernel_rfl | rfl) (by first | kernel_rfl | rfl) ?_; rw [World.setRow_alloc_new]))
          simp only [Act.put]
          generalize wz.alloc (.cells (insC { ins0 with op := (k : Int) }) 41) = wX at kX bX ⊢
          have hgx : wz.heap.size = gw + 1 := HZ1.out
          rw [hgx] at kX bX ⊢
          have hsX : gw + 2 ≤ wX.heap.size := by have := kX.lt; omega
          have HKX : Hid (Blk wX (gw + 1) 41 (insC { ins0 with op := (k : Int) })) := kX
          have HBX : Hid (Below (gw + 1) wz wX) := bX
          clear kX bX hgx hwz0 cf hbn hB
          go_wp2_with fail
          go_loopw [10, 11, 12] (fun i10 i11 _ wr => ∃ (j : Nat) (b : Bool) (x : Ins), i10 = .bool b ∧ i11 = .int .i64 (j : Int) ∧ j ≤ F.size ∧ Hid (readS F ws (k : Int) j = (x, b)) ∧ Below (gw + 1) wz wr ∧ Hid (Blk wr (gw + 1) 41 (insC x))) (fun _ i11 _ _ => F.size - (intOf i11).toNat)
          case atStart => exact ⟨0, true, _, rfl, rfl, by omega, rfl, HBX.out, HKX.out⟩
          case round =>
            obtain ⟨j, b, x, rfl, rfl, hj, hrd, hB, hkx⟩ := hrel
            have hBw : Below gw w wr := HB1.out.trans (hB.mono (by omega))
            have hsz2 : gw + 2 ≤ wr.heap.size := by have := hkx.out.lt; omega
            have HRD : Hid (readS F ws (k : Int) j = (x, b)) := hrd
            have HBX2 : Hid (Below (gw + 1) wz wr) := hB
            by_cases hjn : j < F.size
            · have hjn' : (j : Int) < (F.size : Int) := by omega
              have hj1 : j + 1 < ws.length := by have := HLEN.out; omega
              have hj1' : (j : Int) + 1 < (ws.length : Int) := by omega
              have hwj := HWS.out wr hBw (j + 1) hj1
              have htz := HSZ.out (j + 1) hj1
              obtain ⟨tj, htj⟩ : ∃ t, ws.getD (j + 1) ⟨#[]⟩ = t := ⟨_, rfl⟩
              rw [htj] at hwj htz
              have hch := HCH.out j hjn
              have hbe := byt_eq F j hjn
              obtain ⟨c, hc⟩ : ∃ c, byt F j = c := ⟨_, rfl⟩
              rw [hc] at hch hbe
              have hsucc : readS F ws (k : Int) (j + 1) = (fsX c tj x, b && fsB c tj) := by
                show (fsX (byt F j) (ws.getD (j + 1) ⟨#[]⟩) (readS F ws (k : Int) j).1, (readS F ws (k : Int) j).2 && fsB (byt F j) (ws.getD (j + 1) ⟨#[]⟩)) = _
                rw [HRD.out, hc, htj]
              have HSUC : Hid (readS F ws (k : Int) (j + 1) = (fsX c tj x, b && fsB c tj)) := hsucc
              have HSZ2 : Hid (gw + 1 ≤ wr.heap.size) := by have := hsz2; show gw + 1 ≤ wr.heap.size; omega
              have HKX2 : Hid (Blk wr (gw + 1) 41 (insC x)) := hkx
              clear hsucc htj hc hrd hB hBw hkx HKX HBX hsz2 HCH HRD
              go_upto_block 4 with fail
              clear hbe
              go_cut [12] from 45 to 116 (fun s12 wx => ∃ (f : Bool) (y : Ins), s12 = .bool f ∧ Hid (fsX c tj x = y) ∧ Hid (fsB c tj = f) ∧ Hid (Blk wx (gw + 1) 41 (insC y)) ∧ Below (gw + 1) wz wx)
              case first =>
                obtain ⟨op, ce, rg, ar, an, br, bn, od, cq, tg⟩ := x
                rcases hch with rfl | rfl | rfl | rfl | rfl | rfl | rfl | rfl
                · have cs := specSmall tj 114 (by decide) htz wr
                  have cX := HKX2.out.cell 2
                  have fX := HKX2.out.fro 2
                  simp [insC] at cX
                  obtain ⟨V, hV⟩ : ∃ V, smallV tj 114 = V := ⟨_, rfl⟩
                  rw [hV] at cs
                  have HV : Hid (smallV tj 114 = V) := hV
                  clear hV
                  go_wp2_with (go_at_call 23; go_must (refine cs.mono ?_; rintro e w2 ⟨rfl, hq⟩; obtain rfl := hq.symm; clear hq))
                  go_meet
                  refine ⟨true, ⟨op, ce, V, ar, an, br, bn, od, cq, tg⟩, rfl, ?_, rfl, by show Blk _ _ _ _; simpa [insC] using HKX2.out.set 2 (.int .i64 V), HBX2.out.setCell (p := ⟨gw + 1, 2, none⟩) (Nat.le_refl _) _⟩
                  show fsX 82 tj _ = _
                  rw [← HV.out]
                  rfl
                · have cs := specSmall tj 99 (by decide) htz wr
                  have cX := HKX2.out.cell 1
                  have fX := HKX2.out.fro 1
                  simp [insC] at cX
                  obtain ⟨V, hV⟩ : ∃ V, smallV tj 99 = V := ⟨_, rfl⟩
                  rw [hV] at cs
                  have HV : Hid (smallV tj 99 = V) := hV
                  clear hV
                  go_wp2_with (go_at_call 23; go_must (refine cs.mono ?_; rintro e w2 ⟨rfl, hq⟩; obtain rfl := hq.symm; clear hq))
                  go_meet
                  refine ⟨true, ⟨op, V, rg, ar, an, br, bn, od, cq, tg⟩, rfl, ?_, rfl, by show Blk _ _ _ _; simpa [insC] using HKX2.out.set 1 (.int .i64 V), HBX2.out.setCell (p := ⟨gw + 1, 1, none⟩) (Nat.le_refl _) _⟩
                  show fsX 67 tj _ = _
                  rw [← HV.out]
                  rfl
                · have cs := specReadVal tj htz wr
                  unfold rvVal at cs
                  obtain ⟨V, hV⟩ : ∃ V, rvR tj = V := ⟨_, rfl⟩
                  obtain ⟨U, hU⟩ : ∃ V, rvN tj = V := ⟨_, rfl⟩
                  obtain ⟨T, hT⟩ : ∃ V, rvB tj = V := ⟨_, rfl⟩
                  rw [hV, hU, hT] at cs
                  have HV : Hid (rvR tj = V ∧ rvN tj = U ∧ rvB tj = T) := ⟨hV, hU, hT⟩
                  clear hV hU hT
                  go_wp2_with (go_at_call 24; go_must (refine cs.mono ?_; rintro e w2 ⟨rfl, hb2⟩; have k2 := HKX2.out.below hb2; have cX := k2.cell 3; have fX := k2.fro 3; have cY := k2.cell 4; have fY := k2.fro 4; simp [insC] at cX cY))
                  go_meet
                  refine ⟨T, ⟨op, ce, rg, V, U, br, bn, od, cq, tg⟩, rfl, ?_, ?_, by show Blk _ _ _ _; simpa [insC] using (k2.set 3 (.int .i64 V)).set 4 (.int .i64 U), (((HBX2.out.trans (hb2.mono HSZ2.out)).setCell (p := ⟨gw + 1, 3, none⟩) (Nat.le_refl _) _).setCell (p := ⟨gw + 1, 4, none⟩) (Nat.le_refl _) _)⟩
                  · show fsX 86 tj _ = _
                    rw [← HV.out.1, ← HV.out.2.1]
                    rfl
                  · exact HV.out.2.2
                · have cs := specReadVal tj htz wr
                  unfold rvVal at cs
                  obtain ⟨V, hV⟩ : ∃ V, rvR tj = V := ⟨_, rfl⟩
                  obtain ⟨U, hU⟩ : ∃ V, rvN tj = V := ⟨_, rfl⟩
                  obtain ⟨T, hT⟩ : ∃ V, rvB tj = V := ⟨_, rfl⟩
                  rw [hV, hU, hT] at cs
                  have HV : Hid (rvR tj = V ∧ rvN tj = U ∧ rvB tj = T) := ⟨hV, hU, hT⟩
                  clear hV hU hT
                  go_wp2_with (go_at_call 24; go_must (refine cs.mono ?_; rintro e w2 ⟨rfl, hb2⟩; have k2 := HKX2.out.below hb2; have cX := k2.cell 5; have fX := k2.fro 5; have cY := k2.cell 6; have fY := k2.fro 6; simp [insC] at cX cY))
                  go_meet
                  refine ⟨T, ⟨op, ce, rg, ar, an, V, U, od, cq, tg⟩, rfl, ?_, ?_, by show Blk _ _ _ _; simpa [insC] using (k2.set 5 (.int .i64 V)).set 6 (.int .i64 U), (((HBX2.out.trans (hb2.mono HSZ2.out)).setCell (p := ⟨gw + 1, 5, none⟩) (Nat.le_refl _) _).setCell (p := ⟨gw + 1, 6, none⟩) (Nat.le_refl _) _)⟩
                  · show fsX 87 tj _ = _
                    rw [← HV.out.1, ← HV.out.2.1]
                    rfl
                  · exact HV.out.2.2
                · have kL : Blk (wr.alloc (.cells #[.string ⟨#[]⟩, .string ⟨#[114, 101, 108, 97, 120, 101, 100]⟩, .string ⟨#[97, 99, 113, 117, 105, 114, 101]⟩, .string ⟨#[114, 101, 108, 101, 97, 115, 101]⟩, .string ⟨#[98, 111, 116, 104]⟩, .string ⟨#[115, 101, 113]⟩] 9)) wr.heap.size 9 #[.string ⟨#[]⟩, .string ⟨#[114, 101, 108, 97, 120, 101, 100]⟩, .string ⟨#[97, 99, 113, 117, 105, 114, 101]⟩, .string ⟨#[114, 101, 108, 101, 97, 115, 101]⟩, .string ⟨#[98, 111, 116, 104]⟩, .string ⟨#[115, 101, 113]⟩] := heap_alloc_last wr _
                  have bL : Below wr.heap.size wr (wr.alloc (.cells #[.string ⟨#[]⟩, .string ⟨#[114, 101, 108, 97, 120, 101, 100]⟩, .string ⟨#[97, 99, 113, 117, 105, 114, 101]⟩, .string ⟨#[114, 101, 108, 101, 97, 115, 101]⟩, .string ⟨#[98, 111, 116, 104]⟩, .string ⟨#[115, 101, 113]⟩] 9)) := (Below.refl _ wr).alloc (Nat.le_refl _) _
                  have cs := specFind ordL tj wr.heap.size 0 6 (wr.alloc (.cells #[.string ⟨#[]⟩, .string ⟨#[114, 101, 108, 97, 120, 101, 100]⟩, .string ⟨#[97, 99, 113, 117, 105, 114, 101]⟩, .string ⟨#[114, 101, 108, 101, 97, 115, 101]⟩, .string ⟨#[98, 111, 116, 104]⟩, .string ⟨#[115, 101, 113]⟩] 9)) (by decide) (fun i hi => by
                    have hi' : i < 6 := hi
                    rw [Nat.zero_add, kL.cell]
                    rcases (by omega : i = 0 ∨ i = 1 ∨ i = 2 ∨ i = 3 ∨ i = 4 ∨ i = 5) with rfl | rfl | rfl | rfl | rfl | rfl <;> rfl)
                  have hwj2 := (bL.cell (World.block_lt_of_cell? _ _ hwj)).trans hwj
                  have k2 := HKX2.out.below bL
                  have cX := k2.cell 7
                  have fX := k2.fro 7
                  simp [insC] at cX
                  have B2 := (HBX2.out.trans (bL.mono HSZ2.out)).setCell (p := ⟨gw + 1, 7, none⟩) (Nat.le_refl _)
                  obtain ⟨V, hV⟩ : ∃ V, idxV ordL tj = V := ⟨_, rfl⟩
                  rw [hV] at cs
                  have HV : Hid (idxV ordL tj = V) := hV
                  have HK2 : Hid (Blk (wr.alloc (.cells #[.string ⟨#[]⟩, .string ⟨#[114, 101, 108, 97, 120, 101, 100]⟩, .string ⟨#[97, 99, 113, 117, 105, 114, 101]⟩, .string ⟨#[114, 101, 108, 101, 97, 115, 101]⟩, .string ⟨#[98, 111, 116, 104]⟩, .string ⟨#[115, 101, 113]⟩] 9)) (gw + 1) 41 (insC ⟨op, ce, rg, ar, an, br, bn, od, cq, tg⟩)) := k2
                  have HB2 : Hid (∀ v, Below (gw + 1) wz ((wr.alloc (.cells #[.string ⟨#[]⟩, .string ⟨#[114, 101, 108, 97, 120, 101, 100]⟩, .string ⟨#[97, 99, 113, 117, 105, 114, 101]⟩, .string ⟨#[114, 101, 108, 101, 97, 115, 101]⟩, .string ⟨#[98, 111, 116, 104]⟩, .string ⟨#[115, 101, 113]⟩] 9)).setCell ⟨gw + 1, 7, none⟩ v)) := fun v => B2 v
                  clear hV kL bL k2 B2
                  go_wp2_with (go_at_call 25; go_must (refine cs.mono ?_; rintro e w2 ⟨rfl, hq⟩; obtain rfl := hq.symm; clear hq))
                  go_meet
                  refine ⟨true, ⟨op, ce, rg, ar, an, br, bn, V, cq, tg⟩, rfl, ?_, rfl, by show Blk _ _ _ _; simpa [insC] using HK2.out.set 7 (.int .i64 V), HB2.out _⟩
                  show fsX 79 tj _ = _
                  rw [← HV.out]
                  rfl
                · have kL : Blk (wr.alloc (.cells #[.string ⟨#[]⟩, .string ⟨#[61, 61]⟩, .string ⟨#[33, 61]⟩, .string ⟨#[60]⟩, .string ⟨#[60, 61]⟩] 9)) wr.heap.size 9 #[.string ⟨#[]⟩, .string ⟨#[61, 61]⟩, .string ⟨#[33, 61]⟩, .string ⟨#[60]⟩, .string ⟨#[60, 61]⟩] := heap_alloc_last wr _
                  have bL : Below wr.heap.size wr (wr.alloc (.cells #[.string ⟨#[]⟩, .string ⟨#[61, 61]⟩, .string ⟨#[33, 61]⟩, .string ⟨#[60]⟩, .string ⟨#[60, 61]⟩] 9)) := (Below.refl _ wr).alloc (Nat.le_refl _) _
                  have cs := specFind cndL tj wr.heap.size 0 5 (wr.alloc (.cells #[.string ⟨#[]⟩, .string ⟨#[61, 61]⟩, .string ⟨#[33, 61]⟩, .string ⟨#[60]⟩, .string ⟨#[60, 61]⟩] 9)) (by decide) (fun i hi => by
                    have hi' : i < 5 := hi
                    rw [Nat.zero_add, kL.cell]
                    rcases (by omega : i = 0 ∨ i = 1 ∨ i = 2 ∨ i = 3 ∨ i = 4) with rfl | rfl | rfl | rfl | rfl <;> rfl)
                  have hwj2 := (bL.cell (World.block_lt_of_cell? _ _ hwj)).trans hwj
                  have k2 := HKX2.out.below bL
                  have cX := k2.cell 8
                  have fX := k2.fro 8
                  simp [insC] at cX
                  have B2 := (HBX2.out.trans (bL.mono HSZ2.out)).setCell (p := ⟨gw + 1, 8, none⟩) (Nat.le_refl _)
                  obtain ⟨V, hV⟩ : ∃ V, idxV cndL tj = V := ⟨_, rfl⟩
                  rw [hV] at cs
                  have HV : Hid (idxV cndL tj = V) := hV
                  have HK2 : Hid (Blk (wr.alloc (.cells #[.string ⟨#[]⟩, .string ⟨#[61, 61]⟩, .string ⟨#[33, 61]⟩, .string ⟨#[60]⟩, .string ⟨#[60, 61]⟩] 9)) (gw + 1) 41 (insC ⟨op, ce, rg, ar, an, br, bn, od, cq, tg⟩)) := k2
                  have HB2 : Hid (∀ v, Below (gw + 1) wz ((wr.alloc (.cells #[.string ⟨#[]⟩, .string ⟨#[61, 61]⟩, .string ⟨#[33, 61]⟩, .string ⟨#[60]⟩, .string ⟨#[60, 61]⟩] 9)).setCell ⟨gw + 1, 8, none⟩ v)) := fun v => B2 v
                  clear hV kL bL k2 B2
                  go_wp2_with (go_at_call 25; go_must (refine cs.mono ?_; rintro e w2 ⟨rfl, hq⟩; obtain rfl := hq.symm; clear hq))
                  go_meet
                  refine ⟨true, ⟨op, ce, rg, ar, an, br, bn, od, V, tg⟩, rfl, ?_, rfl, by show Blk _ _ _ _; simpa [insC] using HK2.out.set 8 (.int .i64 V), HB2.out _⟩
                  show fsX 81 tj _ = _
                  rw [← HV.out]
                  rfl
                · have cs := specNumber tj (by omega) wr
                  have cX := HKX2.out.cell 9
                  have fX := HKX2.out.fro 9
                  simp [insC] at cX
                  obtain ⟨V, hV⟩ : ∃ V, numV tj = V := ⟨_, rfl⟩
                  obtain ⟨T, hT⟩ : ∃ V, numB tj = V := ⟨_, rfl⟩
                  rw [hV, hT] at cs
                  have HV : Hid (numV tj = V ∧ numB tj = T) := ⟨hV, hT⟩
                  clear hV hT
                  go_wp2_with (go_at_call 11; go_must (refine cs.mono ?_; rintro e w2 ⟨rfl, hq⟩; obtain rfl := hq.symm; clear hq))
                  go_meet
                  refine ⟨T, ⟨op, ce, rg, ar, an, br, bn, od, cq, V⟩, rfl, ?_, HV.out.2, by show Blk _ _ _ _; simpa [insC] using HKX2.out.set 9 (.int .i64 V), HBX2.out.setCell (p := ⟨gw + 1, 9, none⟩) (Nat.le_refl _) _⟩
                  show fsX 78 tj _ = _
                  rw [← HV.out.1]
                  rfl
                · have cs := specNumber tj (by omega) wr
                  have cX := HKX2.out.cell 9
                  have fX := HKX2.out.fro 9
                  simp [insC] at cX
                  obtain ⟨V, hV⟩ : ∃ V, numV tj = V := ⟨_, rfl⟩
                  obtain ⟨T, hT⟩ : ∃ V, numB tj = V := ⟨_, rfl⟩
                  rw [hV, hT] at cs
                  have HV : Hid (numV tj = V ∧ numB tj = T) := ⟨hV, hT⟩
                  clear hV hT
                  go_wp2_with (go_at_call 11; go_must (refine cs.mono ?_; rintro e w2 ⟨rfl, hq⟩; obtain rfl := hq.symm; clear hq))
                  go_meet
                  refine ⟨T, ⟨op, ce, rg, ar, an, br, bn, od, cq, V⟩, rfl, ?_, HV.out.2, by show Blk _ _ _ _; simpa [insC] using HKX2.out.set 9 (.int .i64 V), HBX2.out.setCell (p := ⟨gw + 1, 9, none⟩) (Nat.le_refl _) _⟩
                  show fsX 77 tj _ = _
                  rw [← HV.out.1]
                  rfl
              case rest =>
              obtain ⟨f, y, rfl, hx, hf, hk, hb⟩ := hcut
              have HN : Hid (readS F ws (k : Int) (j + 1) = (y, b && f)) := by
                show readS F ws (k : Int) (j + 1) = (y, b && f)
                rw [HSUC.out, hx.out, hf.out]
              clear hx hf hwj htz hch HSUC HKX2 HBX2 HSZ2
              cases b
              · go_wp2_with fail
                refine ⟨⟨j + 1, false, y, rfl, rfl, by omega, HN.out, hb, hk⟩, by simp [intOf]; omega⟩
              · cases f
                · go_wp2_with fail
                  refine ⟨⟨j + 1, false, y, rfl, rfl, by omega, HN.out, hb, hk⟩, by simp [intOf]; omega⟩
                · go_wp2_with fail
                  refine ⟨⟨j + 1, true, y, rfl, rfl, by omega, HN.out, hb, hk⟩, by simp [intOf]; omega⟩
            · obtain rfl : j = F.size := by omega
              have hkf : ¬ ((F.size : Int) < (F.size : Int)) := by omega
              have hS : SameI (insI ws n) (x, b && insB x n) := by have := HSM.out; rw [HRD.out] at this; exact this
              have HS : Hid (SameI (insI ws n) (x, b && insB x n)) := hS
              have HKX3 : Hid (Blk wr (gw + 1) 41 (insC x)) := hkx
              have HB3 : Hid (Below gw w wr) := hBw
              have HK3 : Hid (Blk wr gw 41 (insC ins0)) := (hB.block gw (by omega)).trans HK1.out
              clear hS hrd hB hBw hkx HKX HBX HBX2 HCH HRD HSM HK1 HB1 HZ1
              go_upto_region 29 with fail
              have ci := fun W => specIns x (n : Int) W
              obtain ⟨T, hT⟩ : ∃ T, insB x (n : Int) = T := ⟨_, rfl⟩
              have hS2 := HS.out
              rw [hT] at hS2
              simp only [hT] at ci
              have HS2 : Hid (SameI (insI ws n) (x, b && T)) := hS2
              have hres : ∀ {W : World} {u : Bool} {tmps : Array Value}, Blk W gw 41 (insC x) → tmps.getD 4 undef = .pointer (some ⟨gw, 0, none⟩) → tmps.getD 5 undef = .bool u → (results Tryd.f12 tmps).run Tryd.prog W = .ok (.tuple #[insV x, .bool u]) W := fun hk h4 h5 => results_ins Tryd.results12 _ _ gw x h4 hk _ h5
              clear hS2 hT HS
              cases b
              · refine wp_region_held_drew (S := fun V => Blk V (gw + 1) 41 (insC x) ∧ ∃ y, Blk V gw 41 (insC y)) (by kernel_rfl) ⟨HKX3.out.below (Below.refl _ wr).drew, ins0, HK3.out.below (Below.refl _ wr).drew⟩ (fun hHeld => ?_)
                refine wpAnyH_take (i := 0) (v := insV x) rfl (by kernel_rfl) (by kernel_rfl) (by kernel_rfl) (fun _ _ _ h => h) (Or.inl ⟨by kernel_rfl, fun w' hSw => run_load_ins rfl (by simp [Act.eval]) hSw.1⟩) (by assumption) ?_
                (try simp only [List.getElem_toArray, List.getElem_cons_succ, List.getElem_cons_zero, Act.put, List.setIfInBounds_toArray, List.set_cons_zero, List.set_cons_succ])
                refine wpAnyH_take (i := 1) (v := ?_) rfl (by kernel_rfl) (by kernel_rfl) (by kernel_rfl) (fun _ _ _ h => h) (Or.inl ⟨by kernel_rfl, ?_⟩) (by assumption) ?_
                rotate_left 1
                · (intro w' hSw; clear hSw; go_simp; all_goals with_reducible rfl)
                (try simp only [List.getElem_toArray, List.getElem_cons_succ, List.getElem_cons_zero, Act.put, List.setIfInBounds_toArray, List.set_cons_zero, List.set_cons_succ])
                refine wpAnyH_take (i := 2) (v := ?_) rfl (by kernel_rfl) (by kernel_rfl) (by kernel_rfl) (fun _ _ _ h => h) (Or.inl ⟨by kernel_rfl, ?_⟩) (by assumption) ?_
                rotate_left 1
                · (intro w' hSw; clear hSw; go_simp; all_goals with_reducible rfl)
                (try simp only [List.getElem_toArray, List.getElem_cons_succ, List.getElem_cons_zero, Act.put, List.setIfInBounds_toArray, List.set_cons_zero, List.set_cons_succ])
                refine wpAnyH_take (i := 3) (v := undef) rfl (by kernel_rfl) (by kernel_rfl) (by kernel_rfl) (fun _ _ _ h => h) (Or.inr ⟨by kernel_rfl, rfl⟩) (by assumption) ?_
                (try simp only [List.getElem_toArray, List.getElem_cons_succ, List.getElem_cons_zero, Act.put, List.setIfInBounds_toArray, List.set_cons_zero, List.set_cons_succ])
                refine wpAnyH_take (i := 4) (v := undef) rfl (by kernel_rfl) (by kernel_rfl) (by kernel_rfl) (fun _ _ _ h => h) (Or.inr ⟨by kernel_rfl, rfl⟩) (by assumption) ?_
                (try simp only [List.getElem_toArray, List.getElem_cons_succ, List.getElem_cons_zero, Act.put, List.setIfInBounds_toArray, List.set_cons_zero, List.set_cons_succ])
                refine wpAnyH_take (i := 5) (v := undef) rfl (by kernel_rfl) (by kernel_rfl) (by kernel_rfl) (fun _ _ _ h => h) (Or.inr ⟨by kernel_rfl, rfl⟩) (by assumption) ?_
                (try simp only [List.getElem_toArray, List.getElem_cons_succ, List.getElem_cons_zero, Act.put, List.setIfInBounds_toArray, List.set_cons_zero, List.set_cons_succ])
                refine wpAnyH_take (i := 6) (v := ?_) rfl (by kernel_rfl) (by kernel_rfl) (by kernel_rfl) (fun _ _ _ h => h) (Or.inl ⟨by kernel_rfl, ?_⟩) (by assumption) ?_
                rotate_left 1
                · (intro w' hSw; clear hSw; go_simp; all_goals with_reducible rfl)
                (try simp only [List.getElem_toArray, List.getElem_cons_succ, List.getElem_cons_zero, Act.put, List.setIfInBounds_toArray, List.set_cons_zero, List.set_cons_succ])
                refine wpAnyH_ready (rs := [7]) (by kernel_rfl) (by simp) ?_
                refine AllReadyH.cons rfl (fun K hK => ?_) AllReadyH.nil
                have hS1 := hHeld.1
                have hS2 := hHeld.2.choose_spec
                refine step_storeI rfl (.tmp 4) (.tmp 121) rfl gw x hHeld.2.choose (by simp [Act.eval]) (by simp [Act.eval]) hS2 ?_
                refine hK.out _ _ ⟨setI_other hS1 (Nat.succ_ne_self gw) x, x, setI_blk hS2 x⟩ (fun hHeld => ?_)
                clear hK K
                (try simp only [List.getElem_toArray, List.getElem_cons_succ, List.getElem_cons_zero, Act.put, List.setIfInBounds_toArray, List.set_cons_zero, List.set_cons_succ])
                refine wpAnyH_take (i := 8) (v := ?_) rfl (by kernel_rfl) (by kernel_rfl) (by kernel_rfl) (fun _ _ _ h => h) (Or.inl ⟨by kernel_rfl, ?_⟩) (by assumption) ?_
                rotate_left 1
                · (intro w' hSw; clear hSw; go_simp; all_goals with_reducible rfl)
                (try simp only [List.getElem_toArray, List.getElem_cons_succ, List.getElem_cons_zero, Act.put, List.setIfInBounds_toArray, List.set_cons_zero, List.set_cons_succ])
                refine wpAnyH_done (by kernel_rfl) ?_ _
                have HBF : Hid (Below gw w (wr.drew.setRow gw (insC x))) := setI_below HB3.out.drew (Nat.le_refl gw) x
                have HKF : Hid (Blk (wr.drew.setRow gw (insC x)) gw 41 (insC x)) := setI_blk hS2 x
                clear hHeld hS1 hS2
                go_wp2_with fail
                exact bodyPost_ret (hres HKF.out rfl rfl) rfl ⟨⟨x, same_out HS2.out (by first | rfl | simp)⟩, HBF.out⟩
              · have HSZ3 : Hid (gw ≤ wr.drew.heap.size) := by show gw ≤ wr.heap.size; omega
                refine wp_region_held_drew (S := fun V => Blk V (gw + 1) 41 (insC x) ∧ ∃ y, Blk V gw 41 (insC y)) (by kernel_rfl) ⟨HKX3.out.below (Below.refl _ wr).drew, ins0, HK3.out.below (Below.refl _ wr).drew⟩ (fun hHeld => ?_)
                refine wpAnyH_take (i := 0) (v := insV x) rfl (by kernel_rfl) (by kernel_rfl) (by kernel_rfl) (fun _ _ _ h => h) (Or.inl ⟨by kernel_rfl, fun w' hSw => run_load_ins rfl (by simp [Act.eval]) hSw.1⟩) (by assumption) ?_
                (try simp only [List.getElem_toArray, List.getElem_cons_succ, List.getElem_cons_zero, Act.put, List.setIfInBounds_toArray, List.set_cons_zero, List.set_cons_succ])
                refine wpAnyH_take (i := 1) (v := ?_) rfl (by kernel_rfl) (by kernel_rfl) (by kernel_rfl) (fun _ _ _ h => h) (Or.inl ⟨by kernel_rfl, ?_⟩) (by assumption) ?_
                rotate_left 1
                · (intro w' hSw; clear hSw; go_simp; all_goals with_reducible rfl)
                (try simp only [List.getElem_toArray, List.getElem_cons_succ, List.getElem_cons_zero, Act.put, List.setIfInBounds_toArray, List.set_cons_zero, List.set_cons_succ])
                refine wpAnyH_take (i := 2) (v := ?_) rfl (by kernel_rfl) (by kernel_rfl) (by kernel_rfl) (fun _ _ _ h => h) (Or.inl ⟨by kernel_rfl, ?_⟩) (by assumption) ?_
                rotate_left 1
                · (intro w' hSw; clear hSw; go_simp; all_goals with_reducible rfl)
                (try simp only [List.getElem_toArray, List.getElem_cons_succ, List.getElem_cons_zero, Act.put, List.setIfInBounds_toArray, List.set_cons_zero, List.set_cons_succ])
                refine wpAnyH_take (i := 3) (v := insV x) rfl (by kernel_rfl) (by kernel_rfl) (by kernel_rfl) (fun _ _ _ h => h) (Or.inl ⟨by kernel_rfl, fun w' hSw => run_load_ins rfl (by simp [Act.eval]) hSw.1⟩) (by assumption) ?_
                (try simp only [List.getElem_toArray, List.getElem_cons_succ, List.getElem_cons_zero, Act.put, List.setIfInBounds_toArray, List.set_cons_zero, List.set_cons_succ])
                refine wpAnyH_take (i := 4) (v := ?_) rfl (by kernel_rfl) (by kernel_rfl) (by kernel_rfl) (fun _ _ _ h => h) (Or.inl ⟨by kernel_rfl, ?_⟩) (by assumption) ?_
                rotate_left 1
                · (intro w' hSw; clear hSw; go_simp; all_goals with_reducible rfl)
                (try simp only [List.getElem_toArray, List.getElem_cons_succ, List.getElem_cons_zero, Act.put, List.setIfInBounds_toArray, List.set_cons_zero, List.set_cons_succ])
                refine wpAnyH_ready (rs := [5]) (by kernel_rfl) (by simp) ?_
                refine AllReadyH.cons rfl (fun K hK => ?_) AllReadyH.nil
                refine step_callG (by kernel_rfl) 26 #[insV x, .int .i64 n] (by kernel_rfl) (ci wr.drew) ?_
                rintro e w2 ⟨rfl, hb2⟩
                have hS1 := hHeld.1
                have hS2 := hHeld.2.choose_spec
                refine ⟨_, rfl, ?_⟩
                refine hK.out _ _ ⟨hS1.below hb2, _, hS2.below hb2⟩ (fun hHeld => ?_)
                clear hK K
                (try simp only [List.getElem_toArray, List.getElem_cons_succ, List.getElem_cons_zero, Act.put, List.setIfInBounds_toArray, List.set_cons_zero, List.set_cons_succ])
                refine wpAnyH_take (i := 6) (v := ?_) rfl (by kernel_rfl) (by kernel_rfl) (by kernel_rfl) (fun _ _ _ h => h) (Or.inl ⟨by kernel_rfl, ?_⟩) (by assumption) ?_
                rotate_left 1
                · (intro w' hSw; clear hSw; go_simp; all_goals with_reducible rfl)
                (try simp only [List.getElem_toArray, List.getElem_cons_succ, List.getElem_cons_zero, Act.put, List.setIfInBounds_toArray, List.set_cons_zero, List.set_cons_succ])
                refine wpAnyH_ready (rs := [7]) (by kernel_rfl) (by simp) ?_
                refine AllReadyH.cons rfl (fun K hK => ?_) AllReadyH.nil
                have hS1 := hHeld.1
                have hS2 := hHeld.2.choose_spec
                refine step_storeI rfl (.tmp 4) (.tmp 121) rfl gw x hHeld.2.choose (by simp [Act.eval]) (by simp [Act.eval]) hS2 ?_
                refine hK.out _ _ ⟨setI_other hS1 (Nat.succ_ne_self gw) x, x, setI_blk hS2 x⟩ (fun hHeld => ?_)
                clear hK K
                (try simp only [List.getElem_toArray, List.getElem_cons_succ, List.getElem_cons_zero, Act.put, List.setIfInBounds_toArray, List.set_cons_zero, List.set_cons_succ])
                refine wpAnyH_take (i := 8) (v := ?_) rfl (by kernel_rfl) (by kernel_rfl) (by kernel_rfl) (fun _ _ _ h => h) (Or.inl ⟨by kernel_rfl, ?_⟩) (by assumption) ?_
                rotate_left 1
                · (intro w' hSw; clear hSw; go_simp; all_goals with_reducible rfl)
                (try simp only [List.getElem_toArray, List.getElem_cons_succ, List.getElem_cons_zero, Act.put, List.setIfInBounds_toArray, List.set_cons_zero, List.set_cons_succ])
                refine wpAnyH_done (by kernel_rfl) ?_ _
                have HBF : Hid (Below gw w (w2.setRow gw (insC x))) := setI_below (HB3.out.drew.trans (hb2.mono HSZ3.out)) (Nat.le_refl gw) x
                have HKF : Hid (Blk (w2.setRow gw (insC x)) gw 41 (insC x)) := setI_blk hS2 x
                clear hHeld hS1 hS2
                go_wp2_with fail
                exact bodyPost_ret (hres HKF.out rfl rfl) rfl ⟨⟨x, same_out HS2.out (by first | rfl | simp)⟩, HBF.out⟩
        · rw [if_pos hl] at hI
          have HI : Hid (insI ws n = none) := hI
          have hlf : ((ws.length : Int) != (F.size : Int) + 1) = true := by rw [bne_iff_ne]; omega
          clear hI hsm hl hall HCH
          have h4b := setI_blk HK1.out ins0
          go_wp2_with (first
            | (go_at_call 22; go_must (refine cf.mono ?_; rintro e w2 ⟨rfl, hq⟩; obtain rfl := hq.symm; clear hq))
            | (refine wpList_store_row rfl 41 _ _ rfl gw (insC ins0) rfl rfl 41 _ HK1.out (by kernel_rfl) (by kernel_rfl) (by kernel_rfl) ?_))
          exact bodyPost_ret (results_ins Tryd.results12 _ _ gw ins0 rfl h4b (.bool false) rfl) rfl ⟨⟨ins0, false, rfl, by rw [HI.out]; rfl, fun y hy => by rw [HI.out] at hy; cases hy⟩, setI_below HB1.out (Nat.le_refl gw) ins0⟩
    · obtain rfl : k = 14 := by omega
      have hid : idxV frmW (ws.getD 0 ⟨#[]⟩) = -1 := by rw [HT0.out]; exact frm_miss (by rw [← HT0.out]; exact HNE.out) hall.out
      have HI : Hid (insI ws n = none) := insI_no (by rw [hid]; decide)
      clear hid hall
      have h4b := setI_blk HK1.out ins0
      go_wp2_with (refine wpList_store_row rfl 41 _ _ rfl gw (insC ins0) rfl rfl 41 _ HK1.out (by kernel_rfl) (by kernel_rfl) (by kernel_rfl) ?_)
      exact bodyPost_ret (results_ins Tryd.results12 _ _ gw ins0 rfl h4b (.bool false) rfl) rfl ⟨⟨ins0, .inl ⟨rfl, HI.out, fun y hy => by rw [HI.out] at hy; cases hy⟩⟩, setI_below HB1.out (Nat.le_refl gw) ins0⟩
end Go.Proofs.YtbkhkpdpaaphoaaDoor
