/-
  A program's text, as the program reads it: the walk. No statement of the seat is proved here.
-/
import Derived.Test.YthopmdfichfhdaaGreatDoorJ3b
namespace Go.Proofs.YthopmdfichfhdaaGreatDoor
open Go.ChangeShapes Go.WideShapes Go.ChangeAt Go.RowKit Go.Shelf
set_option linter.unusedVariables false
set_option linter.unusedSimpArgs false
attribute [local go_sem] Oper.semAt_some

set_option maxRecDepth 100000 in
set_option maxHeartbeats 4000000 in
theorem readIn (n : Nat) (hn : 4 ≤ n) (t : ByteArray) (ht : t.size ≤ 65536) (w : World) :
    CallsIn Fence.wide n Tryz.prog 32 #[.string t] w fun e w' => (∃ v, e = .returned v ∧ PrgAt w.heap.size w' v (doneR (runR rd0 (cutF t 10)))) ∧ Below w.heap.size w w' := by
  have h1 : 1 ≤ n := by omega
  have hro : Fence.wide.round = none := rfl
  have ht' : (t.size : Int) ≤ 65536 := by omega
  have cs := fun V => (callsIn_wide (n := n - 1)).2 (implSplitSeq t V)
  obtain ⟨R0, hR0⟩ : ∃ R0, doneR (runR rd0 (cutF t 10)) = R0 := ⟨_, rfl⟩
  rw [hR0]
  have HR0 : Hid (doneR (runR rd0 (cutF t 10)) = R0) := hR0
  clear hR0
  refine callsIn_of_wp_marks Tryz.func32 rfl trivial ?_ hro
  simp only [Tryz.ntmps32, List.size_toArray, List.length_cons, List.length_nil, Nat.reduceAdd, Nat.reduceSub, Array.replicate_succ, Array.replicate_zero, List.push_toArray, List.append_toArray, List.nil_append, List.cons_append]
  gi_wp2_with (refine ⟨trivial, ?_⟩; gi_at_call 45; refine (cs _).mono ?_; rintro e V ⟨rfl, rfl⟩)
  obtain ⟨hz, hsp, hbt⟩ := start_all t w
  obtain ⟨W0, hW0⟩ : ∃ W0, splitW t (boxW w) = W0 := ⟨_, rfl⟩
  unfold boxW at hW0
  simp only [Nat.add_assoc, Nat.reduceAdd] at hW0 ⊢
  rw [hW0]
  have hW1 : splitW t (boxW w) = W0 := hW0
  rw [hW1] at hz hsp hbt
  clear hW0 hW1 cs
  have hbs : w.heap.size + 5 < W0.heap.size := by omega
  refine wpIn_rangeFunc_cell (F := Fence.wide) hro h1 (f := 72) (lb := #[.pointer (some ⟨w.heap.size + 6, 0, none⟩), .pointer (some ⟨w.heap.size + 5, 0, none⟩), .pointer (some ⟨w.heap.size + 7, 0, none⟩)]) rfl trivial (enters_of Tryz.func72 (by kernel_rfl) rfl)
    (splitStops (n - 1) (by omega) (w.heap.size + 5) t ht W0 hsp (by omega)) (Below.refl _ _) hbs (fun h k => KeepS.trans h k) (fun W l o hl k h1 h2 => World.putObj_heap_other (by omega))
    (BetweenL w.heap.size w) (fun c pre V => c = Code.ret ∧ FaultL w.heap.size w pre V) (betweenOwn _ _ w (Nat.le_refl _) (by omega)) (fun _ => OwnFrom.and (fun _ _ _ _ h _ _ => h) (faultOwn _ _ w (Nat.le_refl _) (by omega)))
    (fun xs V v h => ?_) hbt
    (fun x => { tmps := #[Value.string t, undef, Value.pointer (some ⟨w.heap.size, 0, none⟩), Value.pointer (some ⟨w.heap.size + 1, 0, none⟩), Value.pointer (some ⟨w.heap.size + 2, 0, none⟩), Value.pointer (some ⟨w.heap.size + 4, 0, none⟩), Value.string x.1, undef, undef, undef, Value.string t, Value.int IntKind.i64 t.size, Value.bool (decide (65536 < (t.size : Int))), undef, Value.agg #[Value.slice none 0 0, Value.slice none 0 0, Value.int IntKind.i64 0, Value.slice none 0 0], Value.pointer (some ⟨w.heap.size + 3, 0, none⟩), Value.string t, Value.func (Fn.func 72) #[] #[Value.pointer (some ⟨w.heap.size + 6, 0, none⟩), Value.pointer (some ⟨w.heap.size + 5, 0, none⟩), Value.pointer (some ⟨w.heap.size + 7, 0, none⟩)], Value.string x.1, undef, undef, undef, undef, undef, undef, undef, undef, undef, undef, undef, undef, undef, undef, undef, undef, undef, undef, undef, undef, undef, undef, undef, undef, undef, undef, undef, undef, undef, undef, undef, undef], defers := [] }) ?assign ?body ?done ?stop
  case assign =>
    intro l x W K hK
    gi_wp2
    exact hK
  · obtain ⟨⟨⟨iv, tv, jv, tvs, s, h1, h2, h3, h4⟩, h5⟩, h6⟩ := h
    exact ⟨⟨⟨iv, tv, jv, tvs, s, h1.poke (by omega) (by omega) _ _, h2, h3, h4⟩, h5.poke _ _ (by omega) _⟩, h6.setCell (p := ⟨w.heap.size + 5, 0, none⟩) (Nat.le_add_right _ _) _⟩
  case body =>
    rintro l pre x W ⟨⟨⟨iv, tv, jv, tvs, s, hr, hf, hj, hpre⟩, hbx⟩, hbl⟩ hlt
    have c5 := hbx.ptr.cell 0
    have c2 := hr.blk.cell 2
    have f2 := hr.blk.fro 2
    simp at c5 c2
    have hl0 := runR_ln rd0 (pre.map (·.1)) (by rw [hpre])
    rw [hpre] at hl0
    have hl1 : (0 : Int) ≤ s.ln := by rw [hl0]; simp [rd0]
    have hl2 : s.ln ≤ 65536 := by rw [hl0]; simp [rd0]; omega
    have H1 := hr.putLn (s.ln + 1)
    have hB1 : Box w.heap.size (W.setCell ⟨w.heap.size + 3, 2, none⟩ (.int .i64 (s.ln + 1))) := hbx.poke _ _ (by omega) _
    have HK1 : KeepsOthers W (W.setCell ⟨w.heap.size + 3, 2, none⟩ (.int .i64 (s.ln + 1))) := KeepsOthers.setCell _ _ _
    have HS1 : KeepS (w.heap.size + 5) W (W.setCell ⟨w.heap.size + 3, 2, none⟩ (.int .i64 (s.ln + 1))) := fun k h1 h2 => Below.heap_setCell _ _ _ _ (by simp only; omega)
    have HBL : Below w.heap.size w (W.setCell ⟨w.heap.size + 3, 2, none⟩ (.int .i64 (s.ln + 1))) := hbl.setCell (p := ⟨w.heap.size + 3, 2, none⟩) (Nat.le_add_right _ _) _
    have cr := (callsIn_wide (n := n - 1 - 1 - 1)).2 (implRead H1 (show RdFit { s with ln := s.ln + 1 } from ⟨hf.ini, hf.thr, hf.cod, hf.jmp⟩) x.1 x.2)
    have hft := fun h => read_fit (s := { s with ln := s.ln + 1 }) ⟨hf.ini, hf.thr, hf.cod, hf.jmp⟩ x.1 h
    have hit := fun h => read_in (s := { s with ln := s.ln + 1 }) hj x.1 h
    have hsn := runR_snoc (pre.map (·.1)) x.1 rd0 (by rw [hpre])
    rw [hpre] at hsn
    simp only [runR] at hsn
    have h63 : 1 ≤ n - 1 - 1 := by omega
    have H1' : Hid (RdAt (w.heap.size + 8) (w.heap.size + 3) iv tv jv tvs (W.setCell ⟨w.heap.size + 3, 2, none⟩ (.int .i64 (s.ln + 1))) { s with ln := s.ln + 1 }) := H1
    have HB1 : Hid (Box w.heap.size (W.setCell ⟨w.heap.size + 3, 2, none⟩ (.int .i64 (s.ln + 1)))) := hB1
    have c55 := hB1.ptr.cell 0
    simp at c55
    obtain ⟨R, hR⟩ : ∃ R, readR { s with ln := s.ln + 1 } x.1 = R := ⟨_, rfl⟩
    rw [hR] at cr hsn hft hit
    have HSN : Hid _ := hsn
    have HFT : Hid _ := hft
    have HIT : Hid _ := hit
    clear hsn hft hit hl0 hR H1 hB1 hr hbx hpre
    obtain ⟨rc, rs⟩ := R
    dsimp only at cr
    by_cases hrc : rc = 0
    · subst hrc
      gi_wp2_with (refine ⟨trivial, ?_⟩; gi_at_call 46; refine (CallsIn.inRound l cr).mono ?_; rintro e V ⟨rfl, hchg, hgo⟩)
      obtain ⟨iv', tv', jv', tvs', h5⟩ := hgo trivial
      have HKV : KeepsOthers W V := HK1.trans ⟨hchg.size, fun k o hk ho => hchg.block k o hk (fun e => by subst e; rw [show (W.setCell ⟨w.heap.size + 3, 2, none⟩ (.int .i64 (s.ln + 1))).heap[w.heap.size + 3]? = _ from H1'.out.blk] at hk; injection hk with hk; subst hk; cases ho) (.inr ho)⟩
      have hltk : ∀ k, k < W.heap.size → k < (W.setCell ⟨w.heap.size + 3, 2, none⟩ (.int .i64 (s.ln + 1))).heap.size := fun k hk => Nat.lt_of_lt_of_le hk HK1.size
      have hV8 : ∀ k, k < w.heap.size + 8 → k ≠ w.heap.size + 3 → V.heap[k]? = (W.setCell ⟨w.heap.size + 3, 2, none⟩ (.int .i64 (s.ln + 1))).heap[k]? := fun k hk hne => by
        have hlt : k < (W.setCell ⟨w.heap.size + 3, 2, none⟩ (.int .i64 (s.ln + 1))).heap.size := Nat.lt_of_lt_of_le hk H1'.out.size
        rw [Array.getElem?_eq_getElem hlt]
        exact hchg.block k _ (Array.getElem?_eq_getElem hlt) hne (.inl hk)
      refine ⟨HKV, fun k h1 h2 => (hV8 k (by omega) (by omega)).trans (HS1 k h1 h2), ⟨⟨iv', tv', jv', tvs', rs, h5, HFT.out trivial, HIT.out trivial, ?_⟩, HB1.out.chg (by omega) hchg⟩, HBL.trans ⟨hchg.os, hchg.tape, hchg.output, hchg.size, fun k hk => hV8 k (by omega) (by omega)⟩⟩
      rw [List.map_append]
      exact (by simpa using HSN.out)
    · gi_wp2_with (refine ⟨trivial, ?_⟩; gi_at_call 46; refine (CallsIn.inRound l cr).mono ?_; rintro e V ⟨rfl, hchg, -⟩; have HBV := HB1.out.chg (by omega) hchg; have HCV : Hid _ := hchg; have z0 := HBV.prg.cell 0; have z1 := HBV.prg.cell 1; have z2 := HBV.cod.cell 0; have z3 := HBV.lin.cell 0; have z4 := HBV.ptr.cell 0; have y0 := HBV.prg.fro 0; have y1 := HBV.prg.fro 1; have y2 := HBV.cod.fro 0; have y3 := HBV.lin.fro 0; obtain ⟨cs9, hk9, e9⟩ := hchg.line _ H1'.out.blk; have z5 := hk9.cell 2; rw [e9] at z5; simp at z0 z1 z2 z3 z4 z5; have HBV' : Hid _ := HBV; clear hchg HBV hk9 e9)
      have HKV : Hid (KeepsOthers W V) := HK1.trans ⟨HCV.out.size, fun k o hk ho => HCV.out.block k o hk (fun e => by subst e; rw [show (W.setCell ⟨w.heap.size + 3, 2, none⟩ (.int .i64 (s.ln + 1))).heap[w.heap.size + 3]? = _ from H1'.out.blk] at hk; injection hk with hk; subst hk; cases ho) (.inr ho)⟩
      have HBV2 : Hid (Below w.heap.size w V) := HBL.trans ⟨HCV.out.os, HCV.out.tape, HCV.out.output, HCV.out.size, fun k hk => by
        have hlt : k < (W.setCell ⟨w.heap.size + 3, 2, none⟩ (.int .i64 (s.ln + 1))).heap.size := Nat.lt_of_lt_of_le hk HBL.size
        rw [Array.getElem?_eq_getElem hlt]
        exact HCV.out.block k _ (Array.getElem?_eq_getElem hlt) (by omega) (.inl (by omega))⟩
      clear cr HB1 HS1 HK1 HBL h63 H1' c55
      clear hbt hsp hz hbs hf hj hlt f2 c5 c2 hl1 hl2 hro ht' HR0 HFT HIT hbl hn h1
      gi_region
      all_goals (gi_wp2_with fail)
      all_goals exact fault_end HKV.out HBV'.out HBV2.out hrc HSN.out
  case done =>
    rintro D xs V hD hxs ⟨⟨⟨iv, tv, jv, tvs, s, hr, hf, hj, hpre⟩, hbx⟩, hbl⟩ hK
    have hDb : w.heap.size + 8 ≤ D := by omega
    have hR : R0 = outR s := by
      rw [← HR0.out, ← hxs, hpre]
      rfl
    have HRO : Hid (R0 = outR s) := hR
    have ce := (callsIn_wide (n := n - 1)).2 (implEnd hr hf hj)
    have c5 := hbx.ptr.cell 0
    simp at c5
    obtain ⟨ia, ic, rfl⟩ := row_shape hr.ini
    obtain ⟨ta, tc, rfl⟩ := row_shape hr.thr
    have HR : Hid (RdAt (w.heap.size + 8) (w.heap.size + 3) (.slice ia s.ini.length ic) (.slice ta tvs.length tc) jv tvs V s) := hr
    have HBX : Hid (Box w.heap.size V) := hbx
    obtain ⟨E, hE⟩ : ∃ E, endR s = E := ⟨_, rfl⟩
    rw [hE] at ce
    have HE : Hid (endR s = E) := hE
    obtain ⟨ec, el⟩ := E
    dsimp only at ce
    clear hr hbx hE hf hj hpre hxs hR
    by_cases hec : ec = 0
    · subst hec
      gi_wp2_with (refine ⟨trivial, ?_⟩; gi_at_call 47; refine ce.mono ?_; rintro e V2 ⟨rfl, hb2⟩; have H2 := HR.out.go hb2; have B2 := HBX.out.chg (by omega) (Chg.of (g := w.heap.size + 3) (B := w.heap.size + 8) hb2); have z0 := B2.prg.cell 0; have z1 := B2.prg.cell 1; have z2 := B2.cod.cell 0; have z3 := B2.lin.cell 0; have z4 := B2.ptr.cell 0; have y0 := B2.prg.fro 0; have y1 := B2.prg.fro 1; have y2 := B2.cod.fro 0; have y3 := B2.lin.fro 0; have x0 := H2.blk.cell 0; have x1 := H2.blk.cell 1; simp at z0 z1 z2 z3 z4 x0 x1; have HB2' : Hid _ := B2; have H2' : Hid _ := H2; clear B2 H2)
      have HD2 : Hid (V2.heap[D]? = some (.deferred (some []))) := (hb2.block D (Array.getElem?_eq_some_iff.1 hK).1).trans hK
      have HB3 : Hid (Below w.heap.size w V2) := hbl.trans (hb2.mono hbl.size)
      have H4 := (((H2'.out.poke (b := w.heap.size) (by omega) (by omega) 0 (.slice ia s.ini.length ic)).poke (b := w.heap.size) (by omega) (by omega) 1 (.slice ta tvs.length tc)).poke (b := w.heap.size + 1) (by omega) (by omega) 0 (.int .i64 0)).poke (b := w.heap.size + 2) (by omega) (by omega) 0 (.int .i64 0)
      have hr0 : R0 = ⟨s.ini, s.thr, 0, 0⟩ := by
        rw [HRO.out]
        unfold outR
        rw [HE.out]
        rfl
      rw [hr0]
      refine leave_prg (D := D) (iv := .slice ia s.ini.length ic) (tv := .slice ta tvs.length tc) (c := 0) (l := 0) ?_ (by omega) rfl rfl rfl ?_ ?_ ?_ ⟨_, _, tvs, rfl, row_mono H4.ini (Nat.le_add_right _ _), row_mono H4.thr (Nat.le_add_right _ _), H4.fam.mono (Nat.le_add_right _ _)⟩ ?_
      · rw [Below.heap_setCell _ _ _ _ (by simp only; omega), Below.heap_setCell _ _ _ _ (by simp only; omega), Below.heap_setCell _ _ _ _ (by simp only; omega), Below.heap_setCell _ _ _ _ (by simp only; omega)]
        exact HD2.out
      · exact ((((HB2'.out.prg.set 0 _).set 1 _).other (i := 0) (show w.heap.size ≠ w.heap.size + 1 by omega) _).other (i := 0) (show w.heap.size ≠ w.heap.size + 2 by omega) _)
      · exact (((HB2'.out.cod.other (i := 0) (show w.heap.size + 1 ≠ w.heap.size by omega) _).other (i := 1) (show w.heap.size + 1 ≠ w.heap.size by omega) _).set 0 _).other (i := 0) (show w.heap.size + 1 ≠ w.heap.size + 2 by omega) _
      · exact (((HB2'.out.lin.other (i := 0) (show w.heap.size + 2 ≠ w.heap.size by omega) _).other (i := 1) (show w.heap.size + 2 ≠ w.heap.size by omega) _).other (i := 0) (show w.heap.size + 2 ≠ w.heap.size + 1 by omega) _).set 0 _
      · exact (((HB3.out.setCell (p := ⟨w.heap.size, 0, none⟩) (Nat.le_refl _) _).setCell (p := ⟨w.heap.size, 1, none⟩) (Nat.le_refl _) _).setCell (p := ⟨w.heap.size + 1, 0, none⟩) (Nat.le_succ _) _).setCell (p := ⟨w.heap.size + 2, 0, none⟩) (by show w.heap.size ≤ w.heap.size + 2; omega) _
    · gi_wp2_with (refine ⟨trivial, ?_⟩; gi_at_call 47; refine ce.mono ?_; rintro e V2 ⟨rfl, hb2⟩; have H2 := HR.out.go hb2; have B2 := HBX.out.chg (by omega) (Chg.of (g := w.heap.size + 3) (B := w.heap.size + 8) hb2); have z0 := B2.prg.cell 0; have z1 := B2.prg.cell 1; have z2 := B2.cod.cell 0; have z3 := B2.lin.cell 0; have z4 := B2.ptr.cell 0; have y0 := B2.prg.fro 0; have y1 := B2.prg.fro 1; have y2 := B2.cod.fro 0; have y3 := B2.lin.fro 0; have x0 := H2.blk.cell 0; have x1 := H2.blk.cell 1; simp at z0 z1 z2 z3 z4 x0 x1; have HB2' : Hid _ := B2; have H2' : Hid _ := H2; clear B2 H2)
      have HD2 : Hid (V2.heap[D]? = some (.deferred (some []))) := (hb2.block D (Array.getElem?_eq_some_iff.1 hK).1).trans hK
      have HB3 : Hid (Below w.heap.size w V2) := hbl.trans (hb2.mono hbl.size)
      have hr0 : R0 = ⟨[], [], ec, el⟩ := by
        rw [HRO.out]
        unfold outR
        rw [HE.out, if_neg hec]
      rw [hr0]
      refine leave_prg (D := D) (iv := .slice none 0 0) (tv := .slice none 0 0) (c := ec) (l := el) ?_ (by omega) rfl rfl rfl ?_ ?_ ?_ (prg_none _ _ _ _) ?_
      · rw [Below.heap_setCell _ _ _ _ (by simp only; omega), Below.heap_setCell _ _ _ _ (by simp only; omega), Below.heap_setCell _ _ _ _ (by simp only; omega), Below.heap_setCell _ _ _ _ (by simp only; omega)]
        exact HD2.out
      · exact ((((HB2'.out.prg.set 0 _).set 1 _).other (i := 0) (show w.heap.size ≠ w.heap.size + 1 by omega) _).other (i := 0) (show w.heap.size ≠ w.heap.size + 2 by omega) _)
      · exact (((HB2'.out.cod.other (i := 0) (show w.heap.size + 1 ≠ w.heap.size by omega) _).other (i := 1) (show w.heap.size + 1 ≠ w.heap.size by omega) _).set 0 _).other (i := 0) (show w.heap.size + 1 ≠ w.heap.size + 2 by omega) _
      · exact (((HB2'.out.lin.other (i := 0) (show w.heap.size + 2 ≠ w.heap.size by omega) _).other (i := 1) (show w.heap.size + 2 ≠ w.heap.size by omega) _).other (i := 0) (show w.heap.size + 2 ≠ w.heap.size + 1 by omega) _).set 0 _
      · exact (((HB3.out.setCell (p := ⟨w.heap.size, 0, none⟩) (Nat.le_refl _) _).setCell (p := ⟨w.heap.size, 1, none⟩) (Nat.le_refl _) _).setCell (p := ⟨w.heap.size + 1, 0, none⟩) (Nat.le_succ _) _).setCell (p := ⟨w.heap.size + 2, 0, none⟩) (by show w.heap.size ≤ w.heap.size + 2; omega) _
  case stop =>
    rintro D c pre V hD hpx ⟨rfl, ⟨s, h1, h2, h3, h4, h5⟩, h6⟩ hK
    have hR : R0 = ⟨[], [], (runR rd0 (pre.map (fun x => x.val))).1, s.ln⟩ := by
      obtain ⟨ms, hms⟩ := hpx
      rw [← HR0.out, ← hms, runR_stop _ _ _ h1]
      unfold doneR
      rw [if_neg h1, h2]
    obtain ⟨rc, hrc⟩ : ∃ rc, (runR rd0 (pre.map (fun x => x.val))).1 = rc := ⟨_, rfl⟩
    rw [hrc] at hR h4
    have hDb : w.heap.size + 4 < D := by omega
    gi_wp2
    rw [hR]
    exact leave_prg (D := D) (iv := .slice none 0 0) (tv := .slice none 0 0) hK hDb rfl rfl rfl h3 h4 h5 (prg_none _ _ _ _) h6
end Go.Proofs.YthopmdfichfhdaaGreatDoor
