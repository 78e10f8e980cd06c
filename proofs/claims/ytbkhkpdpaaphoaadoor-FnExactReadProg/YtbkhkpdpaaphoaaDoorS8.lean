/-
  spec.ReadProg: the document's reading of a program's text, of at most 65536 bytes. No statement of the seat is proved here.
-/
import Derived.Test.YtbkhkpdpaaphoaaDoorS7
namespace Go.Proofs.YtbkhkpdpaaphoaaDoor
open Go.ChangeShapes Go.WideShapes Go.ChangeAt Go.RowKit
set_option linter.unusedVariables false
set_option linter.unusedSimpArgs false

theorem wrap_i64r (q : Int) (h0 : -9223372036854775808 ≤ q) (h1 : q ≤ 9223372036854775807) : IntKind.i64.wrap q = q := by
  simp only [IntKind.wrap, IntKind.bits, IntKind.signed]
  simp
  omega
set_option maxRecDepth 100000 in
set_option maxHeartbeats 16000000 in
theorem specShort (t : ByteArray) (ht : t.size ≤ 65536) (w : World) :
    Calls Tryd.prog 4 #[.string t] w fun e w' => (∃ v, e = .returned v ∧ PrgAt w.heap.size w' v (doneR (runR rd0 (cutF t 10)))) ∧ Below w.heap.size w w' := by
  have ht' : (t.size : Int) ≤ 65536 := by omega
  have hnl : ¬ ((65536 : Int) < (t.size : Int)) := by omega
  have ct : ∀ W, Calls Tryd.prog 9 #[.string t, .int .u8 10] W fun e w' => (∃ v, e = .returned v ∧ OwnTxts W.heap.size w' v (cutF t 10)) ∧ Below W.heap.size W w' := fun W => specCut t 10 (by omega) W
  have hlp := cutF_pos t 10
  have hll := cutF_len t 10
  have hlz := cutF_size t 10
  obtain ⟨ls, hls⟩ : ∃ ls, cutF t 10 = ls := ⟨_, rfl⟩
  rw [hls] at hlp hll hlz ⊢
  simp only [hls] at ct
  obtain ⟨R0, hR0⟩ : ∃ R, doneR (runR rd0 ls) = R := ⟨_, rfl⟩
  rw [hR0]
  have HR0 : Hid (doneR (runR rd0 ls) = R0) := hR0
  have HLZ : Hid (∀ y ∈ ls, y.size ≤ 65536) := fun y hy => Nat.le_trans (hlz y hy) ht
  have hll' : (ls.length : Int) ≤ 65537 := by omega
  clear hR0 hls hlz
  have kA : Blk (w.alloc (.cells #[.slice none 0 0, .slice none 0 0] 25)) w.heap.size 25 prg0 := heap_alloc_last w _
  have bA : Below w.heap.size w (w.alloc (.cells #[.slice none 0 0, .slice none 0 0] 25)) := (Below.refl _ w).alloc (Nat.le_refl _) _
  obtain ⟨w1, hw1⟩ : ∃ W, w.alloc (.cells #[.slice none 0 0, .slice none 0 0] 25) = W := ⟨_, rfl⟩
  rw [hw1] at kA bA
  have HKA : Hid (Blk w1 w.heap.size 25 prg0) := kA
  have HBA : Hid (Below w.heap.size w w1) := bA
  clear kA bA
  go_enter Tryd.func4, Tryd.ntmps4
  go_upto_region 3 with fail
  clear hw1
  go_upto_region 4 with (refine wpList_store_row rfl 25 _ _ rfl w1.heap.size #[.slice none 0 0, .slice none 0 0] rfl rfl 25 _ (heap_alloc_last _ _) (by kernel_rfl) (by kernel_rfl) (by kernel_rfl) ?_; rw [World.setRow_alloc_new])
  simp only [Act.put]
  have kP : Blk (w1.alloc (.cells #[.slice none 0 0, .slice none 0 0] 25)) w1.heap.size 25 prg0 := heap_alloc_last w1 _
  have bP : Below w1.heap.size w1 (w1.alloc (.cells #[.slice none 0 0, .slice none 0 0] 25)) := (Below.refl _ w1).alloc (Nat.le_refl _) _
  generalize w1.alloc (.cells #[.slice none 0 0, .slice none 0 0] 25) = w2 at kP bP ⊢
  have hgp : w.heap.size < w1.heap.size := HKA.out.lt
  generalize w1.heap.size = gp at kP bP hgp ⊢
  have HK2 : Hid (Blk w2 gp 25 prg0 ∧ Blk w2 w.heap.size 25 prg0 ∧ Below w.heap.size w w2) := ⟨kP, (bP.block _ hgp).trans HKA.out, HBA.out.trans (bP.mono (Nat.le_of_lt hgp))⟩
  clear kP bP HKA HBA
  go_upto_region 5 with (go_at_call 9; go_must (refine (ct _).mono ?_; rintro e w3 ⟨⟨v3, rfl, ho3⟩, hb3⟩; obtain ⟨lb, cap, cs, rfl, -, hkl, hcs⟩ := txts_blk ho3 hlp))
  have HCS : Hid (∀ i, i < ls.length → cs[i]? = some (.string (ls.getD i ⟨#[]⟩))) := hcs
  have HK3 : Hid (Blk w3 gp 25 prg0 ∧ Blk w3 w.heap.size 25 prg0 ∧ Below w.heap.size w w3 ∧ Blk w3 lb 9 cs) := ⟨HK2.out.1.below hb3, HK2.out.2.1.below hb3, HK2.out.2.2.trans (hb3.mono HK2.out.2.2.size), hkl⟩
  clear hcs HK2 ho3 hb3 hkl ct
  go_upto_region 6 with fail
  have k7 : Blk (w3.alloc (.cells #[] 22)) w3.heap.size 22 #[] := heap_alloc_last w3 _
  have b7 : Below w3.heap.size w3 (w3.alloc (.cells #[] 22)) := (Below.refl _ w3).alloc (Nat.le_refl _) _
  have HST0 : Hid (StAt w.heap.size w.heap.size gp lb cs (.slice none 0 0) (.slice none 0 0) (.slice (some ⟨w3.heap.size, 0, none⟩) 0 0) [] [] w (w3.alloc (.cells #[] 22)) rd0 []) := start_at (HK3.out.2.1.below b7) (HK3.out.1.below b7) (HK3.out.2.2.2.below b7) k7 hgp HK3.out.2.2.1.size (HK3.out.2.2.1.trans (b7.mono HK3.out.2.2.1.size))
  clear k7 b7 HK3
  go_wp2_with fail
  go_loopw [7, 8] (fun i7 i8 wr => ∃ (i : Nat) (iv tv : Value) (tvs wvs : List Value) (s : Rd) (wh : List (List Int)), i8 = .int .i64 (i : Int) ∧ i ≤ ls.length ∧ Hid (StAt w.heap.size w.heap.size gp lb cs iv tv i7 tvs wvs w wr s wh) ∧ Hid (Ahead ls i s wh)) (fun _ i8 _ => ls.length - (intOf i8).toNat)
  case atStart => exact ⟨0, _, _, [], [], rd0, [], rfl, Nat.zero_le _, HST0.out, Ahead.start ls⟩
  case round =>
    obtain ⟨i, iv, tv, tvs, wvs, s, wh, rfl, hi, HST, HAH⟩ := hrel
    obtain ⟨wa, wk, hwv⟩ := row_shape HST.out.sp.whr
    subst hwv
    obtain ⟨ia, ic, hiv⟩ := row_shape HST.out.sp.ini
    subst hiv
    obtain ⟨ta, tc, htv⟩ := row_shape HST.out.sp.thr
    subst htv
    have hfl := HST.out.sp.fam.len
    have hwl : wvs.length = s.thr.length := by have h1 := HST.out.sp.num.len; have h2 := HAH.out.who.len; simp at h1; omega
    have hi8 := HAH.out.fit.ini
    have ht4 := HAH.out.fit.thr
    simp only [hfl, hwl] at HST ⊢
    have HFL : Hid (tvs.length = s.thr.length) := hfl
    have HWL : Hid (wvs.length = s.thr.length) := hwl
    clear hfl hwl HST0
    by_cases hin : i < ls.length
    · have hin' : (i : Int) < (ls.length : Int) := by omega
      obtain ⟨L, hL⟩ : ∃ L, ls[i] = L := ⟨_, rfl⟩
      have x0 : wr.cell? ⟨lb, i, none⟩ = some (.string L) := by
        rw [HST.out.lns.cell, HCS.out i hin, List.getD_eq_getElem?_getD, List.getElem?_eq_getElem hin, hL]
        rfl
      have hLs : L.size ≤ 65536 := by rw [← hL]; exact HLZ.out _ (List.getElem_mem hin)
      have hlf := lineF_size L
      obtain ⟨LF, hLF⟩ : ∃ l, lineF L = l := ⟨_, rfl⟩
      rw [hLF] at hlf
      have HLF : Hid (lineF L = LF) := hLF
      have c1 : Calls Tryd.prog 9 #[.string L, .int .u8 35] wr fun e w' => (∃ v, e = .returned v ∧ OwnTxts wr.heap.size w' v (cutF L 35)) ∧ Below wr.heap.size wr w' := specCut L 35 (by omega) wr
      have c2 := fun W => specWords LF (by omega) W
      have hp1 := cutF_pos L 35
      have hp1' : (0 : Int) < ((cutF L 35).length : Int) := by omega
      have hwz := wordsF_size LF
      have hwl := wordsF_len LF
      have hwn := wordsF_ne LF
      obtain ⟨wd, hwd⟩ : ∃ l, wordsF LF = l := ⟨_, rfl⟩
      rw [hwd] at hwz hwl hwn
      simp only [hwd] at c2
      have hR : readR { s with ln := s.ln + 1 } ls[i] = wordsR { s with ln := s.ln + 1 } wd := by rw [hL]; unfold readR; rw [hLF, hwd]
      have HR : Hid (readR { s with ln := s.ln + 1 } ls[i] = wordsR { s with ln := s.ln + 1 } wd) := hR
      clear hL hLF hwd hR
      go_upto_region 10 with (first
        | (go_at_call 9; go_must (refine c1.mono ?_; rintro e w4 ⟨⟨v4, rfl, ho4⟩, hb4⟩; obtain ⟨A4, cap4, cs4, rfl, -, hk4, hc4⟩ := txts_blk ho4 hp1; have x1 : w4.cell? ⟨A4, 0, none⟩ = some (.string LF) := by (rw [hk4.cell, hc4 0 hp1]; show some (Value.string (lineF L)) = _; rw [HLF.out])))
        | (go_at_call 10; go_must (refine (c2 _).mono ?_; rintro e w5 ⟨⟨v5, rfl, ho5⟩, hb5⟩)))
      have hb45 : Below wr.heap.size wr w5 := hb4.trans (hb5.mono hb4.size)
      have H5 : Hid (StAt w.heap.size w.heap.size gp lb cs (.slice ia s.ini.length ic) (.slice ta s.thr.length tc) (.slice wa s.thr.length wk) tvs wvs w w5 s wh) := HST.out.go hb45
      clear x1 hk4 hc4 ho4 hb4 hb5 hb45 x0 c1 c2 hp1 hp1' HST
      cases wd with
      | nil =>
        obtain ⟨a5, c5, h5, -⟩ := ho5.value
        subst h5
        have hR0' : readR { s with ln := s.ln + 1 } ls[i] = (0, { s with ln := s.ln + 1 }) := HR.out
        have HN := HAH.out.next hin hR0' (HAH.out.who.line (by omega))
        have HN' : Hid _ := HN
        clear hR0' HN ho5 HR
        go_wp2_with fail
        exact ⟨⟨i + 1, _, _, tvs, wvs, _, wh, by go_num, by omega, H5.out.line (s.ln + 1) s.jmp, HN'.out⟩, by simp [intOf]; omega⟩
      | cons y ws =>
        obtain ⟨n, hn⟩ : ∃ n, (y :: ws).length = n := ⟨_, rfl⟩
        have HN : Hid (n = ws.length + 1) := by rw [← hn]; exact rfl
        obtain ⟨A2, cap2, cs2, e2, -, hk2, hc2⟩ := txts_blk ho5 (by simp)
        rw [hn] at e2
        subst e2
        have HWD : Hid (Blk w5 A2 9 cs2 ∧ ∀ i, i < ws.length + 1 → cs2[i]? = some (.string ((y :: ws).getD i ⟨#[]⟩))) := ⟨hk2, hc2⟩
        have cy : w5.cell? ⟨A2, 0, none⟩ = some (.string y) := (hk2.cell 0).trans (hc2 0 (by simp))
        have hn0 : ¬ ((n : Int) = 0) := by have := HN.out; omega
        have hnp : (0 : Int) < (n : Int) := by have := HN.out; omega
        have hnm : (n : Int) ≤ 70000 := by rw [← hn]; omega
        have HYN : Hid (y ≠ ⟨#[]⟩) := hwn y (List.mem_cons_self ..)
        have HWZ : Hid (∀ z ∈ y :: ws, z.size ≤ 65536) := fun z hz => Nat.le_trans (hwz z hz) (Nat.le_trans hlf hLs)
        have p0 := H5.out.sp.blk.cell 0
        have p1 := H5.out.sp.blk.cell 1
        simp at p0 p1
        clear hwz hwl hwn ho5 hk2 hc2 hn hlf hLs
        obtain ⟨b1, hb1⟩ : ∃ b, (y.toList == [99, 101, 108, 108, 115]) = b := ⟨_, rfl⟩
        obtain ⟨b2, hb2⟩ : ∃ b, ((s.ini.length : Int) == 0) = b := ⟨_, rfl⟩
        obtain ⟨b3, hb3⟩ : ∃ b, ((s.thr.length : Int) == 0) = b := ⟨_, rfl⟩
        obtain ⟨b4, hb4⟩ : ∃ b, (y.toList == [116, 104, 114, 101, 97, 100]) = b := ⟨_, rfl⟩
        obtain ⟨b5, hb5⟩ : ∃ b, ((n : Int) == 1) = b := ⟨_, rfl⟩
        obtain ⟨b6, hb6⟩ : ∃ b, decide (0 < s.ini.length) = b := ⟨_, rfl⟩
        have HBS : Hid ((y.toList == [99, 101, 108, 108, 115]) = b1 ∧ ((s.ini.length : Int) == 0) = b2 ∧ ((s.thr.length : Int) == 0) = b3 ∧ (y.toList == [116, 104, 114, 101, 97, 100]) = b4 ∧ ((n : Int) == 1) = b5 ∧ decide (0 < s.ini.length) = b6) := ⟨hb1, hb2, hb3, hb4, hb5, hb6⟩
        clear hb1 hb2 hb3 hb4 hb5 hb6
        go_upto_region 19 with fail
        go_cut [102] from 41 to 116 (fun s102 wx => s102 = .bool (b1 && b2 && b3) ∧ wx = w5)
        case first =>
          have hb1 := HBS.out.1
          have hb2 := HBS.out.2.1
          have hb3 := HBS.out.2.2.1
          cases b1
          · go_wp2_with fail
            go_meet
            exact ⟨rfl, by first | rfl | trivial⟩
          · cases b2
            · go_wp2_with fail
              go_meet
              exact ⟨rfl, by first | rfl | trivial⟩
            · cases b3
              · go_wp2_with fail
                go_meet
                exact ⟨rfl, by first | rfl | trivial⟩
              · go_wp2_with fail
                go_meet
                exact ⟨rfl, by first | rfl | trivial⟩
        case rest =>
        obtain ⟨rfl, hwx⟩ := hcut
        have hwx' := hwx.symm
        subst hwx'
        cases hA : (b1 && b2 && b3)
        case true =>
          as_aux_lemma =>
          --A
          simp only [Bool.and_eq_true] at hA
          obtain ⟨⟨h1, h2⟩, h3⟩ := hA
          have hyc : y = cellsW := by
            have h := HBS.out.1
            rw [h1, show ([99, 101, 108, 108, 115] : List UInt8) = cellsW.toList from by rw [toList_data]; rfl, beq_bytes] at h
            exact of_decide_eq_true h
          have hini : s.ini = [] := by
            have h := HBS.out.2.1
            rw [h2, beq_iff_eq] at h
            exact List.eq_nil_of_length_eq_zero (by omega)
          have hthr : s.thr.length = 0 := by
            have h := HBS.out.2.2.1
            rw [h3, beq_iff_eq] at h
            omega
          have hwvs : wvs = [] := List.eq_nil_of_length_eq_zero (by rw [HWL.out, hthr])
          have hwh : wh = [] := List.eq_nil_of_length_eq_zero (by rw [HAH.out.who.len, hthr])
          have hRC : wordsR { s with ln := s.ln + 1 } (y :: ws) = if ws.length < 1 ∨ 8 < ws.length then (4, { s with ln := s.ln + 1 }) else if ws.all numB then (0, { s with ln := s.ln + 1, ini := ws.map numV }) else (4, { s with ln := s.ln + 1 }) := by
            subst hyc
            have e9 : wordsR { s with ln := s.ln + 1 } (cellsW :: ws) = cellsR { s with ln := s.ln + 1 } ws := by
              simp only [wordsR, if_true]
            rw [e9]
            unfold cellsR
            dsimp only
            rw [hini]
            simp only [List.length_nil, Nat.lt_irrefl, false_or, List.nil_append]
          have HRC : Hid _ := hRC
          have es : ({ s with ini := (ws.take 0).map numV } : Rd) = s := by
            obtain ⟨si, st, sl, sj⟩ := s
            dsimp only at hini
            subst hini
            rfl
          subst hwvs hwh
          have HES : Hid (StAt w.heap.size w.heap.size gp lb cs (.slice ia s.ini.length ic) (.slice ta s.thr.length tc) (.slice wa s.thr.length wk) tvs [] w w5 { s with ini := (ws.take 0).map numV } []) := by
            show StAt _ _ _ _ _ _ _ _ _ _ _ _ _ _
            rw [es]
            exact H5.out
          clear HBS h1 h2 h3 hyc hRC es hthr hini HYN cy p1
          by_cases hbad : ws.length < 1 ∨ 8 < ws.length
          · have e0 : R0 = ⟨[], [], 4, (i : Int) + 1⟩ := by
              rw [← HR0.out]
              exact HAH.out.bad hin (HR.out.trans (HRC.out.trans (if_pos hbad))) (by decide)
            have HE0 : Hid _ := e0
            have hnb : (n : Int) < 2 ∨ ¬ (n : Int) < 2 ∧ 9 < (n : Int) := by have := HN.out; omega
            clear e0 hbad HRC HR
            rcases hnb with hnb | ⟨hnb, hnb9⟩
            · go_wp2_with (refine wpList_store_row rfl 25 _ _ rfl w.heap.size #[.slice none 0 0, .slice none 0 0] rfl rfl 25 _ H5.out.res (by kernel_rfl) (by kernel_rfl) (by kernel_rfl) ?_)
              exact bodyPost_ret (results_prg Tryd.results4 _ _ w.heap.size (.slice none 0 0) (.slice none 0 0) rfl (setP_blk H5.out.res _) (.int .i64 4) (.int .i64 ((i : Int) + 1)) rfl rfl) rfl ⟨⟨_, rfl, by rw [HE0.out]; exact prg_none _ _ _ _⟩, below_setRow H5.out.bel (Nat.le_refl _) _⟩
            · go_wp2_with (refine wpList_store_row rfl 25 _ _ rfl w.heap.size #[.slice none 0 0, .slice none 0 0] rfl rfl 25 _ H5.out.res (by kernel_rfl) (by kernel_rfl) (by kernel_rfl) ?_)
              exact bodyPost_ret (results_prg Tryd.results4 _ _ w.heap.size (.slice none 0 0) (.slice none 0 0) rfl (setP_blk H5.out.res _) (.int .i64 4) (.int .i64 ((i : Int) + 1)) rfl rfl) rfl ⟨⟨_, rfl, by rw [HE0.out]; exact prg_none _ _ _ _⟩, below_setRow H5.out.bel (Nat.le_refl _) _⟩
          · have hnb : ¬ (n : Int) < 2 := by have := HN.out; omega
            have hnb9 : ¬ 9 < (n : Int) := by have := HN.out; omega
            have hn9 : (n : Int) ≤ 9 := by omega
            have hRC2 := HR.out.trans (HRC.out.trans (if_neg hbad))
            have HRC2 : Hid _ := hRC2
            have hw8 : ws.length ≤ 8 := by omega
            have HKW0 : Hid (Blk w5 A2 9 cs2) := HWD.out.1
            clear hRC2 hbad HRC HR p0 H5
            go_wp2_with fail
            go_loopw [11] (fun i11 wr => ∃ (k : Nat) (iv : Value), i11 = .int .i64 ((k : Int) + 1) ∧ k ≤ ws.length ∧ Hid (∀ t ∈ ws.take k, numB t = true) ∧ Hid (StAt w.heap.size w.heap.size gp lb cs iv (.slice ta s.thr.length tc) (.slice wa s.thr.length wk) tvs [] w wr { s with ini := (ws.take k).map numV } []) ∧ Hid (Blk wr A2 9 cs2)) (fun i11 _ => ws.length + 1 - (intOf i11).toNat)
            case atStart => exact ⟨0, _, rfl, Nat.zero_le _, (fun z hz => by simp at hz), HES.out, HKW0.out⟩
            case round =>
              obtain ⟨k, iv, rfl, hk, HALL, HS, HKW⟩ := hrel
              have hml : ((ws.take k).map numV).length = k := by simp; omega
              obtain ⟨a1, k1, hiv⟩ := row_shape HS.out.sp.ini
              dsimp only at hiv
              rw [hml] at hiv
              subst hiv
              by_cases hkn : k < ws.length
              · have hkn' : (k : Int) + 1 < (n : Int) := by have := HN.out; omega
                have x1 : wr.cell? ⟨A2, k + 1, none⟩ = some (.string (ws.getD k ⟨#[]⟩)) := (HKW.out.cell _).trans (HWD.out.2 (k + 1) (by omega))
                have hmem : ws.getD k ⟨#[]⟩ ∈ ws := by rw [List.getD_eq_getElem?_getD, List.getElem?_eq_getElem hkn]; exact List.getElem_mem hkn
                have hxs := HWZ.out _ (List.mem_cons_of_mem _ hmem)
                have cn := specNumber (ws.getD k ⟨#[]⟩) (by omega) wr
                obtain ⟨x, hx⟩ : ∃ x, ws.getD k ⟨#[]⟩ = x := ⟨_, rfl⟩
                rw [hx] at x1 cn hmem
                have HX : Hid (ws.getD k ⟨#[]⟩ = x ∧ x ∈ ws) := ⟨hx, hmem⟩
                obtain ⟨NB, hNB⟩ : ∃ b, numB x = b := ⟨_, rfl⟩
                obtain ⟨NV, hNV⟩ : ∃ b, numV x = b := ⟨_, rfl⟩
                rw [hNB, hNV] at cn
                have HNB : Hid (numB x = NB ∧ numV x = NV) := ⟨hNB, hNV⟩
                clear hNB hNV hx hxs hmem
                cases NB
                · have e0 : R0 = ⟨[], [], 4, (i : Int) + 1⟩ := by
                    rw [← HR0.out]
                    refine HAH.out.bad hin (HRC2.out.trans (if_neg (fun h => ?_))) (by decide)
                    have := List.all_eq_true.1 h x HX.out.2
                    rw [HNB.out.1] at this
                    cases this
                  have HE0 : Hid _ := e0
                  clear e0
                  go_wp2_with (first
                    | (go_at_call 11; go_must (refine cn.mono ?_; rintro e w6 ⟨rfl, hq⟩; obtain rfl := hq.symm; clear hq))
                    | (refine wpList_store_row rfl 25 _ _ rfl w.heap.size #[.slice none 0 0, .slice none 0 0] rfl rfl 25 _ HS.out.res (by kernel_rfl) (by kernel_rfl) (by kernel_rfl) ?_))
                  exact bodyPost_ret (results_prg Tryd.results4 _ _ w.heap.size (.slice none 0 0) (.slice none 0 0) rfl (setP_blk HS.out.res _) (.int .i64 4) (.int .i64 ((i : Int) + 1)) rfl rfl) rfl ⟨⟨_, rfl, by rw [HE0.out]; exact prg_none _ _ _ _⟩, below_setRow HS.out.bel (Nat.le_refl _) _⟩
                · have hb3 : Below wr.heap.size wr (wr.alloc (.cells #[.int .i64 NV] 3)) := (Below.refl _ wr).alloc (Nat.le_refl _) _
                  have H6 : Hid (StAt w.heap.size w.heap.size gp lb cs (.slice a1 k k1) (.slice ta s.thr.length tc) (.slice wa s.thr.length wk) tvs [] w (wr.alloc (.cells #[.int .i64 NV] 3)) { s with ini := (ws.take k).map numV } []) := HS.out.go hb3
                  have HK6 : Hid (Blk (wr.alloc (.cells #[.int .i64 NV] 3)) wr.heap.size 3 #[.int .i64 NV]) := heap_alloc_last wr _
                  have HW6 : Hid (Blk (wr.alloc (.cells #[.int .i64 NV] 3)) A2 9 cs2) := HKW.out.below hb3
                  have p0 := HS.out.sp.blk.cell 0
                  simp at p0
                  clear hb3
                  go_wp2_with (first
                    | (go_at_call 11; go_must (refine cn.mono ?_; rintro e w6 ⟨rfl, hq⟩; obtain rfl := hq.symm; clear hq))
                    | (at_builtin; go_must (refine wpList_appendNumR rfl (.tmp 148) (.tmp 150) rfl w.heap.size (.slice a1 k k1) ((ws.take k).map numV) rfl H6.out.sp.ini (b := wr.heap.size) NV rfl HK6.out (by rw [hml]; omega) H6.out.sp.size ?_; intro v9 w9 hown9 hB9 hgr9 hat9; obtain ⟨a9, k9, e9⟩ := row_shape hown9; rw [List.length_append, hml] at e9; subst e9; have HW9 : Hid (Blk w9 A2 9 cs2 ∧ A2 ≠ gp) := ⟨HW6.out.kept hgr9 (Ne.symm (row_off H6.out.sp.ini HW6.out (by decide))), Blk.apart HW6.out H6.out.sp.blk (by decide)⟩; obtain ⟨hbk, H7⟩ := H6.out.growI hown9 hgr9 hat9; have g1 := hbk.cell 0; have f1 := hbk.fro 0; simp at g1)))
                  refine ⟨⟨k + 1, .slice a9 (k + 1) k9, by go_num, by omega, all_take hkn HALL.out (by rw [HX.out.1]; exact HNB.out.1), ?_, HW9.out.1.other HW9.out.2 _ _⟩, by simp [intOf]; omega⟩
                  show StAt _ _ _ _ _ _ _ _ _ _ _ _ _ _
                  rw [map_take hkn, HX.out.1, HNB.out.2]
                  exact H7
              · obtain rfl : k = ws.length := by omega
                have hkn' : ¬ (ws.length : Int) + 1 < (n : Int) := by have := HN.out; omega
                have hA := HALL.out
                rw [List.take_of_length_le (Nat.le_refl _)] at hA
                have hR3 := HRC2.out.trans (if_pos (List.all_eq_true.2 hA))
                have HN3 : Hid _ := HAH.out.next hin hR3 ((HAH.out.who.line (l := s.ln + 1) (by omega)).ini _)
                have HS3 : Hid (StAt w.heap.size w.heap.size gp lb cs (.slice a1 ws.length k1) (.slice ta s.thr.length tc) (.slice wa s.thr.length wk) tvs [] w wr { s with ini := ws.map numV } []) := by
                  have h := HS.out
                  rw [List.take_of_length_le (Nat.le_refl _)] at h
                  exact h
                clear hA hR3 HS HALL HRC2
                go_wp2_with fail
                exact ⟨⟨i + 1, _, _, _, _, _, _, by go_num, by omega, HS3.out.line (s.ln + 1) s.jmp, HN3.out⟩, by simp [intOf]; omega⟩
        case false =>
          go_upto_region 29 with fail
          go_cut [153] from 102 to 168 (fun s153 wx => s153 = .bool (b4 && b5 && b6) ∧ wx = w5)
          case first =>
            have hb4 := HBS.out.2.2.2.1
            have hb5 := HBS.out.2.2.2.2.1
            have hb6 := HBS.out.2.2.2.2.2
            cases b4
            · go_wp2_with fail
              go_meet
              exact ⟨rfl, by first | rfl | trivial⟩
            · cases b5
              · go_wp2_with fail
                go_meet
                exact ⟨rfl, by first | rfl | trivial⟩
              · cases b6
                · go_wp2_with fail
                  go_meet
                  refine ⟨?_, by first | rfl | trivial⟩
                  first | rfl | rw [hb6] | simp [hb6]
                · go_wp2_with fail
                  go_meet
                  refine ⟨?_, by first | rfl | trivial⟩
                  first | rfl | rw [hb6] | simp [hb6]
          case rest =>
          obtain ⟨rfl, hwx⟩ := hcut
          have hwx' := hwx.symm
          subst hwx'
          cases hB : (b4 && b5 && b6)
          case true =>
            as_aux_lemma =>
            --B
            simp only [Bool.and_eq_true] at hB
            obtain ⟨⟨h4, h5⟩, h6⟩ := hB
            have hyt : y = threadW := by
              have h := HBS.out.2.2.2.1
              rw [h4, show ([116, 104, 114, 101, 97, 100] : List UInt8) = threadW.toList from by rw [toList_data]; rfl, beq_bytes] at h
              exact of_decide_eq_true h
            have hws : ws = [] := by
              have h := HBS.out.2.2.2.2.1
              rw [h5, beq_iff_eq] at h
              have := HN.out
              exact List.eq_nil_of_length_eq_zero (by omega)
            have hip : ¬ s.ini.length = 0 := by
              have h := HBS.out.2.2.2.2.2
              rw [h6, decide_eq_true_iff] at h
              omega
            have hRT : wordsR { s with ln := s.ln + 1 } (y :: ws) = if s.thr.length = 4 then (10, { s with ln := s.ln + 1 }) else (0, { s with ln := s.ln + 1, thr := s.thr ++ [[]] }) := by
              subst hyt hws
              have e9 : wordsR { s with ln := s.ln + 1 } [threadW] = threadR { s with ln := s.ln + 1 } [] := by
                simp only [wordsR, if_true]
                rw [if_neg (fun h => absurd (congrArg ByteArray.size h) (by decide))]
              rw [e9]
              unfold threadR
              rw [if_neg hip, if_neg (by simp)]
            have HRT : Hid _ := hRT
            clear HBS h4 h5 h6 hyt hws hip hRT hA HWD HWZ HYN cy
            by_cases h4 : s.thr.length = 4
            · have h4' : (s.thr.length : Int) = 4 := by omega
              have e0 : R0 = ⟨[], [], 10, (i : Int) + 1⟩ := by
                rw [← HR0.out]
                exact HAH.out.bad hin (HR.out.trans (HRT.out.trans (if_pos h4))) (by decide)
              have HE0 : Hid _ := e0
              clear e0 h4 HRT HR
              go_wp2_with (refine wpList_store_row rfl 25 _ _ rfl w.heap.size #[.slice none 0 0, .slice none 0 0] rfl rfl 25 _ H5.out.res (by kernel_rfl) (by kernel_rfl) (by kernel_rfl) ?_)
              exact bodyPost_ret (results_prg Tryd.results4 _ _ w.heap.size (.slice none 0 0) (.slice none 0 0) rfl (setP_blk H5.out.res _) (.int .i64 10) (.int .i64 ((i : Int) + 1)) rfl rfl) rfl ⟨⟨_, rfl, by rw [HE0.out]; exact prg_none _ _ _ _⟩, below_setRow H5.out.bel (Nat.le_refl _) _⟩
            · have h4' : ¬ ((s.thr.length : Int) = 4) := by omega
              have hthr : (s.thr.length : Int) ≤ 4 := by omega
              have hR1 := HR.out.trans (HRT.out.trans (if_neg h4))
              have HN2 := HAH.out.next hin hR1 ((HAH.out.who.line (l := s.ln + 1) (by omega)).thread)
              have HN3 : Hid _ := HN2
              -- the new thread
              have bB : Below w5.heap.size w5 ((w5.alloc (.cells #[] 41)).alloc (.cells #[.slice (some ⟨w5.heap.size, 0, none⟩) 0 0] 37)) := ((Below.refl _ w5).alloc (Nat.le_refl _) _).alloc (by simp) _
              have kB1 : Blk ((w5.alloc (.cells #[] 41)).alloc (.cells #[.slice (some ⟨w5.heap.size, 0, none⟩) 0 0] 37)) w5.heap.size 41 #[] := Blk.below (heap_alloc_last w5 _) ((Below.refl _ _).alloc (Nat.le_refl _) _)
              have kB2 : Blk ((w5.alloc (.cells #[] 41)).alloc (.cells #[.slice (some ⟨w5.heap.size, 0, none⟩) 0 0] 37)) (w5.heap.size + 1) 37 #[.slice (some ⟨w5.heap.size, 0, none⟩) 0 0] := by
                have := heap_alloc_last (w5.alloc (.cells #[] 41)) (.cells #[.slice (some ⟨w5.heap.size, 0, none⟩) 0 0] 37)
                rwa [World.size_alloc] at this
              have HB6 : Hid (StAt w.heap.size w.heap.size gp lb cs (.slice ia s.ini.length ic) (.slice ta s.thr.length tc) (.slice wa s.thr.length wk) tvs wvs w ((w5.alloc (.cells #[] 41)).alloc (.cells #[.slice (some ⟨w5.heap.size, 0, none⟩) 0 0] 37)) s wh) := H5.out.go bB
              have HU : Hid (OwnInss w.heap.size ((w5.alloc (.cells #[] 41)).alloc (.cells #[.slice (some ⟨w5.heap.size, 0, none⟩) 0 0] 37)) (.slice (some ⟨w5.heap.size, 0, none⟩) 0 0) []) := row_empty kB1 H5.out.sp.size 10
              have HUN : Hid (∀ (i : Nat) (x : Value), tvs[i]? = some x → x.ownBlock = none ∨ x.ownBlock ≠ Value.ownBlock (.slice (some ⟨w5.heap.size, 0, none⟩) 0 0)) := fun i x hx => by
                obtain ⟨l, hl⟩ := H5.out.sp.fam.mem hx
                exact row_new hl (Nat.le_refl _)
              have HKB : Hid (Blk ((w5.alloc (.cells #[] 41)).alloc (.cells #[.slice (some ⟨w5.heap.size, 0, none⟩) 0 0] 37)) (w5.heap.size + 1) 37 #[.slice (some ⟨w5.heap.size, 0, none⟩) 0 0]) := kB2
              clear hR1 HN2 h4 bB kB1 kB2 HRT HR
              go_upto_region 33 with (at_builtin; go_must (refine wpList_appendRow rfl (.tmp 175) (.tmp 177) rfl w.heap.size (.slice ta s.thr.length tc) tvs rfl HB6.out.sp.thr (b := w5.heap.size + 1) (u := .slice (some ⟨w5.heap.size, 0, none⟩) 0 0) rfl HKB.out rfl (by rw [HFL.out]; omega) HB6.out.sp.size ?_; intro v9 w9 hown9 hB9 hgr9; obtain ⟨a9, k9, e9⟩ := row_shape hown9; rw [HFL.out] at e9; subst e9; obtain ⟨hbk, H6⟩ := HB6.out.growT hown9 hgr9 HU.out HUN.out; have g1 := hbk.cell 1; have f1 := hbk.fro 1; simp at g1))
              clear hbk g1 f1 hown9 hB9 hgr9 p0 p1
              generalize w9.setCell ⟨gp, 1, none⟩ (.slice a9 (s.thr.length + 1) k9) = w10 at H6 ⊢
              have H7 : Hid (StAt w.heap.size w.heap.size gp lb cs (.slice ia s.ini.length ic) (.slice a9 (s.thr.length + 1) k9) (.slice wa s.thr.length wk) (tvs ++ [.slice (some ⟨w5.heap.size, 0, none⟩) 0 0]) wvs w w10 { s with thr := s.thr ++ [[]] } wh) := H6
              have bB : Below w10.heap.size w10 ((w10.alloc (.cells #[] 3)).alloc (.cells #[.slice (some ⟨w10.heap.size, 0, none⟩) 0 0] 22)) := ((Below.refl _ w10).alloc (Nat.le_refl _) _).alloc (by simp) _
              have kB1 : Blk ((w10.alloc (.cells #[] 3)).alloc (.cells #[.slice (some ⟨w10.heap.size, 0, none⟩) 0 0] 22)) w10.heap.size 3 #[] := Blk.below (heap_alloc_last w10 _) ((Below.refl _ _).alloc (Nat.le_refl _) _)
              have kB2 : Blk ((w10.alloc (.cells #[] 3)).alloc (.cells #[.slice (some ⟨w10.heap.size, 0, none⟩) 0 0] 22)) (w10.heap.size + 1) 22 #[.slice (some ⟨w10.heap.size, 0, none⟩) 0 0] := by
                have := heap_alloc_last (w10.alloc (.cells #[] 3)) (.cells #[.slice (some ⟨w10.heap.size, 0, none⟩) 0 0] 22)
                rwa [World.size_alloc] at this
              have HB8 : Hid (StAt w.heap.size w.heap.size gp lb cs (.slice ia s.ini.length ic) (.slice a9 (s.thr.length + 1) k9) (.slice wa s.thr.length wk) (tvs ++ [.slice (some ⟨w5.heap.size, 0, none⟩) 0 0]) wvs w ((w10.alloc (.cells #[] 3)).alloc (.cells #[.slice (some ⟨w10.heap.size, 0, none⟩) 0 0] 22)) { s with thr := s.thr ++ [[]] } wh) := H7.out.go bB
              have HU2 : Hid (OwnNums w.heap.size ((w10.alloc (.cells #[] 3)).alloc (.cells #[.slice (some ⟨w10.heap.size, 0, none⟩) 0 0] 22)) (.slice (some ⟨w10.heap.size, 0, none⟩) 0 0) []) := row_empty kB1 H7.out.sp.size 1
              have HUN2 : Hid (∀ (j : Nat) (x : Value), (Value.slice ia s.ini.length ic :: wvs)[j]? = some x → x.ownBlock = none ∨ x.ownBlock ≠ Value.ownBlock (.slice (some ⟨w10.heap.size, 0, none⟩) 0 0)) := fun j x hx => by
                obtain ⟨l, hl⟩ := H7.out.sp.num.mem hx
                exact row_new hl (Nat.le_refl _)
              have HKB2 : Hid (Blk ((w10.alloc (.cells #[] 3)).alloc (.cells #[.slice (some ⟨w10.heap.size, 0, none⟩) 0 0] 22)) (w10.heap.size + 1) 22 #[.slice (some ⟨w10.heap.size, 0, none⟩) 0 0]) := kB2
              clear bB kB1 kB2 H6 HB6 HU HUN HKB H5
              go_wp2_with (at_builtin; go_must (refine wpList_appendLns rfl (.tmp 180) (.tmp 182) rfl w.heap.size (.slice wa s.thr.length wk) wvs rfl HB8.out.sp.whr (b := w10.heap.size + 1) (u := .slice (some ⟨w10.heap.size, 0, none⟩) 0 0) rfl HKB2.out rfl (by rw [HWL.out]; omega) HB8.out.sp.size ?_; intro v11 w11 hown11 hB11 hgr11; obtain ⟨a11, k11, e11⟩ := row_shape hown11; rw [HWL.out] at e11; subst e11; have H12 : Hid _ := HB8.out.growW hown11 hgr11 HU2.out HUN2.out))
              exact ⟨⟨i + 1, _, _, _, _, _, _, by go_num, by omega, H12.out.line (s.ln + 1) s.jmp, HN3.out⟩, by simp [intOf]; omega⟩
          case false =>
            as_aux_lemma =>
            --C
            have hRI : wordsR { s with ln := s.ln + 1 } (y :: ws) = instrR { s with ln := s.ln + 1 } (y :: ws) := by
              refine line_else (s := { s with ln := s.ln + 1 }) HAH.out.fst ?_ ?_
              · rintro ⟨e1, e2, e3⟩
                have h1 : b1 = true := by
                  rw [← HBS.out.1, show ([99, 101, 108, 108, 115] : List UInt8) = cellsW.toList from by rw [toList_data]; rfl, beq_bytes]
                  exact decide_eq_true e1
                have h2 : b2 = true := by
                  rw [← HBS.out.2.1, beq_iff_eq]
                  exact Int.ofNat_eq_zero.2 e2
                have h3 : b3 = true := by
                  rw [← HBS.out.2.2.1, beq_iff_eq]
                  exact Int.ofNat_eq_zero.2 e3
                rw [h1, h2, h3] at hA
                cases hA
              · rintro ⟨e1, e2, e3⟩
                have h1 : b4 = true := by
                  rw [← HBS.out.2.2.2.1, show ([116, 104, 114, 101, 97, 100] : List UInt8) = threadW.toList from by rw [toList_data]; rfl, beq_bytes]
                  exact decide_eq_true e1
                have h2 : b5 = true := by
                  have := HN.out
                  rw [← HBS.out.2.2.2.2.1, beq_iff_eq]
                  omega
                have h3 : b6 = true := by
                  rw [← HBS.out.2.2.2.2.2]
                  exact decide_eq_true e3
                rw [h1, h2, h3] at hB
                cases hB
            have hRF : instrR { s with ln := s.ln + 1 } (y :: ws) = instrF { s with ln := s.ln + 1 } s.thr.getLast? (insI (y :: ws) s.ini.length) := rfl
            have cc := specRead (y :: ws) A2 0 cap2 s.ini.length w5 (by simp) (by have := HN.out; simp only [List.length_cons]; omega) HWZ.out hi8 HYN.out (fun j hj => by rw [Nat.zero_add, HWD.out.1.cell]; exact HWD.out.2 j hj)
            rw [show (y :: ws).length = n from HN.out.symm] at cc
            obtain ⟨I, hI⟩ : ∃ I, insI (y :: ws) s.ini.length = I := ⟨_, rfl⟩
            rw [hI] at cc hRF
            have HRI : Hid (readR { s with ln := s.ln + 1 } ls[i] = instrF { s with ln := s.ln + 1 } s.thr.getLast? I) := HR.out.trans (hRI.trans hRF)
            have hi8' : (s.ini.length : Int) ≤ 8 := by omega
            clear HBS hA hB hRI hRF hI HR cy HWD HWZ HYN p1
            go_upto_region 13 with (first
              | (go_at_call 12; go_must (refine cc.mono ?_; rintro e w6 ⟨hx, hb6⟩; obtain ⟨x, b, rfl, hxb, hx⟩ := hx))
              | (refine wpList_store_row rfl 41 _ _ rfl w6.heap.size (insC x) rfl rfl 41 _ (heap_alloc_last _ _) (by first | kernel_rfl | rfl) (by first | kernel_rfl | rfl) (by first | kernel_rfl | rfl) ?_; rw [World.setRow_alloc_new]))
            (try simp only [Act.put])
            have kX : Blk (w6.alloc (.cells (insC x) 41)) w6.heap.size 41 (insC x) := heap_alloc_last w6 _
            have bX : Below w6.heap.size w6 (w6.alloc (.cells (insC x) 41)) := (Below.refl _ w6).alloc (Nat.le_refl _) _
            have H6 : Hid (StAt w.heap.size w.heap.size gp lb cs (.slice ia s.ini.length ic) (.slice ta s.thr.length tc) (.slice wa s.thr.length wk) tvs wvs w w6 s wh) := H5.out.go hb6
            have HVY : Hid (∀ (i : Nat) (v : Value), tvs[i]? = some v → ∀ k, v.ownBlock = some k → k < w6.heap.size) := fun i v hv k hk => by
              obtain ⟨l, hl⟩ := H6.out.sp.fam.mem hv
              exact (hl.lt k hk).2
            have H7 : Hid (StAt w.heap.size w.heap.size gp lb cs (.slice ia s.ini.length ic) (.slice ta s.thr.length tc) (.slice wa s.thr.length wk) tvs wvs w (w6.alloc (.cells (insC x) 41)) s wh) := H6.out.go bX
            generalize w6.alloc (.cells (insC x) 41) = w7 at kX bX H7 ⊢
            generalize w6.heap.size = gx at kX bX HVY ⊢
            have HKX : Hid (Blk w7 gx 41 (insC x)) := kX
            clear kX bX H5 H6 hb6 cc p0
            cases I with
            | none =>
              have e0 : R0 = ⟨[], [], 4, (i : Int) + 1⟩ := by
                rw [← HR0.out]
                exact HAH.out.bad hin (HRI.out.trans (instrF_none _ _)) (by decide)
              have HE0 : Hid _ := e0
              have hbf : b = false := hxb
              subst hbf
              clear e0 hx hxb HRI
              go_wp2_with (refine wpList_store_row rfl 25 _ _ rfl w.heap.size #[.slice none 0 0, .slice none 0 0] rfl rfl 25 _ H7.out.res (by kernel_rfl) (by kernel_rfl) (by kernel_rfl) ?_)
              exact bodyPost_ret (results_prg Tryd.results4 _ _ w.heap.size (.slice none 0 0) (.slice none 0 0) rfl (setP_blk H7.out.res _) (.int .i64 4) (.int .i64 ((i : Int) + 1)) rfl rfl) rfl ⟨⟨_, rfl, by rw [HE0.out]; exact prg_none _ _ _ _⟩, below_setRow H7.out.bel (Nat.le_refl _) _⟩
            | some x2 =>
              have hxx2 := hx x2 rfl
              subst hxx2
              have hbt : b = true := hxb
              subst hbt
              clear hx hxb
              rcases List.eq_nil_or_concat s.thr with hth | ⟨th, c, hth⟩
              · have e0 : R0 = ⟨[], [], 4, (i : Int) + 1⟩ := by
                  rw [← HR0.out]
                  exact HAH.out.bad hin (HRI.out.trans (by rw [hth]; rfl)) (by decide)
                have HE0 : Hid _ := e0
                have h30 : ((s.thr.length : Int) == 0) = true := by rw [hth]; rfl
                clear e0 HRI hth
                go_wp2_with (refine wpList_store_row rfl 25 _ _ rfl w.heap.size #[.slice none 0 0, .slice none 0 0] rfl rfl 25 _ H7.out.res (by kernel_rfl) (by kernel_rfl) (by kernel_rfl) ?_)
                exact bodyPost_ret (results_prg Tryd.results4 _ _ w.heap.size (.slice none 0 0) (.slice none 0 0) rfl (setP_blk H7.out.res _) (.int .i64 4) (.int .i64 ((i : Int) + 1)) rfl rfl) rfl ⟨⟨_, rfl, by rw [HE0.out]; exact prg_none _ _ _ _⟩, below_setRow H7.out.bel (Nat.le_refl _) _⟩
              · rw [List.concat_eq_append] at hth
                have HTH : Hid (s.thr = th ++ [c]) := hth
                have htl : s.thr.length = th.length + 1 := by rw [hth]; simp
                obtain ⟨ts, v, htv⟩ : ∃ ts v, tvs = ts ++ [v] := by
                  rcases List.eq_nil_or_concat tvs with e | ⟨ts, v, e⟩
                  · have := HFL.out; rw [e, htl] at this; simp at this
                  · exact ⟨ts, v, by rw [e, List.concat_eq_append]⟩
                subst htv
                obtain ⟨us, u, huv⟩ : ∃ us u, wvs = us ++ [u] := by
                  rcases List.eq_nil_or_concat wvs with e | ⟨ts, v, e⟩
                  · have := HWL.out; rw [e, htl] at this; simp at this
                  · exact ⟨ts, v, by rw [e, List.concat_eq_append]⟩
                subst huv
                obtain ⟨wt, r, hwr⟩ : ∃ wt r, wh = wt ++ [r] := by
                  rcases List.eq_nil_or_concat wh with e | ⟨ts, v, e⟩
                  · have := HAH.out.who.len; rw [e, htl] at this; simp at this
                  · exact ⟨ts, v, by rw [e, List.concat_eq_append]⟩
                subst hwr
                have hts : ts.length = th.length := by have := HFL.out; rw [htl] at this; simpa using this
                have hus : us.length = ts.length := by have := HWL.out; rw [htl] at this; simp at this; omega
                have hwt : wt.length = th.length := by have := HAH.out.who.len; rw [htl] at this; simpa using this
                have hrl : r.length = c.length := HAH.out.who.lens th.length c r (by rw [hth]; simp) (by rw [← hwt]; simp)
                have htl2 : s.thr.length = ts.length + 1 := by omega
                have HTS : Hid (ts.length = th.length ∧ us.length = ts.length ∧ wt.length = th.length ∧ r.length = c.length) := ⟨hts, hus, hwt, hrl⟩
                have hts4 : ts.length + 1 ≤ 4 := by omega
                have h30 : (((ts.length + 1 : Nat) : Int) == 0) = false := by rw [beq_eq_false_iff_ne]; omega
                have hm1 : ((ts.length + 1 : Nat) : Int) - 1 = (ts.length : Int) := by omega
                have hm1' : (ts.length : Int) + 1 - 1 = (ts.length : Int) := by omega
                have hts4' : (ts.length : Int) + 1 ≤ 4 := by omega
                have hc40 : c.length ≤ 40 := HAH.out.fit.cod c (by rw [hth]; simp)
                have hc40' : (c.length : Int) ≤ 40 := by omega
                have hgl : s.thr.getLast? = some c := by rw [hth]; simp
                have hdl : s.thr.dropLast = th := by rw [hth]; simp
                have hR2 := HRI.out
                rw [hgl] at hR2
                have HR2 : Hid (readR { s with ln := s.ln + 1 } ls[i] = instrF { s with ln := s.ln + 1 } (some c) (some x)) := hR2
                have HDL : Hid (s.thr.dropLast = th) := hdl
                simp only [htl2] at H7 ⊢
                clear hR2 hgl hdl htl htl2 hts hus hwt hrl hth HRI hi8 ht4 hi8'
                have p1 := H7.out.sp.blk.cell 1
                simp at p1
                obtain ⟨tg, cap9, etv, hBt, htg, hct, -⟩ := row_cell (B := w.heap.size) (n := ts.length + 1) (by have := H7.out.sp.thr; rw [List.length_append] at this; exact this) (Nat.succ_pos _)
                injection etv with eta _ etc
                subst eta etc
                obtain ⟨d1, -⟩ := hct ts.length (by omega)
                simp at d1
                have how : OwnInss w.heap.size w7 v c := H7.out.sp.fam.own ts.length v c (by simp) (by rw [HTH.out, HTS.out.1]; simp)
                obtain ⟨va, vc, ev⟩ := row_shape how
                have HVX : Hid (∀ k, v.ownBlock = some k → k < gx) := HVY.out ts.length v (by simp)
                subst ev
                have HOW : Hid (OwnInss w.heap.size w7 (.slice va c.length vc) c) := how
                have HTB : Hid (∃ cur, Blk w7 tg 37 cur) := row_blk (n := ts.length + 1) (g := tg) (cap := tc) (by have := H7.out.sp.thr; rw [List.length_append] at this; exact this) rfl
                clear hct how HVY
                by_cases hcl : c.length = 40
                · have e0 : R0 = ⟨[], [], 10, (i : Int) + 1⟩ := by
                    rw [← HR0.out]
                    exact HAH.out.bad hin (HR2.out.trans (if_pos hcl)) (by decide)
                  have HE0 : Hid _ := e0
                  simp only [hcl] at d1
                  clear e0 HR2
                  go_wp2_with (refine wpList_store_row rfl 25 _ _ rfl w.heap.size #[.slice none 0 0, .slice none 0 0] rfl rfl 25 _ H7.out.res (by kernel_rfl) (by kernel_rfl) (by kernel_rfl) ?_)
                  exact bodyPost_ret (results_prg Tryd.results4 _ _ w.heap.size (.slice none 0 0) (.slice none 0 0) rfl (setP_blk H7.out.res _) (.int .i64 10) (.int .i64 ((i : Int) + 1)) rfl rfl) rfl ⟨⟨_, rfl, by rw [HE0.out]; exact prg_none _ _ _ _⟩, below_setRow H7.out.bel (Nat.le_refl _) _⟩
                · as_aux_lemma =>
                  have hcl' : ¬ ((c.length : Int) = 40) := by omega
                  have hR3 : readR { s with ln := s.ln + 1 } ls[i] = (0, growR { s with ln := s.ln + 1 } th c x) := by
                    rw [HR2.out]
                    show (if c.length = 40 then _ else (0, growR { s with ln := s.ln + 1 } s.thr.dropLast c x)) = _
                    rw [if_neg hcl, HDL.out]
                  have hln := HAH.out.ln hi
                  have HN3 : Hid _ := HAH.out.next hin hR3 ((HAH.out.who.line (l := s.ln + 1) (by omega)).instr HTH.out (fun j hj => by have := (HAH.out.who.upto j hj).2; show j.ln < s.ln + 1; omega) (by show 1 ≤ s.ln + 1; omega) x)
                  have HLN : Hid (s.ln = (i : Int)) := hln
                  clear hR3 hcl hln HR2 HDL
                  go_upto_region 17 with fail
                  have hm2 : (ts.length : Int) < (ts.length : Int) + 1 := by omega
                  have hmw : IntKind.i64.wrap (ts.length : Int) = (ts.length : Int) := wrap_i64r _ (by omega) (by omega)
                  have KP : Hid (∀ V, Below w7.heap.size w7 V → V.cell? ⟨gp, 1, none⟩ = some (.slice (some ⟨tg, 0, none⟩) (ts.length + 1) tc) ∧ V.cell? ⟨tg, ts.length, none⟩ = some (.slice va c.length vc) ∧ Blk V gx 41 (insC x)) := fun V hV => ⟨(hV.cell (World.block_lt_of_cell? _ _ p1)).trans p1, (hV.cell (World.block_lt_of_cell? _ _ d1)).trans d1, HKX.out.below hV⟩
                  clear p1 d1
                  refine wp_region_last (S := (fun w' => w'.cell? ⟨gp, 1, none⟩ = some (.slice (some ⟨tg, 0, none⟩) (ts.length + 1) tc) ∧ w'.cell? ⟨tg, ts.length, none⟩ = some (.slice va c.length vc) ∧ Blk w' gx 41 (insC x))) 14 (by kernel_rfl) rfl (by kernel_rfl) (KP.out _ (Below.refl _ _).drew) (fun hHeld => ?_)
                  simp only [List.take_succ_cons, List.take_zero]
                  refine wpAnyH_take (i := 0) (v := ?_) rfl (by kernel_rfl) (by kernel_rfl) (by kernel_rfl) (fun _ _ _ h => h) (Or.inl ⟨by rfl, ?_⟩) (by assumption) ?_
                  rotate_left 1
                  · (intro w' hSw; (try dsimp only at hSw); go_simp; all_goals with_reducible rfl)
                  (try simp only [List.getElem_toArray, List.getElem_cons_succ, List.getElem_cons_zero, Act.put, List.setIfInBounds_toArray, List.set_cons_zero, List.set_cons_succ])
                  refine wpAnyH_take (i := 1) (v := ?_) rfl (by kernel_rfl) (by kernel_rfl) (by kernel_rfl) (fun _ _ _ h => h) (Or.inl ⟨by rfl, ?_⟩) (by assumption) ?_
                  rotate_left 1
                  · (intro w' hSw; (try dsimp only at hSw); go_simp; all_goals with_reducible rfl)
                  (try simp only [List.getElem_toArray, List.getElem_cons_succ, List.getElem_cons_zero, Act.put, List.setIfInBounds_toArray, List.set_cons_zero, List.set_cons_succ])
                  refine wpAnyH_take (i := 2) (v := ?_) rfl (by kernel_rfl) (by kernel_rfl) (by kernel_rfl) (fun _ _ _ h => h) (Or.inl ⟨by rfl, ?_⟩) (by assumption) ?_
                  rotate_left 1
                  · (intro w' hSw; (try dsimp only at hSw); go_simp; all_goals with_reducible rfl)
                  (try simp only [List.getElem_toArray, List.getElem_cons_succ, List.getElem_cons_zero, Act.put, List.setIfInBounds_toArray, List.set_cons_zero, List.set_cons_succ])
                  refine wpAnyH_take (i := 3) (v := ?_) rfl (by kernel_rfl) (by kernel_rfl) (by kernel_rfl) (fun _ _ _ h => h) (Or.inl ⟨by rfl, ?_⟩) (by assumption) ?_
                  rotate_left 1
                  · (intro w' hSw; (try dsimp only at hSw); go_simp; all_goals with_reducible rfl)
                  (try simp only [List.getElem_toArray, List.getElem_cons_succ, List.getElem_cons_zero, Act.put, List.setIfInBounds_toArray, List.set_cons_zero, List.set_cons_succ])
                  refine wpAnyH_take (i := 4) (v := ?_) rfl (by kernel_rfl) (by kernel_rfl) (by kernel_rfl) (fun _ _ _ h => h) (Or.inl ⟨by rfl, ?_⟩) (by assumption) ?_
                  rotate_left 1
                  · (intro w' hSw; (try dsimp only at hSw); go_simp; all_goals with_reducible rfl)
                  (try simp only [List.getElem_toArray, List.getElem_cons_succ, List.getElem_cons_zero, Act.put, List.setIfInBounds_toArray, List.set_cons_zero, List.set_cons_succ])
                  refine wpAnyH_take (i := 5) (v := ?_) rfl (by kernel_rfl) (by kernel_rfl) (by kernel_rfl) (fun _ _ _ h => h) (Or.inl ⟨by rfl, ?_⟩) (by assumption) ?_
                  rotate_left 1
                  · (intro w' hSw; (try dsimp only at hSw); go_simp; all_goals with_reducible rfl)
                  (try simp only [List.getElem_toArray, List.getElem_cons_succ, List.getElem_cons_zero, Act.put, List.setIfInBounds_toArray, List.set_cons_zero, List.set_cons_succ])
                  refine wpAnyH_take (i := 6) (v := ?_) rfl (by kernel_rfl) (by kernel_rfl) (by kernel_rfl) (fun _ _ _ h => h) (Or.inl ⟨by rfl, ?_⟩) (by assumption) ?_
                  rotate_left 1
                  · (intro w' hSw; (try dsimp only at hSw); go_simp; all_goals with_reducible rfl)
                  (try simp only [List.getElem_toArray, List.getElem_cons_succ, List.getElem_cons_zero, Act.put, List.setIfInBounds_toArray, List.set_cons_zero, List.set_cons_succ])
                  refine wpAnyH_take (i := 7) (v := ?_) rfl (by kernel_rfl) (by kernel_rfl) (by kernel_rfl) (fun _ _ _ h => h) (Or.inl ⟨by rfl, ?_⟩) (by assumption) ?_
                  rotate_left 1
                  · (intro w' hSw; (try dsimp only at hSw); go_simp; all_goals with_reducible rfl)
                  (try simp only [List.getElem_toArray, List.getElem_cons_succ, List.getElem_cons_zero, Act.put, List.setIfInBounds_toArray, List.set_cons_zero, List.set_cons_succ])
                  refine wpAnyH_take (i := 8) (v := ?_) rfl (by kernel_rfl) (by kernel_rfl) (by kernel_rfl) (fun _ _ _ h => h) (Or.inl ⟨by rfl, ?_⟩) (by assumption) ?_
                  rotate_left 1
                  · (intro w' hSw; (try dsimp only at hSw); go_simp; all_goals with_reducible rfl)
                  (try simp only [List.getElem_toArray, List.getElem_cons_succ, List.getElem_cons_zero, Act.put, List.setIfInBounds_toArray, List.set_cons_zero, List.set_cons_succ])
                  refine wpAnyH_take (i := 9) (v := ?_) rfl (by kernel_rfl) (by kernel_rfl) (by kernel_rfl) (fun _ _ _ h => h) (Or.inl ⟨by rfl, ?_⟩) (by assumption) ?_
                  rotate_left 1
                  · (intro w' hSw; (try dsimp only at hSw); go_simp; all_goals with_reducible rfl)
                  (try simp only [List.getElem_toArray, List.getElem_cons_succ, List.getElem_cons_zero, Act.put, List.setIfInBounds_toArray, List.set_cons_zero, List.set_cons_succ])
                  refine wpAnyH_take (i := 10) (v := insV x) rfl (by kernel_rfl) (by kernel_rfl) (by kernel_rfl) (fun _ _ _ h => h) (Or.inl ⟨by rfl, ?_⟩) (by assumption) ?_
                  · (intro w' hSw; exact run_load_ins rfl (by simp [Act.eval]) hSw.2.2)
                  (try simp only [List.getElem_toArray, List.getElem_cons_succ, List.getElem_cons_zero, Act.put, List.setIfInBounds_toArray, List.set_cons_zero, List.set_cons_succ])
                  have hbd : Below w7.heap.size w7 w7.drew := (Below.refl _ _).drew
                  have hba : Below w7.heap.size w7 (w7.drew.alloc (.cells (insC x) 41)) := hbd.alloc hbd.size _
                  have HD := H7.out.go hba
                  have HKI : Blk (w7.drew.alloc (.cells (insC x) 41)) w7.heap.size 41 (insC x) := heap_alloc_last w7.drew _
                  have hxg : some gp ≠ (Value.slice va c.length vc).ownBlock := Ne.symm (row_off HOW.out H7.out.sp.blk (by decide))
                  have hxt : some tg ≠ (Value.slice va c.length vc).ownBlock := by
                    obtain ⟨cur, hbt⟩ := HTB.out
                    exact Ne.symm (row_off HOW.out hbt (by decide))
                  have hxx : some gx ≠ (Value.slice va c.length vc).ownBlock := fun e => by have := HVX.out _ e.symm; omega
                  have how : OwnInss w.heap.size (w7.drew.alloc (.cells (insC x) 41)) (.slice va c.length vc) c := HD.sp.fam.own ts.length _ c (by simp) (by rw [HTH.out, HTS.out.1]; simp)
                  refine wpAnyH_ready (rs := [11]) (by kernel_rfl) (by simp) ?_
                  refine AllReadyH.cons rfl (fun K hK => ?_) AllReadyH.nil
                  refine step_buildIns rfl x (.tmp 85) rfl (by simp [Act.eval]) ?_
                  refine hK.out _ _ ?_ (fun hHeld => ?_)
                  · exact KP.out _ hba
                  clear hK K
                  (try simp only [List.getElem_toArray, List.getElem_cons_succ, List.getElem_cons_zero, Act.put, List.setIfInBounds_toArray, List.set_cons_zero, List.set_cons_succ])
                  refine wpAnyH_ready (rs := [12]) (by kernel_rfl) (by simp) ?_
                  refine AllReadyH.cons rfl (fun K hK => ?_) AllReadyH.nil
                  refine step_appendIns rfl (.tmp 84) (.tmp 86) rfl w.heap.size (.slice va c.length vc) c (by simp [Act.eval]) how w7.heap.size x (by simp [Act.eval]) HKI (by omega) HD.sp.size ?_
                  intro va9 vn9 vc9 w9 hown9 hB9 hgr9 hat9
                  refine hK.out _ _ ?_ (fun hHeld => ?_)
                  · exact ⟨hgr9.cell hHeld.1 hxg, hgr9.cell hHeld.2.1 hxt, hHeld.2.2.kept hgr9 hxx⟩
                  clear hK K
                  (try simp only [List.getElem_toArray, List.getElem_cons_succ, List.getElem_cons_zero, Act.put, List.setIfInBounds_toArray, List.set_cons_zero, List.set_cons_succ])
                  refine wpAnyH_take (i := 13) (v := ?_) rfl (by kernel_rfl) (by kernel_rfl) (by kernel_rfl) (fun _ _ _ h => h) (Or.inl ⟨by rfl, ?_⟩) (by assumption) ?_
                  rotate_left 1
                  · (intro w' hSw; (try dsimp only at hSw); go_simp; all_goals with_reducible rfl)
                  (try simp only [List.getElem_toArray, List.getElem_cons_succ, List.getElem_cons_zero, Act.put, List.setIfInBounds_toArray, List.set_cons_zero, List.set_cons_succ])
                  have HG := HD.growL HTH.out hown9 hgr9 hat9
                  obtain ⟨tg9, cp9, HG⟩ := HG
                  have e9 : tg9 = tg := by
                    have et9 := HG.1
                    simp only [Value.slice.injEq, Option.some.injEq, Addr.mk.injEq] at et9
                    exact et9.1.1.symm
                  have hc9 := HG.2.2.2.1
                  have hf9 := HG.2.2.2.2.1
                  have H8 := HG.2.2.2.2.2
                  clear HG
                  subst tg9
                  have H9 : Hid (StAt w.heap.size w.heap.size gp lb cs (.slice ia s.ini.length ic) (.slice (some ⟨tg, 0, none⟩) (ts.length + 1) tc) (.slice wa (ts.length + 1) wk) (ts ++ [.slice va9 vn9 vc9]) (us ++ [u]) w (w9.setCell ⟨tg, ts.length, none⟩ (.slice va9 vn9 vc9)) { s with thr := th ++ [c ++ [x]] } (wt ++ [r])) := H8
                  clear H8 HD how HKI hba hbd hxg hxt hxx hgr9 hat9 hown9 hB9 H7 KP HOW HTB HVX HKX
                  refine wpAnyH_done (by kernel_rfl) ?_ _
                  show Oper.wp _ _ _ _ _ _
                  unfold Oper.wp
                  go_simp
                  go_upto_region 18 with fail
                  clear hc9 hf9 hHeld
                  generalize w9.setCell ⟨tg, ts.length, none⟩ (.slice va9 vn9 vc9) = wL at H9 ⊢
                  -- the lines
                  obtain ⟨wg, cap8, ewv, hBw, hwg, hcw, -⟩ := row_cell (B := w.heap.size) (n := ts.length + 1) (by have := H9.out.sp.whr; rw [List.length_append, HTS.out.2.1] at this; exact this) (Nat.succ_pos _)
                  injection ewv with eta _ etc
                  subst eta etc
                  obtain ⟨d1, f1⟩ := hcw ts.length (by omega)
                  have hul : (us ++ [u])[ts.length]? = some u := by rw [← HTS.out.2.1]; simp
                  rw [hul] at d1
                  have hou : OwnNums w.heap.size wL u r := H9.out.sp.num.own (us.length + 1) u r (by simp) (by rw [show us.length = wt.length by have := HTS.out; omega]; simp)
                  obtain ⟨ua, uc, eu⟩ := row_shape hou
                  subst eu
                  have hrl40 : r.length ≤ 40 := by rw [HTS.out.2.2.2]; exact hc40
                  have hrl40' : (r.length : Int) ≤ 40 := by omega
                  have bL : Below wL.heap.size wL (wL.alloc (.cells #[.int .i64 ((i : Int) + 1)] 3)) := (Below.refl _ wL).alloc (Nat.le_refl _) _
                  have HKL : Hid (Blk (wL.alloc (.cells #[.int .i64 ((i : Int) + 1)] 3)) wL.heap.size 3 #[.int .i64 ((i : Int) + 1)]) := heap_alloc_last wL _
                  have H10 : Hid (StAt w.heap.size w.heap.size gp lb cs (.slice ia s.ini.length ic) (.slice (some ⟨tg, 0, none⟩) (ts.length + 1) tc) (.slice (some ⟨wg, 0, none⟩) (ts.length + 1) wk) (ts ++ [.slice va9 vn9 vc9]) (us ++ [.slice ua r.length uc]) w (wL.alloc (.cells #[.int .i64 ((i : Int) + 1)] 3)) { s with thr := th ++ [c ++ [x]] } (wt ++ [r])) := H9.out.go bL
                  have HOU : Hid (OwnNums w.heap.size (wL.alloc (.cells #[.int .i64 ((i : Int) + 1)] 3)) (.slice ua r.length uc) r) := row_below hou bL
                  clear hcw hul hou bL H9 f1
                  go_wp2_with (at_builtin; go_must (refine wpList_appendNumR rfl (.tmp 96) (.tmp 99) rfl w.heap.size (.slice ua r.length uc) r rfl HOU.out (b := wL.heap.size) ((i : Int) + 1) rfl HKL.out (by omega) H10.out.sp.size ?_; intro v11 w11 hown11 hB11 hgr11 hat11; obtain ⟨a11, k11, e11⟩ := row_shape hown11; subst e11; obtain ⟨tg8, cp8, HG⟩ := H10.out.growN hown11 hgr11 hat11; have e8 : tg8 = wg := (by have et9 := HG.1; simp only [Value.slice.injEq, Option.some.injEq, Addr.mk.injEq] at et9; exact et9.1.1.symm); subst e8; have hc8 := HG.2.2.2.1; have hf8 := HG.2.2.2.2.1; have H11 : Hid _ := HG.2.2.2.2.2; rw [HTS.out.2.1] at hc8 hf8; clear HG))
                  refine ⟨⟨i + 1, .slice ia s.ini.length ic, .slice (some ⟨tg, 0, none⟩) (ts.length + 1) tc, ts ++ [.slice va9 vn9 vc9], us ++ [.slice a11 (r.length + 1) k11], _, _, by go_num, by omega, ?_, HN3.out⟩, by simp [intOf]; omega⟩
                  show StAt _ _ _ _ _ _ _ _ _ _ _ _ _ _
                  have h := H11.out.line (s.ln + 1) (growR { s with ln := s.ln + 1 } th c x).jmp
                  rw [HTS.out.2.1] at h
                  rw [HLN.out] at h ⊢
                  simp only [List.length_append, List.length_cons, List.length_nil, Nat.zero_add] at h
                  exact h
    · as_aux_lemma =>
      obtain rfl : i = ls.length := by omega
      have hin' : ¬ ((ls.length : Int) < (ls.length : Int)) := by omega
      have hR0 : R0 = outR s := by
        have h := HAH.out.run
        rw [List.take_of_length_le (Nat.le_refl _)] at h
        rw [← HR0.out, h]
        rfl
      have HRO : Hid (R0 = outR s) := hR0
      have hln := HAH.out.ln hi
      have HLN : Hid (s.ln = (ls.length : Int)) := hln
      have p1 := HST.out.sp.blk.cell 1
      simp at p1
      have hthr4 : (s.thr.length : Int) ≤ 4 := by omega
      clear hR0 hln
      by_cases h0 : s.thr.length = 0
      · have e0 : R0 = ⟨[], [], 4, (ls.length : Int)⟩ := by rw [HRO.out, outR_none h0, HLN.out]
        have HE0 : Hid _ := e0
        have h0' : ((s.thr.length : Int) == 0) = true := by rw [beq_iff_eq]; omega
        clear e0 h0 HRO
        go_wp2_with (refine wpList_store_row rfl 25 _ _ rfl w.heap.size #[.slice none 0 0, .slice none 0 0] rfl rfl 25 _ HST.out.res (by kernel_rfl) (by kernel_rfl) (by kernel_rfl) ?_)
        exact bodyPost_ret (results_prg Tryd.results4 _ _ w.heap.size (.slice none 0 0) (.slice none 0 0) rfl (setP_blk HST.out.res _) (.int .i64 4) (.int .i64 (ls.length : Int)) rfl rfl) rfl ⟨⟨_, rfl, by rw [HE0.out]; exact prg_none _ _ _ _⟩, below_setRow HST.out.bel (Nat.le_refl _) _⟩
      · have h0' : ((s.thr.length : Int) == 0) = false := by rw [beq_eq_false_iff_ne]; omega
        have H00 : Hid (s.thr.length ≠ 0) := h0
        clear h0
        go_wp2_with fail
        go_loopw [16, 17] (fun i16 i17 wr => ∃ (j : Nat) (M : Int), i16 = .int .i64 M ∧ i17 = .int .i64 (j : Int) ∧ j ≤ s.thr.length ∧ Hid (LeastUp s wh j 0 M) ∧ Hid (StAt w.heap.size w.heap.size gp lb cs (.slice ia s.ini.length ic) (.slice ta s.thr.length tc) (.slice wa s.thr.length wk) tvs wvs w wr s wh)) (fun _ i17 _ => s.thr.length - (intOf i17).toNat)
        case atStart => exact ⟨0, 0, rfl, rfl, Nat.zero_le _, LeastUp.start, HST.out⟩
        case round =>
          obtain ⟨j, M, rfl, rfl, hj, HLU, HS⟩ := hrel
          have p1 := HS.out.sp.blk.cell 1
          simp at p1
          by_cases hjn : j < s.thr.length
          · have hjn' : (j : Int) < (s.thr.length : Int) := by omega
            obtain ⟨c, hc⟩ : ∃ c, s.thr[j]? = some c := ⟨_, List.getElem?_eq_getElem hjn⟩
            have hwl2 : wh.length = s.thr.length := HAH.out.who.len
            obtain ⟨r, hr⟩ : ∃ r, wh[j]? = some r := ⟨_, List.getElem?_eq_getElem (by omega)⟩
            have hrc := HAH.out.who.lens j c r hc hr
            have hc40 : c.length ≤ 40 := HAH.out.fit.cod c (List.mem_of_getElem? hc)
            have hc40' : (c.length : Int) ≤ 40 := by omega
            have HC : Hid (s.thr[j]? = some c ∧ wh[j]? = some r ∧ r.length = c.length) := ⟨hc, hr, hrc⟩
            clear hc hr hrc
            go_wp2_with fail
            go_loopw [16, 18] (fun i16 i18 wr => ∃ (k : Nat) (M : Int), i16 = .int .i64 M ∧ i18 = .int .i64 (k : Int) ∧ k ≤ c.length ∧ Hid (LeastUp s wh j k M) ∧ Hid (StAt w.heap.size w.heap.size gp lb cs (.slice ia s.ini.length ic) (.slice ta s.thr.length tc) (.slice wa s.thr.length wk) tvs wvs w wr s wh)) (fun _ i18 _ => c.length - (intOf i18).toNat)
            case atStart => exact ⟨0, M, rfl, rfl, Nat.zero_le _, HLU.out, HS.out⟩
            case round =>
              obtain ⟨k, M, rfl, rfl, hk, HLU, HS⟩ := hrel
              have p1 := HS.out.sp.blk.cell 1
              simp at p1
              -- the thread's row
              obtain ⟨tg, cap9, etv, hBt, htg, hct, -⟩ := row_cell (B := w.heap.size) (n := tvs.length) HS.out.sp.thr (by rw [HFL.out]; omega)
              obtain ⟨hta, htc⟩ : ta = some ⟨tg, 0, none⟩ ∧ tc = cap9 := by
                injection etv with e1 _ e3
                exact ⟨e1, e3⟩
              subst hta htc
              obtain ⟨v, hv⟩ : ∃ v, tvs[j]? = some v := ⟨_, List.getElem?_eq_getElem (by rw [HFL.out]; exact hjn)⟩
              have d1 := (hct j (by rw [HFL.out]; exact hjn)).1
              rw [hv] at d1
              have how : OwnInss w.heap.size wr v c := HS.out.sp.fam.own j v c hv HC.out.1
              -- the lines' row
              obtain ⟨wg, cap8, ewv, hBw, hwg, hcw, -⟩ := row_cell (B := w.heap.size) (n := wvs.length) HS.out.sp.whr (by rw [HWL.out]; omega)
              obtain ⟨hwa, hwk⟩ : wa = some ⟨wg, 0, none⟩ ∧ wk = cap8 := by
                injection ewv with e1 _ e3
                exact ⟨e1, e3⟩
              subst hwa hwk
              obtain ⟨u, hu⟩ : ∃ u, wvs[j]? = some u := ⟨_, List.getElem?_eq_getElem (by rw [HWL.out]; exact hjn)⟩
              have d2 := (hcw j (by rw [HWL.out]; exact hjn)).1
              rw [hu] at d2
              have hou : OwnNums w.heap.size wr u r := HS.out.sp.num.own (j + 1) u r (by simpa using hu) (by simpa using HC.out.2.1)
              obtain ⟨va, vc, ev⟩ := row_shape how
              obtain ⟨ua, uc, eu⟩ := row_shape hou
              subst ev eu
              by_cases hkn : k < c.length
              · have hkn' : (k : Int) < (c.length : Int) := by omega
                have hrk : k < r.length := by rw [HC.out.2.2]; exact hkn
                obtain ⟨cb, cc9, ecv, hcb, q0, q9⟩ := ins_cell how hkn
                injection ecv with e1 _ e3
                subst e1 e3
                obtain ⟨rb, rc9, erv, hBr, hrb, hcr, -⟩ := row_cell hou (by omega)
                injection erv with e1 _ e3
                subst e1 e3
                have d3 := (hcr k (by simpa using hrk)).1
                obtain ⟨x, hx⟩ : ∃ x, c[k] = x := ⟨_, rfl⟩
                rw [NumsRow_at r k hrk] at d3
                obtain ⟨l, hl9⟩ : ∃ l, r[k] = l := ⟨_, rfl⟩
                rw [hl9] at d3
                have hl : r[k]? = some l := by rw [List.getElem?_eq_getElem hrk, hl9]
                rw [hx] at q0 q9
                have hxk : c[k]? = some x := by rw [List.getElem?_eq_getElem hkn, hx]
                have HFA : Hid (∀ l2, FarAt s wh j k l2 ↔ (x.op = 10 ∧ (c.length : Int) < x.tgt ∧ l2 = l)) := fun l2 => by
                  constructor
                  · rintro ⟨c2, r2, x2, g1, g2, g3, g4, g5, g6⟩
                    rw [HC.out.1] at g1
                    injection g1 with g1
                    subst g1
                    rw [HC.out.2.1] at g5
                    injection g5 with g5
                    subst g5
                    rw [hxk] at g2
                    injection g2 with g2
                    subst g2
                    rw [hl] at g6
                    injection g6 with g6
                    exact ⟨g3, g4, g6.symm⟩
                  · rintro ⟨g1, g2, rfl⟩
                    exact ⟨c, r, x, HC.out.1, hxk, g1, g2, HC.out.2.1, hl⟩
                have hpos : FarAt s wh j k l → 1 ≤ l := fun h => h.pos HAH.out.who
                have hrk' : (k : Int) < (r.length : Int) := by omega
                have hrl : (r.length : Int) ≤ 40 := by rw [HC.out.2.2]; exact hc40'
                clear hct hcw hcr hv hu how hou etv ewv hx hxk hl hl9
                obtain ⟨xop, xce, xrg, xar, xan, xbr, xbn, xod, xcq, xtg⟩ := x
                dsimp only at q0 q9 HFA
                by_cases hop : xop = 10
                · subst hop
                  by_cases hfar : (c.length : Int) < xtg
                  · have hFA : FarAt s wh j k l := (HFA.out l).2 ⟨rfl, hfar, rfl⟩
                    by_cases hM : M = 0
                    · subst hM
                      have HLU2 : Hid (LeastUp s wh j (k + 1) l) := HLU.out.take HAH.out.who hFA (.inl rfl)
                      clear hFA HFA hpos HLU
                      go_upto_region 43 with fail
                      go_quiet (fail)
                      go_wp2_with fail
                      exact ⟨⟨k + 1, l, rfl, by go_num, by omega, HLU2.out, by first | exact HS.out | exact HS.out.go (below_drewNg _ _)⟩, by simp [intOf]; omega⟩
                    · have hM0 : (M == 0) = false := by rw [beq_eq_false_iff_ne]; exact hM
                      by_cases hlM : l < M
                      · have HLU2 : Hid (LeastUp s wh j (k + 1) l) := HLU.out.take HAH.out.who hFA (.inr hlM)
                        clear hFA HFA hpos HLU hM
                        go_upto_region 43 with fail
                        go_quiet (fail)
                        go_wp2_with fail
                        exact ⟨⟨k + 1, l, rfl, by go_num, by omega, HLU2.out, by first | exact HS.out | exact HS.out.go (below_drewNg _ _)⟩, by simp [intOf]; omega⟩
                      · have HLU2 : Hid (LeastUp s wh j (k + 1) M) := HLU.out.stay hFA hM hlM
                        clear hFA HFA hpos HLU hM
                        go_upto_region 43 with fail
                        go_quiet (fail)
                        go_wp2_with fail
                        exact ⟨⟨k + 1, M, rfl, by go_num, by omega, HLU2.out, by first | exact HS.out | exact HS.out.go (below_drewNg _ _)⟩, by simp [intOf]; omega⟩
                  · have HLU2 : Hid (LeastUp s wh j (k + 1) M) := HLU.out.skip (fun l2 h => hfar ((HFA.out l2).1 h).2.1)
                    clear HFA hpos HLU
                    go_upto_region 43 with fail
                    go_quiet (fail)
                    go_wp2_with fail
                    exact ⟨⟨k + 1, M, rfl, by go_num, by omega, HLU2.out, by first | exact HS.out | exact HS.out.go (below_drewNg _ _)⟩, by simp [intOf]; omega⟩
                · have hopb : (xop == 10) = false := by rw [beq_eq_false_iff_ne]; exact hop
                  have HLU2 : Hid (LeastUp s wh j (k + 1) M) := HLU.out.skip (fun l2 h => hop ((HFA.out l2).1 h).1)
                  clear HFA hpos HLU hop
                  go_upto_region 43 with fail
                  go_quiet (fail)
                  go_wp2_with fail
                  exact ⟨⟨k + 1, M, rfl, by go_num, by omega, HLU2.out, by first | exact HS.out | exact HS.out.go (below_drewNg _ _)⟩, by simp [intOf]; omega⟩
              · obtain rfl : k = c.length := by omega
                have hkn' : ¬ ((c.length : Int) < (c.length : Int)) := by omega
                have HLU2 : Hid (LeastUp s wh (j + 1) 0 M) := HLU.out.next HC.out.1 (Nat.le_refl _)
                clear hct hcw hv hu how hou d2 etv ewv
                go_wp2_with fail
                exact ⟨⟨j + 1, M, rfl, by go_num, by omega, HLU2.out, HS.out⟩, by simp [intOf]; omega⟩
          · obtain rfl : j = s.thr.length := by omega
            have hjn' : ¬ ((s.thr.length : Int) < (s.thr.length : Int)) := by omega
            obtain ⟨hM0, hfar⟩ := HLU.out.fin HAH.out.who
            by_cases hM : M = 0
            · subst hM
              have e0 : R0 = ⟨s.ini, s.thr, 0, 0⟩ := by rw [HRO.out]; exact outR_ok H00.out hfar
              have HE0 : Hid _ := e0
              clear e0 hfar
              go_wp2_with (first
                | (refine wpList_load_row rfl 25 _ rfl gp rfl 25 #[.slice ia s.ini.length ic, .slice ta s.thr.length tc] (0, 0) _ HS.out.sp.blk Tryd.underlying25 rfl (by first | kernel_rfl | rfl) ?_)
                | (refine wpList_store_row rfl 25 _ _ rfl w.heap.size #[.slice ia s.ini.length ic, .slice ta s.thr.length tc] rfl rfl 25 _ HS.out.res (by first | kernel_rfl | rfl) (by first | kernel_rfl | rfl) (by first | kernel_rfl | rfl) ?_))
              exact bodyPost_ret (results_prg Tryd.results4 _ _ w.heap.size (.slice ia s.ini.length ic) (.slice ta s.thr.length tc) rfl (setP_blk HS.out.res _) (.int .i64 0) (.int .i64 0) rfl rfl) rfl ⟨⟨_, rfl, by rw [HE0.out]; exact HS.out.answer⟩, below_setRow HS.out.bel (Nat.le_refl _) _⟩
            · have hMp : 0 < M := by omega
              have e0 : R0 = ⟨[], [], 9, M⟩ := by rw [HRO.out]; exact outR_far H00.out (by rw [hfar, if_neg hM])
              have HE0 : Hid _ := e0
              clear e0 hfar hM
              go_wp2_with (refine wpList_store_row rfl 25 _ _ rfl w.heap.size #[.slice none 0 0, .slice none 0 0] rfl rfl 25 _ HS.out.res (by kernel_rfl) (by kernel_rfl) (by kernel_rfl) ?_)
              exact bodyPost_ret (results_prg Tryd.results4 _ _ w.heap.size (.slice none 0 0) (.slice none 0 0) rfl (setP_blk HS.out.res _) (.int .i64 9) (.int .i64 M) rfl rfl) rfl ⟨⟨_, rfl, by rw [HE0.out]; exact prg_none _ _ _ _⟩, below_setRow HS.out.bel (Nat.le_refl _) _⟩
end Go.Proofs.YtbkhkpdpaaphoaaDoor
