/-
  A line of an instruction, as the program reads it. No statement of the seat is proved here.
-/
import Derived.Test.YthopmdfichfhdaaGreatDoorI10
import Derived.Test.YthopmdfichfhdaaGreatDoorL0
import Derived.Great.BuildSlice
namespace Go.Proofs.YthopmdfichfhdaaGreatDoor
open Go.ChangeShapes Go.WideShapes Go.ChangeAt Go.RowKit
set_option linter.unusedVariables false
set_option linter.unusedSimpArgs false

/-- The reader behind an instruction x of the last thread, c; th are the threads ahead of it. -/
def growR (s : Rd) (th : List (List Ins)) (c : List Ins) (x : Ins) : Rd := ⟨s.ini, th ++ [c ++ [x]], s.ln, if x.op = 10 then s.jmp ++ [⟨s.ln, (th.length : Int), x.tgt⟩] else s.jmp⟩
/-- A line of an instruction: the last thread, what the words are. -/
def instrF (s : Rd) : Option (List Ins) → Option Ins → Int × Rd
  | some c, some x => if c.length = 40 then (10, s) else (0, growR s s.thr.dropLast c x)
  | _, _ => (4, s)
def instrR (s : Rd) (ws : List ByteArray) : Int × Rd := instrF s s.thr.getLast? (insI ws s.ini.length)
theorem wp_append_at {o : Oper} {a : Act} {w : World} {K : Act → World → Prop} {Q : Exit → Act → World → Prop} (s x : Operand) (t : TypeId)
    (ho : o.op = .call { callee := .builtin .append, args := #[s, x], argTypes := #[t, t] })
    (base : Nat) (e : TypeId) (i : TypeInfo) (z : Value) (size bytes : Nat) (ht : Tryz.prog.underlying t = some (.slice e)) (hi : Tryz.prog.info? e = some i) (hz : i.zero = some z)
    (hsize : i.size = size) (hby : i.bytes = bytes) (hzs : z.cells.size = size) (hsz : 0 < size)
    (v : Value) (n : Nat) (xs : List Value) (hs : a.eval s = v) (hown : w.ownsRow base e size v n xs)
    (ad : Addr) (m c : Nat) (news : List Value) (hx : a.eval x = .slice (some ad) m c) (hl : news.length = m * size) (hnews : ∀ j u, news[j]? = some u → w.cell? (ad.add j) = some u) (h1 : ∀ u ∈ news, u.oneCell' = true)
    (h63 : n + m ≤ maxLen) (hbytes : (n + m) * bytes ≤ 140737488355328) (hbase : base ≤ w.heap.size)
    (h : ∀ v' w', w'.ownsRow base e size v' (n + m) (xs ++ news) → w.grownBy w' v.ownBlock → (v'.ownBlock = v.ownBlock ∨ v'.ownBlock = some w.heap.size) → K (a.put o.dst v') w') : o.wp Tryz.prog a w K Q := by
  obtain ⟨v', w', hr, h2, h3, h4, h5⟩ := run_append_own_at (P := Tryz.prog) w base t o.type e i z size bytes ht hi hz hsize hby hzs hsz v n xs hown ad m c news hl hnews h1 h63 hbytes hbase
  unfold Oper.wp execOp
  simp only [ho, resolve, invoke, builtin, Sem.run_bind, Sem.run_pure, Result.andThen_ok, List.map_toArray, List.map_cons, List.map_nil, hs, hx, hr]
  exact h v' w' h2 h3 h5
theorem add_flat (b j : Nat) : (⟨b, 0, none⟩ : Addr).add j = ⟨b, j, none⟩ := by simp [Addr.add]; omega
theorem step_appendIns {ops : Array Oper} {o : Oper} {a : Act} {w : World} {K : Act → World → Prop} {Q : Exit → Act → World → Prop} {E : Prop} (hg : o.guard = none) (s x : Operand)
    (ho : o.op = .call { callee := .builtin .append, args := #[s, x], argTypes := #[39, 39] })
    (B : Nat) (v : Value) (l : List Ins) (hs : a.eval s = v) (hown : OwnInss B w v l) (b : Nat) (y : Ins) (hx : a.eval x = .slice (some ⟨b, 0, none⟩) 1 1) (hsrc : Blk w b 43 (insC y))
    (hsz : l.length ≤ 100000) (hB : B ≤ w.heap.size)
    (h : ∀ va vn vc w', OwnInss B w' (.slice va vn vc) (l ++ [y]) → Below B w w' → w.grownBy w' v.ownBlock → (Value.ownBlock (.slice va vn vc) = v.ownBlock ∨ Value.ownBlock (.slice va vn vc) = some w.heap.size) → K (a.put o.dst (.slice va vn vc)) w') :
    if Region.wanted o (yielded ops a.tmps) = true then Oper.wp Tryz.prog o a w K Q else E := by
  have hw : Region.wanted o (yielded ops a.tmps) = true := by simp [Region.wanted, hg]
  rw [if_pos hw]
  obtain ⟨i, hii, hz0, hz1, hz2⟩ := info_of (t := 43) (z := insV ⟨0, 0, 0, 0, 0, 0, 0, 0, 0, 0⟩) (n := 10) (b := 80) (by kernel_rfl)
  refine wp_append_at s x 39 ho B 43 i (insV ⟨0, 0, 0, 0, 0, 0, 0, 0, 0, 0⟩) 10 80 Tryz.underlying39 hii hz0 hz1 hz2 rfl (by decide) v l.length (InsRow l) hs hown ⟨b, 0, none⟩ 1 1 (InsRow [y]) hx (InsRow_length [y]) (fun j u hj => ?_) (fun u hu => InsRow_one hu) (by unfold maxLen; omega) (by omega) hB ?_
  · rw [add_flat, hsrc.cell, ← hj]
    simp [InsRow, insC]
  · intro v' w' h1 h2 h6
    obtain ⟨va, vc, rfl⟩ := row_shape h1
    have h4 : OwnInss B w' (.slice va (l.length + 1) vc) (l ++ [y]) := by
      unfold OwnInss
      rw [InsRow_append, List.length_append]
      exact h1
    exact h _ _ _ w' h4 ((Below.refl _ w).grown h2 hB (row_low hown)) h2 h6
theorem step_appendJmp {ops : Array Oper} {o : Oper} {a : Act} {w : World} {K : Act → World → Prop} {Q : Exit → Act → World → Prop} {E : Prop} (hg : o.guard = none) (s x : Operand)
    (ho : o.op = .call { callee := .builtin .append, args := #[s, x], argTypes := #[80, 80] })
    (B : Nat) (v : Value) (l : List Jmp) (hs : a.eval s = v) (hown : OwnJmps B w v l) (b : Nat) (y : Jmp) (hx : a.eval x = .slice (some ⟨b, 0, none⟩) 1 1) (hsrc : Blk w b 113 (jmpC y))
    (hsz : l.length ≤ 100000) (hB : B ≤ w.heap.size)
    (h : ∀ va vn vc w', OwnJmps B w' (.slice va vn vc) (l ++ [y]) → Below B w w' → w.grownBy w' v.ownBlock → K (a.put o.dst (.slice va vn vc)) w') :
    if Region.wanted o (yielded ops a.tmps) = true then Oper.wp Tryz.prog o a w K Q else E := by
  have hw : Region.wanted o (yielded ops a.tmps) = true := by simp [Region.wanted, hg]
  rw [if_pos hw]
  obtain ⟨i, hii, hz0, hz1, hz2⟩ := info_of (t := 113) (z := .agg #[.int .i64 0, .int .i64 0, .int .i64 0]) (n := 3) (b := 24) (by kernel_rfl)
  refine wp_append_at s x 80 ho B 113 i (.agg #[.int .i64 0, .int .i64 0, .int .i64 0]) 3 24 Tryz.underlying80 hii hz0 hz1 hz2 rfl (by decide) v l.length (JmpRow l) hs hown ⟨b, 0, none⟩ 1 1 (JmpRow [y]) hx (JmpRow_length [y]) (fun j u hj => ?_) (fun u hu => JmpRow_one hu) (by unfold maxLen; omega) (by omega) hB ?_
  · rw [add_flat, hsrc.cell, ← hj]
    simp [JmpRow, jmpC]
  · intro v' w' h1 h2 h6
    obtain ⟨va, vc, rfl⟩ := row_shape h1
    have h4 : OwnJmps B w' (.slice va (l.length + 1) vc) (l ++ [y]) := by
      unfold OwnJmps
      rw [JmpRow_append, List.length_append]
      exact h1
    exact h _ _ _ w' h4 ((Below.refl _ w).grown h2 hB (row_low hown)) h2
theorem step_buildIns {ops : Array Oper} {o : Oper} {a : Act} {w : World} {K : Act → World → Prop} {Q : Exit → Act → World → Prop} {E : Prop} (hg : o.guard = none) (x : Ins) (q : Operand) (ho : o.op = .buildSlice 39 1 #[(0, q)]) (hx : a.eval q = insV x)
    (h : K (a.put o.dst (.slice (some ⟨w.heap.size, 0, none⟩) 1 1)) (w.alloc (.cells (insC x) 43))) :
    if Region.wanted o (yielded ops a.tmps) = true then Oper.wp Tryz.prog o a w K Q else E := by
  have hw : Region.wanted o (yielded ops a.tmps) = true := by simp [Region.wanted, hg]
  rw [if_pos hw]
  obtain ⟨i, hii, hz0, hz1, hz2⟩ := info_of (t := 43) (z := insV ⟨0, 0, 0, 0, 0, 0, 0, 0, 0, 0⟩) (n := 10) (b := 80) (by kernel_rfl)
  refine wp_buildSlice 39 43 1 #[(0, q)] ho (insC x) i _ Tryz.underlying39 hii hz0 (by rw [hz1]; decide) (by rw [hz1]; decide) ?_ h
  rw [hz1]
  simp only [List.map_toArray, List.map_cons, List.map_nil, hx]
  refine (Great.fill_whole (s := 10) (by omega) [insV x] _ (fun v hv => by simp at hv; subst hv; rfl) (by simp)).trans ?_
  first
    | rfl
    | simp [Value.cells, insV, insC]
theorem run_load_ins {w : World} {gx : Nat} {x : Ins} {o : Oper} {a : Act} {q : Operand} (ho : o.op = .load 43 q) (ha : a.eval q = .pointer (some ⟨gx, 0, none⟩)) (h : Blk w gx 43 (insC x)) : (execOp a.eval o).run Tryz.prog w = .ok (.value (insV x)) w := by
  unfold execOp
  simp only [ho, ha, Instr.loadAt, Instr.sureAddr, Sem.run_bind, Sem.run_pure, Result.andThen_ok, run_loadVar_row w gx 43 43 (insC x) (0, 0) _ h Tryz.underlying43 rfl (by first | kernel_rfl | rfl)]
  rfl
section
variable {B g : Nat} {iv tv jv : Value} {tvs : List Value} {w : World} {s : Rd}
set_option maxRecDepth 100000 in
set_option maxHeartbeats 4000000 in
theorem implInstr (h : RdAt B g iv tv jv tvs w s) (ws : List ByteArray) (wa : Option Addr) (wq : Nat) (hw : WdsAt w wa ws) (h0 : 0 < ws.length) (hlen : ws.length ≤ 70000) (hsz : ∀ t ∈ ws, t.size ≤ 65536) (hi : s.ini.length ≤ 8) (ht : s.thr.length ≤ 4) (hc : ∀ c ∈ s.thr, c.length ≤ 40) (hj : s.jmp.length ≤ 1000) :
    Calls Tryz.prog 63 #[.pointer (some ⟨g, 0, none⟩), .slice wa ws.length wq] w fun e w' => e = .returned (.int .i64 (instrR s ws).1) ∧ Chg B g w w' ∧ ((instrR s ws).1 = 0 → ∃ jv' tvs', RdAt B g iv tv jv' tvs' w' (instrR s ws).2) := by
  obtain ⟨wb, wo, cs, rfl, hkb, hcs⟩ := hw h0
  obtain ⟨ia, ic, rfl, -⟩ := h.ini.value
  obtain ⟨ta, tc, rfl⟩ := row_shape h.thr
  have c0 := h.blk.cell 0
  have c1 := h.blk.cell 1
  simp at c0 c1
  have ci := implIns ws wb wo wq g ic s.ini.length ia w h0 hlen hsz hi (fun i hi => (hkb.cell _).trans (hcs i hi)) c0
  have HR : Hid (RdAt B g (.slice ia s.ini.length ic) (.slice ta tvs.length tc) jv tvs w s) := h
  have HT : Hid (s.thr.length ≤ 4) := ht
  have HC : Hid (∀ c ∈ s.thr, c.length ≤ 40) := hc
  have HJ : Hid (s.jmp.length ≤ 1000) := hj
  have hR : instrR s ws = instrF s s.thr.getLast? (insI ws s.ini.length) := rfl
  obtain ⟨R, hRR⟩ : ∃ R, instrR s ws = R := ⟨_, rfl⟩
  obtain ⟨I, hI⟩ : ∃ I, insI ws s.ini.length = I := ⟨_, rfl⟩
  rw [hRR, hI] at hR
  rw [hRR]
  simp only [hI] at ci
  have HRR : Hid (R = instrF s s.thr.getLast? I) := hR
  have htl : tvs.length ≤ 4 := by rw [h.fam.len]; exact ht
  have htl' : (tvs.length : Int) ≤ 4 := by omega
  have HL : Hid (tvs.length = s.thr.length) := h.fam.len
  clear h hw hsz hR hRR hI hkb hcs c0 ht hc hj
  go_enter Tryz.func63, Tryz.ntmps63
  go_upto_region 2 with fail
  clear c1
  go_upto_region 3 with (first
    | (go_at_call 77; go_must (refine ci.mono ?_; rintro e w3 ⟨⟨x, b, rfl, hb, hx⟩, hb3⟩))
    | (refine wpList_store_row rfl 43 _ _ rfl w3.heap.size (insC x) rfl rfl 43 _ (heap_alloc_last _ _) (by first | kernel_rfl | rfl) (by first | kernel_rfl | rfl) (by first | kernel_rfl | rfl) ?_; rw [World.setRow_alloc_new]))
  try simp only [Act.put]
  have b4 : Below w3.heap.size w3 (w3.alloc (.cells (insC x) 43)) := (Below.refl _ w3).alloc (Nat.le_refl _) _
  have kX : Blk (w3.alloc (.cells (insC x) 43)) w3.heap.size 43 (insC x) := heap_alloc_last w3 _
  have H3 := HR.out.go hb3
  have h4 := H3.go b4
  have B4 : Chg B g w (w3.alloc (.cells (insC x) 43)) := (Chg.of hb3).trans (Chg.of b4)
  have hgx : B ≤ w3.heap.size := H3.size
  have hvx : ∀ (i : Nat) (u : Value), tvs[i]? = some u → ∀ k, u.ownBlock = some k → k < w3.heap.size := fun i u hu k hk => by
    obtain ⟨l, hl⟩ := H3.fam.mem hu
    exact (hl.lt k hk).2
  clear H3
  generalize w3.alloc (.cells (insC x) 43) = w4 at b4 kX h4 B4 ⊢
  generalize w3.heap.size = gx at kX hgx hvx ⊢
  have H4 : Hid (RdAt B g (.slice ia s.ini.length ic) (.slice ta tvs.length tc) jv tvs w4 s) := h4
  have HB4 : Hid (Chg B g w w4) := B4
  have HKX : Hid (Blk w4 gx 43 (insC x)) := kX
  have HVY : Hid (∀ (i : Nat) (u : Value), tvs[i]? = some u → ∀ k, u.ownBlock = some k → k < gx) := hvx
  clear b4 kX h4 B4 hb3 hvx
  rcases List.eq_nil_or_concat tvs with rfl | ⟨ts, v, hts⟩
  · have e0 : s.thr = [] := List.eq_nil_of_length_eq_zero (by rw [← HL.out]; rfl)
    have hr := HRR.out
    rw [e0] at hr
    have hr' : R = (4, s) := hr
    clear HRR hr
    subst hr'
    simp only [List.length_nil] at ⊢
    go_wp2_with fail
    go_ret
    first
      | exact ⟨rfl, HB4.out⟩
      | exact ⟨rfl, HB4.out, fun h => absurd h (show ¬ ((4 : Int) = 0) by decide)⟩
  · rw [List.concat_eq_append] at hts
    subst hts
    obtain ⟨th, c, eth⟩ : ∃ th c, s.thr = th ++ [c] := by
      rcases List.eq_nil_or_concat s.thr with e | ⟨th, c, e⟩
      · have := HL.out; rw [e] at this; simp at this
      · exact ⟨th, c, by rw [e, List.concat_eq_append]⟩
    have ETH : Hid (s.thr = th ++ [c]) := eth
    have hm : ts.length = th.length := by
      have := HL.out
      rw [eth] at this
      simpa using this
    have HM : Hid (ts.length = th.length) := hm
    have hlv : (ts ++ [v]).length = ts.length + 1 := by simp
    have hm1 : ((ts.length + 1 : Nat) : Int) - 1 = (ts.length : Int) := by omega
    have hn0 : ¬ ((ts.length : Int) < 0) := by omega
    have hts4 : ts.length + 1 ≤ 4 := by rw [← hlv]; exact htl
    have hr := HRR.out
    have hgl : s.thr.getLast? = some c := by rw [eth]; simp
    have hdl : s.thr.dropLast = th := by rw [eth]; simp
    rw [hgl] at hr
    clear HRR hgl eth hm HL
    simp only [hlv, hm1] at H4 HR htl htl' ⊢
    cases I with
    | none =>
      have hr' : R = (4, s) := hr
      clear hr
      subst hr'
      have hbf : b = false := hb
      subst hbf
      have h44 : (ts.length : Int) ≤ 4 := by omega
      clear hx ci hlv hdl hb
      simp only [Option.isSome_none] at ⊢
      go_wp2_with fail
      go_ret
      first
        | exact ⟨rfl, HB4.out⟩
        | exact ⟨rfl, HB4.out, fun h => absurd h (show ¬ ((4 : Int) = 0) by decide)⟩
    | some y =>
      have hxy := hx y rfl
      subst hxy
      have hr' : R = if c.length = 40 then (10, s) else (0, growR s s.thr.dropLast c x) := hr
      rw [hdl] at hr'
      have HRR : Hid (R = if c.length = 40 then (10, s) else (0, growR s th c x)) := hr'
      clear hr hr' hx ci hdl hb
      simp only [Option.isSome_some] at ⊢
      -- the last thread
      have c1 := H4.out.blk.cell 1
      simp at c1
      obtain ⟨tg, cap, etv, hBt, htg, hct, -⟩ := row_cell (B := B) (n := ts.length + 1) (by have := H4.out.thr; rw [hlv] at this; exact this) (Nat.succ_pos _)
      injection etv with eta _ etc
      subst eta etc
      obtain ⟨d1, -⟩ := hct ts.length (by omega)
      simp at d1
      have how : OwnInss B w4 v c := H4.out.fam.own ts.length v c (by simp) (by rw [ETH.out, HM.out]; simp)
      obtain ⟨va, vc, ev⟩ := row_shape how
      have HOW : Hid (OwnInss B w4 v c) := how
      have HVX : Hid (∀ k, v.ownBlock = some k → k < gx) := HVY.out ts.length v (by simp)
      have HTB : Hid (∃ cur, Blk w4 tg 39 cur) := by
        rcases H4.out.thr.2 with ⟨e2, _⟩ | ⟨bb, cap2, cur, e2, _, hb, _⟩
        · simp at e2
        · simp at e2
          obtain ⟨rfl, _⟩ := e2
          exact ⟨cur, hb⟩
      have HGT : Hid (tg ≠ g) := by
        obtain ⟨cur, hk⟩ := HTB.out
        exact Blk.apart hk H4.out.blk (by decide)
      subst ev
      have hc40 : c.length ≤ 40 := HC.out c (by rw [ETH.out]; simp)
      have hc40' : (c.length : Int) ≤ 40 := by omega
      clear hct how hlv
      by_cases hcl : c.length = 40
      · have hr' := HRR.out
        rw [if_pos hcl] at hr'
        clear HRR
        subst hr'
        simp only [hcl] at d1
        go_wp2_with fail
        go_ret
        first
          | exact ⟨rfl, HB4.out⟩
          | exact ⟨rfl, HB4.out, fun h => absurd h (show ¬ ((10 : Int) = 0) by decide)⟩
      · have hcl' : ¬ ((c.length : Int) = 40) := by omega
        have hr' := HRR.out
        rw [if_neg hcl] at hr'
        clear HRR
        subst hr'
        go_upto_region 8 with fail
        have d0 := HKX.out.cell 0
        simp [insC] at d0
        have hm2 : (ts.length : Int) < (ts.length : Int) + 1 := by omega
        by_cases hop : x.op = 10
        · go_upto_region 9 with fail
          have hx9 := HKX.out.cell 9
          have c2 := H4.out.blk.cell 2
          have c3 := H4.out.blk.cell 3
          obtain ⟨ja, jc, ej⟩ := row_shape H4.out.jmp
          subst ej
          simp [insC] at hx9 c2 c3
          have KJ : Hid (∀ V, Below w4.heap.size w4 V → V.cell? ⟨g, 3, none⟩ = some (.slice ja s.jmp.length jc) ∧ V.cell? ⟨g, 2, none⟩ = some (.int .i64 s.ln) ∧ V.cell? ⟨gx, 9, none⟩ = some (.int .i64 x.tgt)) := fun V hV => ⟨(hV.cell (World.block_lt_of_cell? _ _ c3)).trans c3, (hV.cell (World.block_lt_of_cell? _ _ c2)).trans c2, (hV.cell (World.block_lt_of_cell? _ _ hx9)).trans hx9⟩
          clear hx9 c2 c3 d0 c1
          refine wp_region_last (S := (fun w' => w'.cell? ⟨g, 3, none⟩ = some (.slice ja s.jmp.length jc) ∧ w'.cell? ⟨g, 2, none⟩ = some (.int .i64 s.ln) ∧ w'.cell? ⟨gx, 9, none⟩ = some (.int .i64 x.tgt))) 17 (by kernel_rfl) rfl (by kernel_rfl) (KJ.out _ (Below.refl _ _).drew) (fun hHeld => ?_)
          simp only [List.take_succ_cons, List.take_zero]
          refine wpAnyH_take (i := 0) (v := ?_) rfl (by kernel_rfl) (by kernel_rfl) (by kernel_rfl) (fun _ _ _ h => h) (Or.inl ⟨by rfl, ?_⟩) (by assumption) ?_
          rotate_left 1
          · (intro w' hSw; (try dsimp only at hSw); go_simp; all_goals with_reducible rfl)
          (try simp only [Act.put, List.setIfInBounds_toArray, List.set_cons_zero, List.set_cons_succ])
          refine wpAnyH_take (i := 1) (v := ?_) rfl (by kernel_rfl) (by kernel_rfl) (by kernel_rfl) (fun _ _ _ h => h) (Or.inl ⟨by rfl, ?_⟩) (by assumption) ?_
          rotate_left 1
          · (intro w' hSw; (try dsimp only at hSw); go_simp; all_goals with_reducible rfl)
          (try simp only [Act.put, List.setIfInBounds_toArray, List.set_cons_zero, List.set_cons_succ])
          refine wpAnyH_take (i := 2) (v := ?_) rfl (by kernel_rfl) (by kernel_rfl) (by kernel_rfl) (fun _ _ _ h => h) (Or.inl ⟨by rfl, ?_⟩) (by assumption) ?_
          rotate_left 1
          · (intro w' hSw; (try dsimp only at hSw); go_simp; all_goals with_reducible rfl)
          (try simp only [Act.put, List.setIfInBounds_toArray, List.set_cons_zero, List.set_cons_succ])
          refine wpAnyH_take (i := 3) (v := ?_) rfl (by kernel_rfl) (by kernel_rfl) (by kernel_rfl) (fun _ _ _ h => h) (Or.inl ⟨by rfl, ?_⟩) (by assumption) ?_
          rotate_left 1
          · (intro w' hSw; (try dsimp only at hSw); go_simp; all_goals with_reducible rfl)
          (try simp only [Act.put, List.setIfInBounds_toArray, List.set_cons_zero, List.set_cons_succ])
          refine wpAnyH_take (i := 4) (v := ?_) rfl (by kernel_rfl) (by kernel_rfl) (by kernel_rfl) (fun _ _ _ h => h) (Or.inl ⟨by rfl, ?_⟩) (by assumption) ?_
          rotate_left 1
          · (intro w' hSw; (try dsimp only at hSw); go_simp; all_goals with_reducible rfl)
          (try simp only [Act.put, List.setIfInBounds_toArray, List.set_cons_zero, List.set_cons_succ])
          refine wpAnyH_take (i := 5) (v := ?_) rfl (by kernel_rfl) (by kernel_rfl) (by kernel_rfl) (fun _ _ _ h => h) (Or.inl ⟨by rfl, ?_⟩) (by assumption) ?_
          rotate_left 1
          · (intro w' hSw; (try dsimp only at hSw); go_simp; all_goals with_reducible rfl)
          (try simp only [Act.put, List.setIfInBounds_toArray, List.set_cons_zero, List.set_cons_succ])
          refine wpAnyH_take (i := 6) (v := ?_) rfl (by kernel_rfl) (by kernel_rfl) (by kernel_rfl) (fun _ _ _ h => h) (Or.inl ⟨by rfl, ?_⟩) (by assumption) ?_
          rotate_left 1
          · (intro w' hSw; (try dsimp only at hSw); go_simp; all_goals with_reducible rfl)
          (try simp only [Act.put, List.setIfInBounds_toArray, List.set_cons_zero, List.set_cons_succ])
          refine wpAnyH_take (i := 7) (v := ?_) rfl (by kernel_rfl) (by kernel_rfl) (by kernel_rfl) (fun _ _ _ h => h) (Or.inl ⟨by rfl, ?_⟩) (by assumption) ?_
          rotate_left 1
          · (intro w' hSw; (try dsimp only at hSw); go_simp; all_goals with_reducible rfl)
          (try simp only [Act.put, List.setIfInBounds_toArray, List.set_cons_zero, List.set_cons_succ])
          refine wpAnyH_take (i := 8) (v := ?_) rfl (by kernel_rfl) (by kernel_rfl) (by kernel_rfl) (fun _ _ _ h => h) (Or.inl ⟨by rfl, ?_⟩) (by assumption) ?_
          rotate_left 1
          · (intro w' hSw; (try dsimp only at hSw); go_simp; all_goals with_reducible rfl)
          (try simp only [Act.put, List.setIfInBounds_toArray, List.set_cons_zero, List.set_cons_succ])
          refine wpAnyH_take (i := 9) (v := ?_) rfl (by kernel_rfl) (by kernel_rfl) (by kernel_rfl) (fun _ _ _ h => h) (Or.inl ⟨by rfl, ?_⟩) (by assumption) ?_
          rotate_left 1
          · (intro w' hSw; (try dsimp only at hSw); go_simp; all_goals with_reducible rfl)
          (try simp only [Act.put, List.setIfInBounds_toArray, List.set_cons_zero, List.set_cons_succ])
          refine wpAnyH_take (i := 10) (v := ?_) rfl (by kernel_rfl) (by kernel_rfl) (by kernel_rfl) (fun _ _ _ h => h) (Or.inl ⟨by rfl, ?_⟩) (by assumption) ?_
          rotate_left 1
          · (intro w' hSw; (try dsimp only at hSw); go_simp; all_goals with_reducible rfl)
          (try simp only [Act.put, List.setIfInBounds_toArray, List.set_cons_zero, List.set_cons_succ])
          refine wpAnyH_take (i := 11) (v := ?_) rfl (by kernel_rfl) (by kernel_rfl) (by kernel_rfl) (fun _ _ _ h => h) (Or.inl ⟨by rfl, ?_⟩) (by assumption) ?_
          rotate_left 1
          · (intro w' hSw; (try dsimp only at hSw); go_simp; all_goals with_reducible rfl)
          (try simp only [Act.put, List.setIfInBounds_toArray, List.set_cons_zero, List.set_cons_succ])
          refine wpAnyH_take (i := 12) (v := ?_) rfl (by kernel_rfl) (by kernel_rfl) (by kernel_rfl) (fun _ _ _ h => h) (Or.inl ⟨by rfl, ?_⟩) (by assumption) ?_
          rotate_left 1
          · (intro w' hSw; (try dsimp only at hSw); go_simp; all_goals with_reducible rfl)
          (try simp only [Act.put, List.setIfInBounds_toArray, List.set_cons_zero, List.set_cons_succ])
          have hbd : Below w4.heap.size w4 w4.drew := (Below.refl _ _).drew
          have hba : Below w4.heap.size w4 (w4.drew.alloc (.cells #[.int .i64 s.ln, .int .i64 (ts.length : Int), .int .i64 x.tgt] 113)) := hbd.alloc hbd.size _
          have HDJ := H4.out.go hba
          have HKI : Blk (w4.drew.alloc (.cells #[.int .i64 s.ln, .int .i64 (ts.length : Int), .int .i64 x.tgt] 113)) w4.heap.size 113 (jmpC ⟨s.ln, (ts.length : Int), x.tgt⟩) := heap_alloc_last w4.drew _
          have hxg : some g ≠ (Value.slice ja s.jmp.length jc).ownBlock := Ne.symm (row_off H4.out.jmp H4.out.blk (by decide))
          have hxx : some gx ≠ (Value.slice ja s.jmp.length jc).ownBlock := Ne.symm (row_off H4.out.jmp HKX.out (by decide))
          refine wpAnyH_ready (rs := [13]) (by kernel_rfl) (by simp) ?_
          refine AllReadyH.cons rfl (fun K hK => ?_) AllReadyH.nil
          go_simp
          refine hK.out _ _ ?_ (fun hHeld => ?_)
          · exact KJ.out _ hba
          clear hK K
          (try simp only [Act.put, List.setIfInBounds_toArray, List.set_cons_zero, List.set_cons_succ])
          refine wpAnyH_ready (rs := [14]) (by kernel_rfl) (by simp) ?_
          refine AllReadyH.cons rfl (fun K hK => ?_) AllReadyH.nil
          refine step_appendJmp rfl (.tmp 44) (.tmp 53) rfl B (.slice ja s.jmp.length jc) s.jmp (by simp [Act.eval]) HDJ.jmp w4.heap.size ⟨s.ln, (ts.length : Int), x.tgt⟩ (by simp [Act.eval]) HKI (Nat.le_trans HJ.out (by omega)) HDJ.size ?_
          intro va8 vn8 vc8 w8 hown8 hB8 hgr8
          refine hK.out _ _ ?_ (fun hHeld => ?_)
          · exact ⟨hgr8.cell hHeld.1 hxg, hgr8.cell hHeld.2.1 hxg, hgr8.cell hHeld.2.2 hxx⟩
          clear hK K
          (try simp only [Act.put, List.setIfInBounds_toArray, List.set_cons_zero, List.set_cons_succ])
          refine wpAnyH_take (i := 15) (v := ?_) rfl (by kernel_rfl) (by kernel_rfl) (by kernel_rfl) (fun _ _ _ h => h) (Or.inl ⟨by rfl, ?_⟩) (by assumption) ?_
          rotate_left 1
          · (intro w' hSw; (try dsimp only at hSw); go_simp; all_goals with_reducible rfl)
          (try simp only [Act.put, List.setIfInBounds_toArray, List.set_cons_zero, List.set_cons_succ])
          refine wpAnyH_take (i := 16) (v := ?_) rfl (by kernel_rfl) (by kernel_rfl) (by kernel_rfl) (fun _ _ _ h => h) (Or.inl ⟨by rfl, ?_⟩) (by assumption) ?_
          rotate_left 1
          · (intro w' hSw; (try dsimp only at hSw); go_simp; all_goals with_reducible rfl)
          (try simp only [Act.put, List.setIfInBounds_toArray, List.set_cons_zero, List.set_cons_succ])
          obtain ⟨hbk, H6⟩ := HDJ.growJ hown8 hgr8
          have g3 := hbk.cell 3
          have f3 := hbk.fro 3
          simp at g3
          refine wpAnyH_done (by kernel_rfl) ?_ _
          show Oper.wp _ _ _ _ _ _
          unfold Oper.wp
          go_simp
          go_upto_region 10 with fail
          have hKb : Blk (w8.setCell ⟨g, 3, none⟩ (.slice va8 vn8 vc8)) gx 43 (insC x) := ((HKX.out.below hba).kept hgr8 hxx).other (Blk.apart HKX.out H4.out.blk (by decide)) _ _
          have hBb : Chg B g w (w8.setCell ⟨g, 3, none⟩ (.slice va8 vn8 vc8)) := ((HB4.out.trans (Chg.of hba)).trans (Chg.grow hgr8 HDJ.jmp (by decide))).setG _ (by decide) _
          clear d1 hbk g3 f3 hba hbd HKI hxg hxx hown8 hB8 hgr8 HDJ hHeld
          generalize w8.setCell ⟨g, 3, none⟩ (.slice va8 vn8 vc8) = wJ at H6 hKb hBb ⊢
          have HJ6 : Hid (RdAt B g (.slice ia s.ini.length ic) (.slice (some ⟨tg, 0, none⟩) (ts.length + 1) tc) (.slice va8 vn8 vc8) (ts ++ [.slice va c.length vc]) wJ { s with jmp := s.jmp ++ [⟨s.ln, (ts.length : Int), x.tgt⟩] }) := H6
          have HKJ : Hid (Blk wJ gx 43 (insC x)) := hKb
          have HBJ : Hid (Chg B g w wJ) := hBb
          clear H6 hKb hBb
          have d1 : wJ.cell? ⟨tg, ts.length, none⟩ = some (.slice va c.length vc) := by
            have HG := row_cell (B := B) (n := ts.length + 1) (by have := HJ6.out.thr; rw [List.length_append] at this; exact this) (Nat.succ_pos _)
            obtain ⟨tg8, cp8, HG⟩ := HG
            have e9 : tg8 = tg := by
              have et9 := HG.1
              simp only [Value.slice.injEq, Option.some.injEq, Addr.mk.injEq] at et9
              exact et9.1.1.symm
            have hh := (HG.2.2.2.1 ts.length (by omega)).1
            rw [e9] at hh
            rw [hh]; simp
          have c1 := HJ6.out.blk.cell 1
          simp at c1
          have KP : Hid (∀ V, Below wJ.heap.size wJ V → V.cell? ⟨g, 1, none⟩ = some (.slice (some ⟨tg, 0, none⟩) (ts.length + 1) tc) ∧ V.cell? ⟨tg, ts.length, none⟩ = some (.slice va c.length vc) ∧ Blk V gx 43 (insC x)) := fun V hV => ⟨(hV.cell (World.block_lt_of_cell? _ _ c1)).trans c1, (hV.cell (World.block_lt_of_cell? _ _ d1)).trans d1, HKJ.out.below hV⟩
          clear c1 d1
          refine wp_region_last (S := (fun w' => w'.cell? ⟨g, 1, none⟩ = some (.slice (some ⟨tg, 0, none⟩) (ts.length + 1) tc) ∧ w'.cell? ⟨tg, ts.length, none⟩ = some (.slice va c.length vc) ∧ Blk w' gx 43 (insC x))) 18 (by kernel_rfl) rfl (by kernel_rfl) (KP.out _ (Below.refl _ _).drew) (fun hHeld => ?_)
          simp only [List.take_succ_cons, List.take_zero]
          refine wpAnyH_take (i := 0) (v := ?_) rfl (by kernel_rfl) (by kernel_rfl) (by kernel_rfl) (fun _ _ _ h => h) (Or.inl ⟨by rfl, ?_⟩) (by assumption) ?_
          rotate_left 1
          · (intro w' hSw; (try dsimp only at hSw); go_simp; all_goals with_reducible rfl)
          (try simp only [Act.put, List.setIfInBounds_toArray, List.set_cons_zero, List.set_cons_succ])
          refine wpAnyH_take (i := 1) (v := ?_) rfl (by kernel_rfl) (by kernel_rfl) (by kernel_rfl) (fun _ _ _ h => h) (Or.inl ⟨by rfl, ?_⟩) (by assumption) ?_
          rotate_left 1
          · (intro w' hSw; (try dsimp only at hSw); go_simp; all_goals with_reducible rfl)
          (try simp only [Act.put, List.setIfInBounds_toArray, List.set_cons_zero, List.set_cons_succ])
          refine wpAnyH_take (i := 2) (v := ?_) rfl (by kernel_rfl) (by kernel_rfl) (by kernel_rfl) (fun _ _ _ h => h) (Or.inl ⟨by rfl, ?_⟩) (by assumption) ?_
          rotate_left 1
          · (intro w' hSw; (try dsimp only at hSw); go_simp; all_goals with_reducible rfl)
          (try simp only [Act.put, List.setIfInBounds_toArray, List.set_cons_zero, List.set_cons_succ])
          refine wpAnyH_take (i := 3) (v := ?_) rfl (by kernel_rfl) (by kernel_rfl) (by kernel_rfl) (fun _ _ _ h => h) (Or.inl ⟨by rfl, ?_⟩) (by assumption) ?_
          rotate_left 1
          · (intro w' hSw; (try dsimp only at hSw); go_simp; all_goals with_reducible rfl)
          (try simp only [Act.put, List.setIfInBounds_toArray, List.set_cons_zero, List.set_cons_succ])
          refine wpAnyH_take (i := 4) (v := ?_) rfl (by kernel_rfl) (by kernel_rfl) (by kernel_rfl) (fun _ _ _ h => h) (Or.inl ⟨by rfl, ?_⟩) (by assumption) ?_
          rotate_left 1
          · (intro w' hSw; (try dsimp only at hSw); go_simp; all_goals with_reducible rfl)
          (try simp only [Act.put, List.setIfInBounds_toArray, List.set_cons_zero, List.set_cons_succ])
          refine wpAnyH_take (i := 5) (v := ?_) rfl (by kernel_rfl) (by kernel_rfl) (by kernel_rfl) (fun _ _ _ h => h) (Or.inl ⟨by rfl, ?_⟩) (by assumption) ?_
          rotate_left 1
          · (intro w' hSw; (try dsimp only at hSw); go_simp; all_goals with_reducible rfl)
          (try simp only [Act.put, List.setIfInBounds_toArray, List.set_cons_zero, List.set_cons_succ])
          refine wpAnyH_take (i := 6) (v := ?_) rfl (by kernel_rfl) (by kernel_rfl) (by kernel_rfl) (fun _ _ _ h => h) (Or.inl ⟨by rfl, ?_⟩) (by assumption) ?_
          rotate_left 1
          · (intro w' hSw; (try dsimp only at hSw); go_simp; all_goals with_reducible rfl)
          (try simp only [Act.put, List.setIfInBounds_toArray, List.set_cons_zero, List.set_cons_succ])
          refine wpAnyH_take (i := 7) (v := ?_) rfl (by kernel_rfl) (by kernel_rfl) (by kernel_rfl) (fun _ _ _ h => h) (Or.inl ⟨by rfl, ?_⟩) (by assumption) ?_
          rotate_left 1
          · (intro w' hSw; (try dsimp only at hSw); go_simp; all_goals with_reducible rfl)
          (try simp only [Act.put, List.setIfInBounds_toArray, List.set_cons_zero, List.set_cons_succ])
          refine wpAnyH_take (i := 8) (v := ?_) rfl (by kernel_rfl) (by kernel_rfl) (by kernel_rfl) (fun _ _ _ h => h) (Or.inl ⟨by rfl, ?_⟩) (by assumption) ?_
          rotate_left 1
          · (intro w' hSw; (try dsimp only at hSw); go_simp; all_goals with_reducible rfl)
          (try simp only [Act.put, List.setIfInBounds_toArray, List.set_cons_zero, List.set_cons_succ])
          refine wpAnyH_take (i := 9) (v := ?_) rfl (by kernel_rfl) (by kernel_rfl) (by kernel_rfl) (fun _ _ _ h => h) (Or.inl ⟨by rfl, ?_⟩) (by assumption) ?_
          rotate_left 1
          · (intro w' hSw; (try dsimp only at hSw); go_simp; all_goals with_reducible rfl)
          (try simp only [Act.put, List.setIfInBounds_toArray, List.set_cons_zero, List.set_cons_succ])
          refine wpAnyH_take (i := 10) (v := ?_) rfl (by kernel_rfl) (by kernel_rfl) (by kernel_rfl) (fun _ _ _ h => h) (Or.inl ⟨by rfl, ?_⟩) (by assumption) ?_
          rotate_left 1
          · (intro w' hSw; (try dsimp only at hSw); go_simp; all_goals with_reducible rfl)
          (try simp only [Act.put, List.setIfInBounds_toArray, List.set_cons_zero, List.set_cons_succ])
          refine wpAnyH_take (i := 11) (v := ?_) rfl (by kernel_rfl) (by kernel_rfl) (by kernel_rfl) (fun _ _ _ h => h) (Or.inl ⟨by rfl, ?_⟩) (by assumption) ?_
          rotate_left 1
          · (intro w' hSw; (try dsimp only at hSw); go_simp; all_goals with_reducible rfl)
          (try simp only [Act.put, List.setIfInBounds_toArray, List.set_cons_zero, List.set_cons_succ])
          refine wpAnyH_take (i := 12) (v := ?_) rfl (by kernel_rfl) (by kernel_rfl) (by kernel_rfl) (fun _ _ _ h => h) (Or.inl ⟨by rfl, ?_⟩) (by assumption) ?_
          rotate_left 1
          · (intro w' hSw; (try dsimp only at hSw); go_simp; all_goals with_reducible rfl)
          (try simp only [Act.put, List.setIfInBounds_toArray, List.set_cons_zero, List.set_cons_succ])
          refine wpAnyH_take (i := 13) (v := ?_) rfl (by kernel_rfl) (by kernel_rfl) (by kernel_rfl) (fun _ _ _ h => h) (Or.inl ⟨by rfl, ?_⟩) (by assumption) ?_
          rotate_left 1
          · (intro w' hSw; (try dsimp only at hSw); go_simp; all_goals with_reducible rfl)
          (try simp only [Act.put, List.setIfInBounds_toArray, List.set_cons_zero, List.set_cons_succ])
          refine wpAnyH_take (i := 14) (v := insV x) rfl (by kernel_rfl) (by kernel_rfl) (by kernel_rfl) (fun _ _ _ h => h) (Or.inl ⟨by rfl, ?_⟩) (by assumption) ?_
          · (intro w' hSw; exact run_load_ins rfl (by simp [Act.eval]) hSw.2.2)
          (try simp only [Act.put, List.setIfInBounds_toArray, List.set_cons_zero, List.set_cons_succ])
          have hbd : Below wJ.heap.size wJ wJ.drew := (Below.refl _ _).drew
          have hba : Below wJ.heap.size wJ (wJ.drew.alloc (.cells (insC x) 43)) := hbd.alloc hbd.size _
          have HD := HJ6.out.go hba
          have HKI : Blk (wJ.drew.alloc (.cells (insC x) 43)) wJ.heap.size 43 (insC x) := heap_alloc_last wJ.drew _
          have hxg : some g ≠ (Value.slice va c.length vc).ownBlock := Ne.symm (row_off HOW.out H4.out.blk (by decide))
          have hxt : some tg ≠ (Value.slice va c.length vc).ownBlock := by
            obtain ⟨cur, hbt⟩ := HTB.out
            exact Ne.symm (row_off HOW.out hbt (by decide))
          have hxx : some gx ≠ (Value.slice va c.length vc).ownBlock := fun e => by have := HVX.out _ e.symm; omega
          have how : OwnInss B (wJ.drew.alloc (.cells (insC x) 43)) (.slice va c.length vc) c := HD.fam.own ts.length _ c (by simp) (by show s.thr[ts.length]? = _; rw [ETH.out, HM.out]; simp)
          refine wpAnyH_ready (rs := [15]) (by kernel_rfl) (by simp) ?_
          refine AllReadyH.cons rfl (fun K hK => ?_) AllReadyH.nil
          refine step_buildIns rfl x (.tmp 71) rfl (by simp [Act.eval]) ?_
          refine hK.out _ _ ?_ (fun hHeld => ?_)
          · exact KP.out _ hba
          clear hK K
          (try simp only [Act.put, List.setIfInBounds_toArray, List.set_cons_zero, List.set_cons_succ])
          refine wpAnyH_ready (rs := [16]) (by kernel_rfl) (by simp) ?_
          refine AllReadyH.cons rfl (fun K hK => ?_) AllReadyH.nil
          refine step_appendIns rfl (.tmp 70) (.tmp 72) rfl B (.slice va c.length vc) c (by simp [Act.eval]) how wJ.heap.size x (by simp [Act.eval]) HKI (by omega) HD.size ?_
          intro va9 vn9 vc9 w9 hown9 hB9 hgr9 hat9
          refine hK.out _ _ ?_ (fun hHeld => ?_)
          · exact ⟨hgr9.cell hHeld.1 hxg, hgr9.cell hHeld.2.1 hxt, hHeld.2.2.kept hgr9 hxx⟩
          clear hK K
          (try simp only [Act.put, List.setIfInBounds_toArray, List.set_cons_zero, List.set_cons_succ])
          refine wpAnyH_take (i := 17) (v := ?_) rfl (by kernel_rfl) (by kernel_rfl) (by kernel_rfl) (fun _ _ _ h => h) (Or.inl ⟨by rfl, ?_⟩) (by assumption) ?_
          rotate_left 1
          · (intro w' hSw; (try dsimp only at hSw); go_simp; all_goals with_reducible rfl)
          (try simp only [Act.put, List.setIfInBounds_toArray, List.set_cons_zero, List.set_cons_succ])
          have HG := HD.growL ETH.out hown9 hgr9 hat9
          obtain ⟨tg9, cp9, HG⟩ := HG
          have e9 : tg9 = tg := by
            have et9 := HG.1
            simp only [Value.slice.injEq, Option.some.injEq, Addr.mk.injEq] at et9
            exact et9.1.1.symm
          have hc9 := HG.2.2.2.1
          have hf9 := HG.2.2.2.2.1
          have H7 := HG.2.2.2.2.2
          clear HG
          subst tg9
          have HBF : Hid (Chg B g w (w9.setCell ⟨tg, ts.length, none⟩ (.slice va9 vn9 vc9))) := ((HBJ.out.trans (Chg.of hba)).trans (Chg.grow hgr9 how (by decide))).setB hBt HGT.out _ _
          have H8 : Hid (RdAt B g (.slice ia s.ini.length ic) (.slice (some ⟨tg, 0, none⟩) (ts.length + 1) tc) (.slice va8 vn8 vc8) (ts ++ [.slice va9 vn9 vc9]) (w9.setCell ⟨tg, ts.length, none⟩ (.slice va9 vn9 vc9)) (growR s th c x)) := by
            unfold growR
            rw [if_pos hop, ← HM.out]
            exact H7
          clear H7 HD how HKI hba hbd hxg hxt hxx hgr9 hat9 hown9 hB9
          refine wpAnyH_done (by kernel_rfl) ?_ _
          show Oper.wp _ _ _ _ _ _
          unfold Oper.wp
          go_simp
          go_wp2_with fail
          go_ret
          first
            | exact ⟨rfl, HBF.out, _, _, H8.out⟩
            | exact ⟨rfl, HBF.out, fun _ => ⟨_, _, H8.out⟩⟩
        · go_upto_region 10 with fail
          clear c1 d0
          have c1 := H4.out.blk.cell 1
          simp at c1
          have KP : Hid (∀ V, Below w4.heap.size w4 V → V.cell? ⟨g, 1, none⟩ = some (.slice (some ⟨tg, 0, none⟩) (ts.length + 1) tc) ∧ V.cell? ⟨tg, ts.length, none⟩ = some (.slice va c.length vc) ∧ Blk V gx 43 (insC x)) := fun V hV => ⟨(hV.cell (World.block_lt_of_cell? _ _ c1)).trans c1, (hV.cell (World.block_lt_of_cell? _ _ d1)).trans d1, HKX.out.below hV⟩
          clear c1 d1
          refine wp_region_last (S := (fun w' => w'.cell? ⟨g, 1, none⟩ = some (.slice (some ⟨tg, 0, none⟩) (ts.length + 1) tc) ∧ w'.cell? ⟨tg, ts.length, none⟩ = some (.slice va c.length vc) ∧ Blk w' gx 43 (insC x))) 18 (by kernel_rfl) rfl (by kernel_rfl) (KP.out _ (Below.refl _ _).drew) (fun hHeld => ?_)
          simp only [List.take_succ_cons, List.take_zero]
          refine wpAnyH_take (i := 0) (v := ?_) rfl (by kernel_rfl) (by kernel_rfl) (by kernel_rfl) (fun _ _ _ h => h) (Or.inl ⟨by rfl, ?_⟩) (by assumption) ?_
          rotate_left 1
          · (intro w' hSw; (try dsimp only at hSw); go_simp; all_goals with_reducible rfl)
          (try simp only [Act.put, List.setIfInBounds_toArray, List.set_cons_zero, List.set_cons_succ])
          refine wpAnyH_take (i := 1) (v := ?_) rfl (by kernel_rfl) (by kernel_rfl) (by kernel_rfl) (fun _ _ _ h => h) (Or.inl ⟨by rfl, ?_⟩) (by assumption) ?_
          rotate_left 1
          · (intro w' hSw; (try dsimp only at hSw); go_simp; all_goals with_reducible rfl)
          (try simp only [Act.put, List.setIfInBounds_toArray, List.set_cons_zero, List.set_cons_succ])
          refine wpAnyH_take (i := 2) (v := ?_) rfl (by kernel_rfl) (by kernel_rfl) (by kernel_rfl) (fun _ _ _ h => h) (Or.inl ⟨by rfl, ?_⟩) (by assumption) ?_
          rotate_left 1
          · (intro w' hSw; (try dsimp only at hSw); go_simp; all_goals with_reducible rfl)
          (try simp only [Act.put, List.setIfInBounds_toArray, List.set_cons_zero, List.set_cons_succ])
          refine wpAnyH_take (i := 3) (v := ?_) rfl (by kernel_rfl) (by kernel_rfl) (by kernel_rfl) (fun _ _ _ h => h) (Or.inl ⟨by rfl, ?_⟩) (by assumption) ?_
          rotate_left 1
          · (intro w' hSw; (try dsimp only at hSw); go_simp; all_goals with_reducible rfl)
          (try simp only [Act.put, List.setIfInBounds_toArray, List.set_cons_zero, List.set_cons_succ])
          refine wpAnyH_take (i := 4) (v := ?_) rfl (by kernel_rfl) (by kernel_rfl) (by kernel_rfl) (fun _ _ _ h => h) (Or.inl ⟨by rfl, ?_⟩) (by assumption) ?_
          rotate_left 1
          · (intro w' hSw; (try dsimp only at hSw); go_simp; all_goals with_reducible rfl)
          (try simp only [Act.put, List.setIfInBounds_toArray, List.set_cons_zero, List.set_cons_succ])
          refine wpAnyH_take (i := 5) (v := ?_) rfl (by kernel_rfl) (by kernel_rfl) (by kernel_rfl) (fun _ _ _ h => h) (Or.inl ⟨by rfl, ?_⟩) (by assumption) ?_
          rotate_left 1
          · (intro w' hSw; (try dsimp only at hSw); go_simp; all_goals with_reducible rfl)
          (try simp only [Act.put, List.setIfInBounds_toArray, List.set_cons_zero, List.set_cons_succ])
          refine wpAnyH_take (i := 6) (v := ?_) rfl (by kernel_rfl) (by kernel_rfl) (by kernel_rfl) (fun _ _ _ h => h) (Or.inl ⟨by rfl, ?_⟩) (by assumption) ?_
          rotate_left 1
          · (intro w' hSw; (try dsimp only at hSw); go_simp; all_goals with_reducible rfl)
          (try simp only [Act.put, List.setIfInBounds_toArray, List.set_cons_zero, List.set_cons_succ])
          refine wpAnyH_take (i := 7) (v := ?_) rfl (by kernel_rfl) (by kernel_rfl) (by kernel_rfl) (fun _ _ _ h => h) (Or.inl ⟨by rfl, ?_⟩) (by assumption) ?_
          rotate_left 1
          · (intro w' hSw; (try dsimp only at hSw); go_simp; all_goals with_reducible rfl)
          (try simp only [Act.put, List.setIfInBounds_toArray, List.set_cons_zero, List.set_cons_succ])
          refine wpAnyH_take (i := 8) (v := ?_) rfl (by kernel_rfl) (by kernel_rfl) (by kernel_rfl) (fun _ _ _ h => h) (Or.inl ⟨by rfl, ?_⟩) (by assumption) ?_
          rotate_left 1
          · (intro w' hSw; (try dsimp only at hSw); go_simp; all_goals with_reducible rfl)
          (try simp only [Act.put, List.setIfInBounds_toArray, List.set_cons_zero, List.set_cons_succ])
          refine wpAnyH_take (i := 9) (v := ?_) rfl (by kernel_rfl) (by kernel_rfl) (by kernel_rfl) (fun _ _ _ h => h) (Or.inl ⟨by rfl, ?_⟩) (by assumption) ?_
          rotate_left 1
          · (intro w' hSw; (try dsimp only at hSw); go_simp; all_goals with_reducible rfl)
          (try simp only [Act.put, List.setIfInBounds_toArray, List.set_cons_zero, List.set_cons_succ])
          refine wpAnyH_take (i := 10) (v := ?_) rfl (by kernel_rfl) (by kernel_rfl) (by kernel_rfl) (fun _ _ _ h => h) (Or.inl ⟨by rfl, ?_⟩) (by assumption) ?_
          rotate_left 1
          · (intro w' hSw; (try dsimp only at hSw); go_simp; all_goals with_reducible rfl)
          (try simp only [Act.put, List.setIfInBounds_toArray, List.set_cons_zero, List.set_cons_succ])
          refine wpAnyH_take (i := 11) (v := ?_) rfl (by kernel_rfl) (by kernel_rfl) (by kernel_rfl) (fun _ _ _ h => h) (Or.inl ⟨by rfl, ?_⟩) (by assumption) ?_
          rotate_left 1
          · (intro w' hSw; (try dsimp only at hSw); go_simp; all_goals with_reducible rfl)
          (try simp only [Act.put, List.setIfInBounds_toArray, List.set_cons_zero, List.set_cons_succ])
          refine wpAnyH_take (i := 12) (v := ?_) rfl (by kernel_rfl) (by kernel_rfl) (by kernel_rfl) (fun _ _ _ h => h) (Or.inl ⟨by rfl, ?_⟩) (by assumption) ?_
          rotate_left 1
          · (intro w' hSw; (try dsimp only at hSw); go_simp; all_goals with_reducible rfl)
          (try simp only [Act.put, List.setIfInBounds_toArray, List.set_cons_zero, List.set_cons_succ])
          refine wpAnyH_take (i := 13) (v := ?_) rfl (by kernel_rfl) (by kernel_rfl) (by kernel_rfl) (fun _ _ _ h => h) (Or.inl ⟨by rfl, ?_⟩) (by assumption) ?_
          rotate_left 1
          · (intro w' hSw; (try dsimp only at hSw); go_simp; all_goals with_reducible rfl)
          (try simp only [Act.put, List.setIfInBounds_toArray, List.set_cons_zero, List.set_cons_succ])
          refine wpAnyH_take (i := 14) (v := insV x) rfl (by kernel_rfl) (by kernel_rfl) (by kernel_rfl) (fun _ _ _ h => h) (Or.inl ⟨by rfl, ?_⟩) (by assumption) ?_
          · (intro w' hSw; exact run_load_ins rfl (by simp [Act.eval]) hSw.2.2)
          (try simp only [Act.put, List.setIfInBounds_toArray, List.set_cons_zero, List.set_cons_succ])
          have hbd : Below w4.heap.size w4 w4.drew := (Below.refl _ _).drew
          have hba : Below w4.heap.size w4 (w4.drew.alloc (.cells (insC x) 43)) := hbd.alloc hbd.size _
          have HD := H4.out.go hba
          have HKI : Blk (w4.drew.alloc (.cells (insC x) 43)) w4.heap.size 43 (insC x) := heap_alloc_last w4.drew _
          have hxg : some g ≠ (Value.slice va c.length vc).ownBlock := Ne.symm (row_off HOW.out H4.out.blk (by decide))
          have hxt : some tg ≠ (Value.slice va c.length vc).ownBlock := by
            obtain ⟨cur, hbt⟩ := HTB.out
            exact Ne.symm (row_off HOW.out hbt (by decide))
          have hxx : some gx ≠ (Value.slice va c.length vc).ownBlock := fun e => by have := HVX.out _ e.symm; omega
          have how : OwnInss B (w4.drew.alloc (.cells (insC x) 43)) (.slice va c.length vc) c := HD.fam.own ts.length _ c (by simp) (by show s.thr[ts.length]? = _; rw [ETH.out, HM.out]; simp)
          refine wpAnyH_ready (rs := [15]) (by kernel_rfl) (by simp) ?_
          refine AllReadyH.cons rfl (fun K hK => ?_) AllReadyH.nil
          refine step_buildIns rfl x (.tmp 71) rfl (by simp [Act.eval]) ?_
          refine hK.out _ _ ?_ (fun hHeld => ?_)
          · exact KP.out _ hba
          clear hK K
          (try simp only [Act.put, List.setIfInBounds_toArray, List.set_cons_zero, List.set_cons_succ])
          refine wpAnyH_ready (rs := [16]) (by kernel_rfl) (by simp) ?_
          refine AllReadyH.cons rfl (fun K hK => ?_) AllReadyH.nil
          refine step_appendIns rfl (.tmp 70) (.tmp 72) rfl B (.slice va c.length vc) c (by simp [Act.eval]) how w4.heap.size x (by simp [Act.eval]) HKI (by omega) HD.size ?_
          intro va9 vn9 vc9 w9 hown9 hB9 hgr9 hat9
          refine hK.out _ _ ?_ (fun hHeld => ?_)
          · exact ⟨hgr9.cell hHeld.1 hxg, hgr9.cell hHeld.2.1 hxt, hHeld.2.2.kept hgr9 hxx⟩
          clear hK K
          (try simp only [Act.put, List.setIfInBounds_toArray, List.set_cons_zero, List.set_cons_succ])
          refine wpAnyH_take (i := 17) (v := ?_) rfl (by kernel_rfl) (by kernel_rfl) (by kernel_rfl) (fun _ _ _ h => h) (Or.inl ⟨by rfl, ?_⟩) (by assumption) ?_
          rotate_left 1
          · (intro w' hSw; (try dsimp only at hSw); go_simp; all_goals with_reducible rfl)
          (try simp only [Act.put, List.setIfInBounds_toArray, List.set_cons_zero, List.set_cons_succ])
          have HG := HD.growL ETH.out hown9 hgr9 hat9
          obtain ⟨tg9, cp9, HG⟩ := HG
          have e9 : tg9 = tg := by
            have et9 := HG.1
            simp only [Value.slice.injEq, Option.some.injEq, Addr.mk.injEq] at et9
            exact et9.1.1.symm
          have hc9 := HG.2.2.2.1
          have hf9 := HG.2.2.2.2.1
          have H7 := HG.2.2.2.2.2
          clear HG
          subst tg9
          have HBF : Hid (Chg B g w (w9.setCell ⟨tg, ts.length, none⟩ (.slice va9 vn9 vc9))) := ((HB4.out.trans (Chg.of hba)).trans (Chg.grow hgr9 how (by decide))).setB hBt HGT.out _ _
          have H8 : Hid (RdAt B g (.slice ia s.ini.length ic) (.slice (some ⟨tg, 0, none⟩) (ts.length + 1) tc) jv (ts ++ [.slice va9 vn9 vc9]) (w9.setCell ⟨tg, ts.length, none⟩ (.slice va9 vn9 vc9)) (growR s th c x)) := by
            unfold growR
            rw [if_neg hop]
            exact H7
          clear H7 HD how HKI hba hbd hxg hxt hxx hgr9 hat9 hown9 hB9
          refine wpAnyH_done (by kernel_rfl) ?_ _
          show Oper.wp _ _ _ _ _ _
          unfold Oper.wp
          go_simp
          go_wp2_with fail
          go_ret
          first
            | exact ⟨rfl, HBF.out, _, _, H8.out⟩
            | exact ⟨rfl, HBF.out, fun _ => ⟨_, _, H8.out⟩⟩
end
end Go.Proofs.YthopmdfichfhdaaGreatDoor
