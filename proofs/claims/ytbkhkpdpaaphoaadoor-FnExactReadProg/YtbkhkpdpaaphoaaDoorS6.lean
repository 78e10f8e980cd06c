/-
  The document's reading of a program's text: what goes on from line to line. No statement of the seat is proved here.
-/
import Derived.Test.YtbkhkpdpaaphoaaDoorS3
import Derived.Test.YtbkhkpdpaaphoaaDoorS5
import Derived.Test.YtbkhkpdpaaphoaaDoorJ3b
namespace Go.Proofs.YtbkhkpdpaaphoaaDoor
open Go.ChangeShapes Go.WideShapes Go.ChangeAt Go.RowKit
set_option linter.unusedVariables false
set_option linter.unusedSimpArgs false

/-! ### Words are not empty -/
theorem byteAt_lt {t : ByteArray} {k g : Nat} (h : byteAt t k = g) (hg : 0 < g) : k < t.size := by
  unfold byteAt at h
  split at h
  · assumption
  · omega
theorem wordsUp_ne (t : ByteArray) : ∀ k, ∀ y ∈ (wordsUp t k).1, 0 < y.size
  | 0 => fun y hy => by cases hy
  | k + 1 => by
    rw [wordsUp_succ]
    split
    · rename_i hb
      have hk := byteAt_lt hb (by decide)
      dsimp only
      split
      · rename_i hlt
        intro y hy
        rcases List.mem_append.1 hy with hy | hy
        · exact wordsUp_ne t k y hy
        · rw [List.mem_singleton.1 hy, ByteArray.size_extract]; omega
      · exact wordsUp_ne t k
    · exact wordsUp_ne t k
theorem wordsF_ne (t : ByteArray) : ∀ y ∈ wordsF t, y ≠ ⟨#[]⟩ := by
  have key : ∀ y ∈ wordsF t, 0 < y.size := by
    intro y hy
    unfold wordsF at hy
    split at hy
    · rename_i hlt
      rcases List.mem_append.1 hy with hy | hy
      · exact wordsUp_ne t _ y hy
      · rw [List.mem_singleton.1 hy, ByteArray.size_extract]; omega
    · exact wordsUp_ne t _ y hy
  intro y hy e
  have := key y hy
  rw [e] at this
  exact absurd this (by decide)
/-! ### Lines -/
/-- Where a thread is there, the cells are. -/
def IniFst (s : Rd) : Prop := 0 < s.thr.length → 0 < s.ini.length
theorem cells_no {ws : List ByteArray} {n : Nat} : insI (cellsW :: ws) n = none := insI_no (by show idxV frmW cellsW < 0; have : idxV frmW cellsW = -1 := (by kernel_rfl); rw [this]; decide)
theorem thread_no {ws : List ByteArray} {n : Nat} : insI (threadW :: ws) n = none := insI_no (by show idxV frmW threadW < 0; have : idxV frmW threadW = -1 := (by kernel_rfl); rw [this]; decide)
theorem instrF_none (s : Rd) (c : Option (List Ins)) : instrF s c none = (4, s) := by cases c <;> rfl
/-- A line that is neither the cells nor a thread is an instruction, or a fault. -/
theorem line_else {s : Rd} (hi : IniFst s) {y : ByteArray} {ws : List ByteArray} (h1 : ¬ (y = cellsW ∧ s.ini.length = 0 ∧ s.thr.length = 0)) (h2 : ¬ (y = threadW ∧ ws.length = 0 ∧ 0 < s.ini.length)) : wordsR s (y :: ws) = instrR s (y :: ws) := by
  show (if y = cellsW then cellsR s ws else if y = threadW then threadR s ws else instrR s (y :: ws)) = _
  by_cases hc : y = cellsW
  · rw [if_pos hc]
    unfold cellsR instrR
    rw [hc, cells_no, instrF_none, if_pos]
    left
    by_cases h0 : s.ini.length = 0
    · have h3 : 0 < s.thr.length := Nat.pos_of_ne_zero (fun h => h1 ⟨hc, h0, h⟩)
      exact hi h3
    · omega
  · rw [if_neg hc]
    by_cases ht : y = threadW
    · rw [if_pos ht]
      unfold threadR instrR
      rw [ht, thread_no, instrF_none]
      by_cases h0 : s.ini.length = 0
      · rw [if_pos h0]
      · rw [if_neg h0, if_pos]
        exact Nat.pos_of_ne_zero (fun h => h2 ⟨ht, h, by omega⟩)
    · rw [if_neg ht]
theorem read_ini {s : Rd} (hi : IniFst s) (t : ByteArray) (h0 : (readR s t).1 = 0) : IniFst (readR s t).2 := by
  unfold readR at h0 ⊢
  cases hw : wordsF (lineF t) with
  | nil => exact hi
  | cons y ws =>
    rw [hw] at h0
    simp only [wordsR] at h0 ⊢
    split at h0
    · rename_i h1
      rw [if_pos h1]
      unfold cellsR at h0 ⊢
      split at h0
      · cases h0
      · rename_i h2
        split at h0
        · rename_i h3
          rw [if_neg h2, if_pos h3]
          intro _
          simp only [List.length_append, List.length_map]
          omega
        · cases h0
    · rename_i h1
      rw [if_neg h1]
      split at h0
      · rename_i h2
        rw [if_pos h2]
        unfold threadR at h0 ⊢
        split at h0
        · cases h0
        · rename_i h3
          split at h0
          · cases h0
          · rename_i h4
            split at h0
            · cases h0
            · rename_i h5
              rw [if_neg h3, if_neg h4, if_neg h5]
              intro _
              dsimp only
              omega
      · rename_i h2
        rw [if_neg h2]
        unfold instrR at h0 ⊢
        cases hg : s.thr.getLast? with
        | none => rw [hg] at h0; cases h0
        | some c =>
          cases hx : insI (y :: ws) s.ini.length with
          | none => rw [hg, hx] at h0; cases h0
          | some x =>
            rw [hg, hx] at h0
            simp only [instrF] at h0 ⊢
            split at h0
            · cases h0
            · rename_i h3
              rw [if_neg h3]
              intro _
              show 0 < s.ini.length
              refine hi ?_
              cases hs : s.thr with
              | nil => rw [hs] at hg; cases hg
              | cons a l => simp
/-- The state between two lines. -/
structure StAt (h0 gr gp lb : Nat) (cs : Array Value) (iv tv wv : Value) (tvs wvs : List Value) (w W : World) (s : Rd) (wh : List (List Int)) : Prop where
  res : Blk W gr 25 #[.slice none 0 0, .slice none 0 0]
  lns : Blk W lb 9 cs
  sp : SpAt h0 gp iv tv wv tvs wvs W s wh
  bel : Below h0 w W
  ne : gr ≠ gp
  gph : h0 ≤ gp
  grh : h0 ≤ gr
section
variable {h0 gr gp lb : Nat} {cs : Array Value} {iv tv wv : Value} {tvs wvs : List Value} {w W : World} {s : Rd} {wh : List (List Int)}
theorem StAt.go (h : StAt h0 gr gp lb cs iv tv wv tvs wvs w W s wh) {W' : World} (hb : Below W.heap.size W W') : StAt h0 gr gp lb cs iv tv wv tvs wvs w W' s wh :=
  ⟨h.res.below hb, h.lns.below hb, h.sp.go hb, h.bel.trans (hb.mono (Nat.le_trans h.sp.size (Nat.le_refl _))), h.ne, h.gph, h.grh⟩
theorem StAt.line (h : StAt h0 gr gp lb cs iv tv wv tvs wvs w W s wh) (l : Int) (j : List Jmp) : StAt h0 gr gp lb cs iv tv wv tvs wvs w W { s with ln := l, jmp := j } wh :=
  ⟨h.res, h.lns, h.sp.line l j, h.bel, h.ne, h.gph, h.grh⟩
theorem StAt.growI (h : StAt h0 gr gp lb cs iv tv wv tvs [] w W s []) {W' : World} {iv' : Value} {l : List Int} (ho : OwnNums h0 W' iv' l) (hg : W.grownBy W' iv.ownBlock) (hat : iv'.ownBlock = iv.ownBlock ∨ iv'.ownBlock = some W.heap.size) :
    Blk W' gp 25 #[iv, tv] ∧ StAt h0 gr gp lb cs iv' tv wv tvs [] w (W'.setCell ⟨gp, 0, none⟩ iv') { s with ini := l } [] := by
  obtain ⟨h1, h2⟩ := h.sp.growI ho hg hat
  have hb : Below h0 W W' := (Below.refl _ W).grown hg h.sp.size (row_low h.sp.ini)
  exact ⟨h1, (h.res.kept hg (Ne.symm (row_off h.sp.ini h.res (by decide)))).other h.ne _ _, (h.lns.kept hg (Ne.symm (row_off h.sp.ini h.lns (by decide)))).other (Blk.apart h.lns h.sp.blk (by decide)) _ _, h2, (h.bel.trans hb).setCell (p := ⟨gp, 0, none⟩) h.gph _, h.ne, h.gph, h.grh⟩
theorem StAt.growT (h : StAt h0 gr gp lb cs iv tv wv tvs wvs w W s wh) {W' : World} {tv' u : Value} (ho : W'.ownsRow h0 37 1 tv' (tvs.length + 1) (tvs ++ [u])) (hg : W.grownBy W' tv.ownBlock) (hu : OwnInss h0 W u []) (hn : ∀ (i : Nat) (x : Value), tvs[i]? = some x → x.ownBlock = none ∨ x.ownBlock ≠ u.ownBlock) :
    Blk W' gp 25 #[iv, tv] ∧ StAt h0 gr gp lb cs iv tv' wv (tvs ++ [u]) wvs w (W'.setCell ⟨gp, 1, none⟩ tv') { s with thr := s.thr ++ [[]] } wh := by
  obtain ⟨h1, h2⟩ := h.sp.growT ho hg hu hn
  have hb : Below h0 W W' := (Below.refl _ W).grown hg h.sp.size (row_low h.sp.thr)
  exact ⟨h1, (h.res.kept hg (Ne.symm (row_off h.sp.thr h.res (by decide)))).other h.ne _ _, (h.lns.kept hg (Ne.symm (row_off h.sp.thr h.lns (by decide)))).other (Blk.apart h.lns h.sp.blk (by decide)) _ _, h2, (h.bel.trans hb).setCell (p := ⟨gp, 1, none⟩) h.gph _, h.ne, h.gph, h.grh⟩
theorem StAt.growW (h : StAt h0 gr gp lb cs iv tv wv tvs wvs w W s wh) {W' : World} {wv' u : Value} (ho : W'.ownsRow h0 22 1 wv' (wvs.length + 1) (wvs ++ [u])) (hg : W.grownBy W' wv.ownBlock) (hu : OwnNums h0 W u []) (hn : ∀ (i : Nat) (x : Value), (iv :: wvs)[i]? = some x → x.ownBlock = none ∨ x.ownBlock ≠ u.ownBlock) :
    StAt h0 gr gp lb cs iv tv wv' tvs (wvs ++ [u]) w W' s (wh ++ [[]]) :=
  ⟨h.res.kept hg (Ne.symm (row_off h.sp.whr h.res (by decide))), h.lns.kept hg (Ne.symm (row_off h.sp.whr h.lns (by decide))), h.sp.growW ho hg hu hn, h.bel.trans ((Below.refl _ W).grown hg h.sp.size (row_low h.sp.whr)), h.ne, h.gph, h.grh⟩
theorem StAt.growL {ts : List Value} {v v' : Value} {th : List (List Ins)} {c c' : List Ins} (h : StAt h0 gr gp lb cs iv tv wv (ts ++ [v]) wvs w W s wh) (hs : s.thr = th ++ [c]) {W' : World} (ho : OwnInss h0 W' v' c') (hg : W.grownBy W' v.ownBlock) (hat : v'.ownBlock = v.ownBlock ∨ v'.ownBlock = some W.heap.size) :
    ∃ tg cap, tv = .slice (some ⟨tg, 0, none⟩) (ts.length + 1) cap ∧ h0 ≤ tg ∧ tg < W.heap.size ∧ W'.cell? ⟨tg, ts.length, none⟩ = some v ∧ W'.frozen? ⟨tg, ts.length, none⟩ = false ∧ StAt h0 gr gp lb cs iv tv wv (ts ++ [v']) wvs w (W'.setCell ⟨tg, ts.length, none⟩ v') { s with thr := th ++ [c'] } wh := by
  have hf0 := h.sp.fam
  rw [hs] at hf0
  have hlen : ts.length = th.length := by simpa using hf0.len
  have hov : OwnInss h0 W v c := hf0.own ts.length v c (by simp) (by rw [hlen]; simp)
  obtain ⟨tg, cap, e, hB, hlt, h1, h2, h3⟩ := h.sp.growL hs ho hg hat
  have hb : Below h0 W W' := (Below.refl _ W).grown hg h.sp.size (row_low hov)
  obtain ⟨cur, hbt⟩ := row_blk (n := ts.length + 1) (g := tg) (cap := cap) (by have := h.sp.thr; rw [List.length_append] at this; exact this) e
  exact ⟨tg, cap, e, hB, hlt, h1, h2, (h.res.kept hg (Ne.symm (row_off hov h.res (by decide)))).other (Blk.apart h.res hbt (by decide)) _ _, (h.lns.kept hg (Ne.symm (row_off hov h.lns (by decide)))).other (Blk.apart h.lns hbt (by decide)) _ _, h3, (h.bel.trans hb).setCell (p := ⟨tg, ts.length, none⟩) hB _, h.ne, h.gph, h.grh⟩
theorem StAt.growN {us : List Value} {v v' : Value} {wt : List (List Int)} {r r' : List Int} (h : StAt h0 gr gp lb cs iv tv wv tvs (us ++ [v]) w W s (wt ++ [r])) {W' : World} (ho : OwnNums h0 W' v' r') (hg : W.grownBy W' v.ownBlock) (hat : v'.ownBlock = v.ownBlock ∨ v'.ownBlock = some W.heap.size) :
    ∃ tg cap, wv = .slice (some ⟨tg, 0, none⟩) (us.length + 1) cap ∧ h0 ≤ tg ∧ tg < W.heap.size ∧ W'.cell? ⟨tg, us.length, none⟩ = some v ∧ W'.frozen? ⟨tg, us.length, none⟩ = false ∧ StAt h0 gr gp lb cs iv tv wv tvs (us ++ [v']) w (W'.setCell ⟨tg, us.length, none⟩ v') s (wt ++ [r']) := by
  have hlen : us.length = wt.length := by simpa using h.sp.num.len
  have hov : OwnNums h0 W v r := h.sp.num.own (us.length + 1) v r (by simp) (by rw [hlen]; simp)
  obtain ⟨tg, cap, e, hB, hlt, h1, h2, h3⟩ := h.sp.growN ho hg hat
  have hb : Below h0 W W' := (Below.refl _ W).grown hg h.sp.size (row_low hov)
  obtain ⟨cur, hbt⟩ := row_blk (n := us.length + 1) (g := tg) (cap := cap) (by have := h.sp.whr; rw [List.length_append] at this; exact this) e
  exact ⟨tg, cap, e, hB, hlt, h1, h2, (h.res.kept hg (Ne.symm (row_off hov h.res (by decide)))).other (Blk.apart h.res hbt (by decide)) _ _, (h.lns.kept hg (Ne.symm (row_off hov h.lns (by decide)))).other (Blk.apart h.lns hbt (by decide)) _ _, h3, (h.bel.trans hb).setCell (p := ⟨tg, us.length, none⟩) hB _, h.ne, h.gph, h.grh⟩
end
/-- What is kept of all lines ahead. -/
structure Ahead (ls : List ByteArray) (i : Nat) (s : Rd) (wh : List (List Int)) : Prop where
  run : runR rd0 (ls.take i) = (0, s)
  fit : RdFit s
  jin : JmpsIn s
  who : WhOk s wh
  fst : IniFst s
theorem Ahead.ln {ls : List ByteArray} {i : Nat} {s : Rd} {wh : List (List Int)} (h : Ahead ls i s wh) (hi : i ≤ ls.length) : s.ln = (i : Int) := by
  have := runR_ln rd0 (ls.take i) (by rw [h.run])
  rw [h.run, List.length_take] at this
  simp only [rd0] at this
  omega
/-- A line that is read. -/
theorem Ahead.next {ls : List ByteArray} {i : Nat} {s : Rd} {wh : List (List Int)} (h : Ahead ls i s wh) (hi : i < ls.length) {s' : Rd} (hr : readR { s with ln := s.ln + 1 } ls[i] = (0, s')) {wh' : List (List Int)} (hw : WhOk s' wh') : Ahead ls (i + 1) s' wh' := by
  have hf : RdFit { s with ln := s.ln + 1 } := ⟨h.fit.ini, h.fit.thr, h.fit.cod, h.fit.jmp⟩
  refine ⟨?_, ?_, ?_, hw, ?_⟩
  · rw [List.take_add_one, List.getElem?_eq_getElem hi]
    show runR rd0 (ls.take i ++ [ls[i]]) = _
    rw [runR_snoc _ _ _ (by rw [h.run]), h.run]
    simp only [runR]
    rw [hr]
    rfl
  · have := read_fit hf ls[i] (by rw [hr]); rwa [hr] at this
  · have := read_in (s := { s with ln := s.ln + 1 }) h.jin ls[i] (by rw [hr]); rwa [hr] at this
  · have := read_ini (s := { s with ln := s.ln + 1 }) h.fst ls[i] (by rw [hr]); rwa [hr] at this
/-- A line with a fault. -/
theorem Ahead.bad {ls : List ByteArray} {i : Nat} {s : Rd} {wh : List (List Int)} (h : Ahead ls i s wh) (hi : i < ls.length) {c : Int} {s' : Rd} (hr : readR { s with ln := s.ln + 1 } ls[i] = (c, s')) (hc : c ≠ 0) : doneR (runR rd0 ls) = ⟨[], [], c, (i : Int) + 1⟩ := by
  have e : ls = (ls.take i ++ [ls[i]]) ++ ls.drop (i + 1) := by
    rw [List.append_assoc]
    show ls = ls.take i ++ (ls[i] :: ls.drop (i + 1))
    rw [← List.drop_eq_getElem_cons hi, List.take_append_drop]
  have h1 : runR rd0 (ls.take i ++ [ls[i]]) = (c, { s with ln := s.ln + 1 }) := by
    rw [runR_snoc _ _ _ (by rw [h.run]), h.run]
    simp only [runR]
    rw [hr, if_neg hc]
  have h2 := runR_stop (ls.take i ++ [ls[i]]) (ls.drop (i + 1)) rd0 (by rw [h1]; exact hc)
  rw [← e, h1] at h2
  rw [h2]
  unfold doneR
  dsimp only
  rw [if_neg hc, h.ln (by omega)]
theorem Ahead.start (ls : List ByteArray) : Ahead ls 0 rd0 [] := ⟨by rw [List.take_zero]; rfl, ⟨by simp [rd0], by simp [rd0], by simp [rd0], by simp [rd0]⟩, (fun j hj => by cases hj), whok0 0, (fun h => by simp [rd0] at h)⟩
theorem results_cell_tt {fn : Func} {p u q : Tmp} {tp : TypeId} (h : fn.results = #[.cell p tp, .tmp u, .tmp q]) (tmps : Array Value) (P : Program) (w : World) :
    (results fn tmps).run P w = ((asAddr (tmps.getD p undef)).run P w).andThen fun a w₁ => ((loadVar tp a).run P w₁).andThen fun v w₂ => .ok (.tuple #[v, tmps.getD u undef, tmps.getD q undef]) w₂ := by
  simp only [results, h]
  simp [Sem.run_bind, Result.andThen]
theorem results_prg {fn : Func} {p u q : Tmp} (h : fn.results = #[.cell p 25, .tmp u, .tmp q]) (tmps : Array Value) (w : World) (g : Nat) (x y : Value) (hp : tmps.getD p undef = .pointer (some ⟨g, 0, none⟩)) (hg : Blk w g 25 #[x, y]) (v v' : Value) (hv : tmps.getD u undef = v) (hv' : tmps.getD q undef = v') :
    (results fn tmps).run Tryd.prog w = .ok (.tuple #[.agg #[x, y], v, v']) w := by
  have hl := run_loadVar_row (P := Tryd.prog) w g 25 25 #[x, y] (0, 0) _ hg Tryd.underlying25 rfl (by kernel_rfl)
  rw [results_cell_tt h, hp, hv, hv']
  simp only [asAddr, Sem.run_pure, Result.andThen_ok, hl]
/-- Where there is no end's fault the program stands; else its code and line. -/
theorem outR_ok {s : Rd} (h0 : s.thr.length ≠ 0) (h : farF s.thr s.jmp = (0, 0)) : outR s = ⟨s.ini, s.thr, 0, 0⟩ := by
  unfold outR endR
  rw [if_neg h0, h]
  rfl
theorem outR_far {s : Rd} (h0 : s.thr.length ≠ 0) {l : Int} (h : farF s.thr s.jmp = (9, l)) : outR s = ⟨[], [], 9, l⟩ := by
  unfold outR endR
  rw [if_neg h0, h]
  rfl
theorem outR_none {s : Rd} (h0 : s.thr.length = 0) : outR s = ⟨[], [], 4, s.ln⟩ := by
  unfold outR endR
  rw [if_pos h0]
  rfl
end Go.Proofs.YtbkhkpdpaaphoaaDoor
