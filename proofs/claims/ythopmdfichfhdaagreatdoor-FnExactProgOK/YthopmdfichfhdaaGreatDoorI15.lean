/-
  The end of a program's text, as the program reads it. No statement of the seat is proved here.
-/
import Derived.Test.YthopmdfichfhdaaGreatDoorI14
namespace Go.Proofs.YthopmdfichfhdaaGreatDoor
open Go.ChangeShapes Go.WideShapes Go.ChangeAt Go.RowKit
set_option linter.unusedVariables false
set_option linter.unusedSimpArgs false

/-- The first jump that goes too far. -/
def farF (thr : List (List Ins)) : List Jmp → Int × Int
  | [] => (0, 0)
  | j :: l => if ((thr.getD j.th.toNat []).length : Int) < j.aim then (9, j.ln) else farF thr l
def endR (s : Rd) : Int × Int := if s.thr.length = 0 then (4, s.ln) else farF s.thr s.jmp
/-- Each jump is of a thread that is there. -/
def JmpsIn (s : Rd) : Prop := ∀ j ∈ s.jmp, 0 ≤ j.th ∧ j.th < s.thr.length
theorem thread_in {s : Rd} (h : JmpsIn s) (ws : List ByteArray) (h0 : (threadR s ws).1 = 0) : JmpsIn (threadR s ws).2 := by
  unfold threadR at h0 ⊢
  split at h0
  · cases h0
  · rename_i h1
    split at h0
    · cases h0
    · rename_i h2
      split at h0
      · cases h0
      · rename_i h3
        rw [if_neg h1, if_neg h2, if_neg h3]
        intro j hj
        have := h j hj
        simp
        omega
theorem cells_in {s : Rd} (h : JmpsIn s) (ws : List ByteArray) (h0 : (cellsR s ws).1 = 0) : JmpsIn (cellsR s ws).2 := by
  unfold cellsR at h0 ⊢
  split at h0
  · cases h0
  · rename_i h1
    split at h0
    · rename_i h2
      rw [if_neg h1, if_pos h2]
      exact h
    · cases h0
theorem instr_in {s : Rd} (h : JmpsIn s) (ws : List ByteArray) (h0 : (instrR s ws).1 = 0) : JmpsIn (instrR s ws).2 := by
  unfold instrR at h0 ⊢
  rcases List.eq_nil_or_concat s.thr with e | ⟨th, c, e⟩
  · rw [e] at h0
    cases h0
  · rw [List.concat_eq_append] at e
    have hgl : s.thr.getLast? = some c := by rw [e]; simp
    have hdl : s.thr.dropLast = th := by rw [e]; simp
    rw [hgl] at h0 ⊢
    cases hx : insI ws s.ini.length with
    | none => rw [hx] at h0; cases h0
    | some x =>
      rw [hx] at h0
      simp only [instrF, hdl] at h0 ⊢
      split at h0
      · cases h0
      · rename_i hc
        rw [if_neg hc]
        unfold JmpsIn at h ⊢
        rw [e] at h
        simp only [growR, List.length_append, List.length_cons, List.length_nil] at h ⊢
        intro j hj
        split at hj
        · rcases List.mem_append.1 hj with hj | hj
          · exact h j hj
          · rw [List.mem_singleton.1 hj]
            simp
            omega
        · exact h j hj
theorem read_in {s : Rd} (h : JmpsIn s) (t : ByteArray) (h0 : (readR s t).1 = 0) : JmpsIn (readR s t).2 := by
  unfold readR at h0 ⊢
  cases hw : wordsF (lineF t) with
  | nil => exact h
  | cons y ws =>
    rw [hw] at h0
    simp only [wordsR] at h0 ⊢
    split at h0
    · rename_i h1
      rw [if_pos h1]
      exact cells_in h ws h0
    · rename_i h1
      rw [if_neg h1]
      split at h0
      · rename_i h2
        rw [if_pos h2]
        exact thread_in h ws h0
      · rename_i h2
        rw [if_neg h2]
        exact instr_in h _ h0
theorem flat_at {f : Jmp → List Value} (hf : ∀ y, (f y).length = 3) : ∀ (l : List Jmp) (k j : Nat) (hj : j < 3) (hk : k < l.length), (l.flatMap f)[k * 3 + j]? = (f l[k])[j]?
  | [], k, j, hj, hk => by simp at hk
  | a :: t, 0, j, hj, hk => by
    rw [List.flatMap_cons, List.getElem?_append_left (by rw [hf]; omega)]
    simp
  | a :: t, k + 1, j, hj, hk => by
    rw [List.flatMap_cons, List.getElem?_append_right (by rw [hf]; omega), hf, show (k + 1) * 3 + j - 3 = k * 3 + j by omega, flat_at hf t k j hj (by simpa using hk)]
    simp
/-- A cell of a row of jumps. -/
theorem jmp_cell {B : Nat} {w : World} {v : Value} {l : List Jmp} (h : OwnJmps B w v l) (h0 : 0 < l.length) : ∃ b cap, v = .slice (some ⟨b, 0, none⟩) l.length cap ∧ b < w.heap.size ∧ ∀ k (hk : k < l.length), w.cell? ⟨b, k * 3, none⟩ = some (.int .i64 (l[k]).ln) ∧ w.cell? ⟨b, k * 3 + 1, none⟩ = some (.int .i64 (l[k]).th) ∧ w.cell? ⟨b, k * 3 + 2, none⟩ = some (.int .i64 (l[k]).aim) := by
  rcases h.2 with ⟨_, e⟩ | ⟨b, cap, cur, e, hB, hg, h1, h2, h3, h4⟩
  · omega
  · refine ⟨b, cap, e, (Array.getElem?_eq_some_iff.1 hg).1, fun k hk => ?_⟩
    have hb : Blk w b 113 cur := hg
    have hrow : ∀ j, j < 3 → cur[k * 3 + j]? = (jmpC l[k])[j]? := fun j hj => by
      have hx := congrArg (fun l => l[k * 3 + j]?) h4
      simp only [List.getElem?_take] at hx
      rw [if_pos (by have := Nat.mul_le_mul_right 3 hk; omega)] at hx
      rw [← Array.getElem?_toList, hx]
      unfold JmpRow
      rw [flat_at (fun y => rfl) l k j hj hk]
      simp
    exact ⟨by rw [hb.cell]; exact hrow 0 (by omega), by rw [hb.cell]; exact hrow 1 (by omega), by rw [hb.cell]; exact hrow 2 (by omega)⟩
section
variable {B g : Nat} {iv tv jv : Value} {tvs : List Value} {w : World} {s : Rd}
theorem RdAt.thread (h : RdAt B g iv tv jv tvs w s) {k : Nat} (hk : k < s.thr.length) : ∃ tg cap, tv = .slice (some ⟨tg, 0, none⟩) s.thr.length cap ∧ tg < w.heap.size ∧ ∃ a c, w.cell? ⟨tg, k, none⟩ = some (.slice a (s.thr.getD k []).length c) := by
  have hl := h.fam.len
  obtain ⟨tg, cap, e, hB, hlt, hc, -⟩ := row_cell h.thr (by omega)
  rw [hl] at e
  refine ⟨tg, cap, e, hlt, ?_⟩
  have hk' : k < tvs.length := by omega
  have h1 := (hc k hk').1
  rw [List.getElem?_eq_getElem hk'] at h1
  have ho := h.fam.own k tvs[k] s.thr[k] (List.getElem?_eq_getElem hk') (List.getElem?_eq_getElem hk)
  obtain ⟨a, c, e2⟩ := row_shape ho
  refine ⟨a, c, ?_⟩
  rw [h1, e2]
  simp [List.getD, hk]
set_option maxRecDepth 100000 in
set_option maxHeartbeats 4000000 in
theorem implEnd (h : RdAt B g iv tv jv tvs w s) (hf : RdFit s) (hj : JmpsIn s) :
    Calls Tryz.prog 47 #[.pointer (some ⟨g, 0, none⟩)] w fun e w' => e = .returned (.tuple #[.int .i64 (endR s).1, .int .i64 (endR s).2]) ∧ Below w.heap.size w w' := by
  obtain ⟨R, hR⟩ : ∃ R, endR s = R := ⟨_, rfl⟩
  rw [hR]
  have c1 := h.blk.cell 1
  have c2 := h.blk.cell 2
  have c3 := h.blk.cell 3
  simp at c1 c2 c3
  have HR : Hid (endR s = R) := hR
  have H : Hid (RdAt B g iv tv jv tvs w s) := h
  have HJ : Hid (JmpsIn s) := hj
  have hm := hf.many
  have hthr := hf.thr
  obtain ⟨ta, tc, rfl⟩ := row_shape h.thr
  have hl : tvs.length = s.thr.length := h.fam.len
  rw [hl] at c1 H
  have hgw := World.block_lt_of_cell? _ _ c1
  obtain ⟨ja, jc, rfl⟩ := row_shape h.jmp
  clear hR h hf hj hl
  by_cases h0 : s.thr.length = 0
  · have hr : R = (4, s.ln) := by rw [← HR.out]; unfold endR; rw [if_pos h0]
    subst hr
    simp only [h0] at c1
    clear c3 hthr
    go_enter Tryz.func47, Tryz.ntmps47
    go_upto_region 2 with fail
    go_quiet (fail)
    go_wp2_with fail
    go_ret2
    exact ⟨rfl, below_drewNg _ _⟩
  · have hr : R = farF s.thr s.jmp := by rw [← HR.out]; unfold endR; rw [if_neg h0]
    have HR2 : Hid (R = farF s.thr s.jmp) := hr
    have hne : ¬ ((s.thr.length : Int) = 0) := by omega
    clear c2 hr
    go_enter Tryz.func47, Tryz.ntmps47
    go_wp2_with fail
    go_loopw [22] (fun i wr => ∃ k : Nat, i = .int .i64 (k : Int) ∧ k ≤ s.jmp.length ∧ Hid (farF s.thr s.jmp = farF s.thr (s.jmp.drop k)) ∧ Below w.heap.size w wr) (fun i _ => s.jmp.length - (intOf i).toNat)
    case atStart => exact ⟨0, rfl, Nat.zero_le _, by rw [List.drop_zero]; exact rfl, Below.refl _ _⟩
    case round =>
      obtain ⟨k, rfl, hk, hfar, hb⟩ := hrel
      by_cases hkn : k < s.jmp.length
      · have hkn' : (k : Int) < (s.jmp.length : Int) := by omega
        have H2 := H.out.go hb
        obtain ⟨jb, jc', ej, hjb, hcj⟩ := jmp_cell H2.jmp (by omega)
        injection ej with e1 _ e3
        subst e1 e3
        obtain ⟨d0, d1, d2⟩ := hcj k hkn
        have hdrop := List.drop_eq_getElem_cons hkn
        have HDR : Hid (s.jmp.drop k = s.jmp[k] :: s.jmp.drop (k + 1)) := hdrop
        obtain ⟨hth0, hth1⟩ := HJ.out s.jmp[k] (List.getElem_mem hkn)
        obtain ⟨x, hx⟩ : ∃ x, s.jmp[k] = x := ⟨_, rfl⟩
        rw [hx] at d0 d1 d2 hth0 hth1 hdrop
        have HX : Hid (s.jmp[k] = x) := hx
        have HDX : Hid (s.jmp.drop k = x :: s.jmp.drop (k + 1)) := hdrop
        clear hx hcj hdrop
        obtain ⟨xl, xt, xa⟩ := x
        dsimp only at d0 d1 d2 hth0 hth1
        obtain ⟨n, rfl⟩ := Int.eq_ofNat_of_zero_le hth0
        obtain ⟨tg, cap, et, htg, a, c, hcell⟩ := H2.thread (k := n) (by omega)
        injection et with e1 _ e3
        subst e1 e3
        obtain ⟨m, hm0⟩ : ∃ m, (s.thr.getD n []).length = m := ⟨_, rfl⟩
        rw [hm0] at hcell
        have HM0 : Hid ((s.thr.getD n []).length = m) := hm0
        have c1' := (hb.cell (p := ⟨g, 1, none⟩) hgw).trans c1
        have hn' : (n : Int) < (s.thr.length : Int) := hth1
        clear hm0 H2
        have hgr := Nat.lt_of_lt_of_le hgw hb.size
        have hbs := hb.size
        have hbf : ∀ o, Below w.heap.size w (wr.alloc o) := fun o => hb.alloc hb.size o
        by_cases hxa : (m : Int) < xa
        · have HRX : Hid (R = (9, xl)) := by
            show R = (9, xl)
            rw [HR2.out, hfar.out, HDX.out]
            unfold farF
            rw [if_pos (by simp only [Int.toNat_natCast]; rw [HM0.out]; exact hxa)]
          go_upto_region 6 with fail
          go_quiet (fail)
          go_upto_region 7 with fail
          go_quiet (fail)
          go_wp2_with fail
          go_ret2
          rw [HRX.out]
          refine ⟨rfl, ?_⟩
          first
            | exact (hbf _).trans ((below_drewNg _ _).mono (hbf _).size)
            | trace_state
        · have HST : Hid (farF s.thr s.jmp = farF s.thr (s.jmp.drop (k + 1))) := by
            show farF s.thr s.jmp = farF s.thr (s.jmp.drop (k + 1))
            rw [hfar.out, HDX.out]
            conv => lhs; unfold farF
            rw [if_neg (by simp only [Int.toNat_natCast]; rw [HM0.out]; exact hxa)]
          go_upto_region 6 with fail
          go_quiet (fail)
          go_wp2_with fail
          refine ⟨⟨k + 1, rfl, by omega, HST, ?_⟩, by simp [intOf]; omega⟩
          first
            | exact (hbf _).trans ((below_drewNg _ _).mono (hbf _).size)
            | trace_state
      · obtain rfl : k = s.jmp.length := by omega
        have hr0 : R = (0, 0) := by rw [HR2.out, hfar.out, List.drop_length]; rfl
        subst hr0
        go_wp2_with fail
        go_ret2
        exact ⟨rfl, hb⟩
end
end Go.Proofs.YthopmdfichfhdaaGreatDoor
