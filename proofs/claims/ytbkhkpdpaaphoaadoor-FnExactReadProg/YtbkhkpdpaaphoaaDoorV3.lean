/-
  FnExactReadProg: both readers by their contracts; the law's walk. No statement of the seat is proved here.
-/
import Derived.Test.YtbkhkpdpaaphoaaDoorS8
import Derived.Test.YtbkhkpdpaaphoaaDoorJ4
import Derived.Test.YtbkhkpdpaaphoaaDoorV2
namespace Go.Proofs.YtbkhkpdpaaphoaaDoor
open Go.ChangeShapes Go.WideShapes Go.ChangeAt Go.RowKit
set_option linter.unusedVariables false
set_option linter.unusedSimpArgs false

theorem run_fit : ∀ (ls : List ByteArray) (s : Rd), RdFit s → (runR s ls).1 = 0 → RdFit (runR s ls).2
  | [], s, h, _ => h
  | l :: ls, s, h, h0 => by
    simp only [runR] at h0 ⊢
    split at h0
    · rename_i h1
      rw [if_pos h1]
      exact run_fit ls _ (read_fit (s := { s with ln := s.ln + 1 }) ⟨h.ini, h.thr, h.cod, h.jmp⟩ l h1) h0
    · rename_i h1
      exact absurd h0 h1
structure PFit (r : PR) : Prop where
  ini : r.ini.length ≤ 8
  thr : r.thr.length ≤ 4
  cod : ∀ c ∈ r.thr, c.length ≤ 40
theorem pfit0 (c l : Int) : PFit ⟨[], [], c, l⟩ := ⟨by simp, by simp, fun c h => by cases h⟩
theorem progF_fit (t : ByteArray) : PFit (progF t) := by
  unfold progF
  split
  · exact pfit0 _ _
  · unfold doneR
    split
    · rename_i h
      have hf := run_fit _ rd0 ⟨by simp [rd0], by simp [rd0], by simp [rd0], by simp [rd0]⟩ h
      unfold outR
      split
      · exact ⟨hf.ini, hf.thr, hf.cod⟩
      · exact pfit0 _ _
    · exact pfit0 _ _
/-- What ReadProg answers, the program's and the document's. -/
def ReadC (f : Nat) : Prop := ∀ (t : ByteArray) (w : World), t.size ≤ 1048576 → Calls Tryd.prog f #[.string t] w fun e w' => (∃ v, e = .returned v ∧ PrgAt w.heap.size w' v (progF t)) ∧ Below w.heap.size w w'
theorem specReadC : ReadC 4 := by
  intro t w ht
  by_cases h : 65536 < t.size
  · exact specLong t h ht w
  · have := specShort t (by omega) w
    have e : progF t = doneR (runR rd0 (cutF t 10)) := by unfold progF; rw [if_neg h]
    rw [e]
    exact this
set_option maxRecDepth 100000 in
set_option maxHeartbeats 1000000 in
theorem implLong (t : ByteArray) (h : 65536 < t.size) (ht : t.size ≤ 1048576) (w : World) :
    Calls Tryd.prog 5 #[.string t] w fun e w' => (∃ v, e = .returned v ∧ PrgAt w.heap.size w' v (progF t)) ∧ Below w.heap.size w w' := by
  have h' : (65536 : Int) < (t.size : Int) := by omega
  have ht' : (t.size : Int) ≤ 1048576 := by omega
  have hp : progF t = ⟨[], [], 2, 0⟩ := by unfold progF; rw [if_pos h]
  rw [hp]
  clear hp
  go_enter Tryd.func5, Tryd.ntmps5
  go_wp2_with fail
  have h0 : Blk (((w.alloc (.cells #[.slice none 0 0, .slice none 0 0] 25)).alloc (.cells #[.int .i64 2] 3)).alloc (.cells #[.int .i64 0] 3)) w.heap.size 25 #[.slice none 0 0, .slice none 0 0] := by
    unfold Blk
    repeat rw [Below.heap_alloc _ _ _ (by first | (simp; done) | (simp; omega))]
    exact last_at rfl
  have h1 : Blk (((w.alloc (.cells #[.slice none 0 0, .slice none 0 0] 25)).alloc (.cells #[.int .i64 2] 3)).alloc (.cells #[.int .i64 0] 3)) (w.heap.size + 1) 3 #[.int .i64 2] := by
    unfold Blk
    repeat rw [Below.heap_alloc _ _ _ (by first | (simp; done) | (simp; omega))]
    exact last_at (by simp)
  have h2 : Blk (((w.alloc (.cells #[.slice none 0 0, .slice none 0 0] 25)).alloc (.cells #[.int .i64 2] 3)).alloc (.cells #[.int .i64 0] 3)) (w.heap.size + 1 + 1) 3 #[.int .i64 0] := by
    unfold Blk
    exact last_at (by simp)
  have hb : Below w.heap.size w (((w.alloc (.cells #[.slice none 0 0, .slice none 0 0] 25)).alloc (.cells #[.int .i64 2] 3)).alloc (.cells #[.int .i64 0] 3)) := (((Below.refl _ w).alloc (Nat.le_refl _) _).alloc (by simp) _).alloc (by simp; omega) _
  generalize ((w.alloc (.cells #[.slice none 0 0, .slice none 0 0] 25)).alloc (.cells #[.int .i64 2] 3)).alloc (.cells #[.int .i64 0] 3) = W at h0 h1 h2 hb ⊢
  have l0 := run_loadVar_row (P := Tryd.prog) W w.heap.size 25 25 #[.slice none 0 0, .slice none 0 0] (0, 0) _ h0 Tryd.underlying25 rfl (by kernel_rfl)
  have l1 : (loadVar 3 ⟨w.heap.size + 1, 0, none⟩).run Tryd.prog W = .ok (.int .i64 2) W := by
    have := h1.cell 0
    simp at this
    simp [loadVar, go_sem, this]
  have l2 : (loadVar 3 ⟨w.heap.size + 1 + 1, 0, none⟩).run Tryd.prog W = .ok (.int .i64 0) W := by
    have := h2.cell 0
    simp at this
    simp [loadVar, go_sem, this]
  have hres : ∀ tmps : Array Value, tmps.getD 2 undef = .pointer (some ⟨w.heap.size, 0, none⟩) → tmps.getD 3 undef = .pointer (some ⟨w.heap.size + 1, 0, none⟩) → tmps.getD 4 undef = .pointer (some ⟨w.heap.size + 1 + 1, 0, none⟩) → (results Tryd.f5 tmps).run Tryd.prog W = .ok (.tuple #[.agg #[.slice none 0 0, .slice none 0 0], .int .i64 2, .int .i64 0]) W := by
    intro tmps p0 p1 p2
    rw [results_cell3 rfl, p0, p1, p2]
    simp only [asAddr, Sem.run_pure, Result.andThen_ok, l0, l1, l2]
  exact bodyPost_ret (hres _ rfl rfl rfl) rfl ⟨⟨_, rfl, prg_none _ _ _ _⟩, hb⟩
theorem implReadC : ReadC 5 := by
  intro t w ht
  by_cases h : 65536 < t.size
  · exact implLong t h ht w
  · have := callsIn_wide.1 (readIn 4 (Nat.le_refl _) t (by omega) w)
    have e : progF t = doneR (runR rd0 (cutF t 10)) := by unfold progF; rw [if_neg h]
    rw [e]
    exact this
theorem PV.of {B : Nat} {w : World} {v : Value} {r : PR} (h : PrgAt B w v r) : ∃ a1 c1 a2 c2 ts, v = .tuple #[.agg #[.slice a1 r.ini.length c1, .slice a2 r.thr.length c2], .int .i64 r.code, .int .i64 r.line] ∧ PV B w (.slice a1 r.ini.length c1) (.slice a2 r.thr.length c2) ts r.ini r.thr := by
  obtain ⟨iv, tv, ts, rfl, h1, h2, h3⟩ := h
  obtain ⟨a1, c1, rfl⟩ := row_shape h1
  obtain ⟨a2, c2, rfl⟩ := row_shape h2
  have hl := h3.len
  rw [hl] at h2 ⊢
  exact ⟨a1, c1, a2, c2, ts, rfl, h1, by rw [hl]; exact h2, h3⟩
set_option maxRecDepth 100000 in
set_option maxHeartbeats 4000000 in
theorem readWalk (cs : ReadC 4) (ci : ReadC 5) (w : World) (t : ByteArray) (h0 : t.size ≤ maxLen) :
    Calls Tryd.prog 3 #[.string t] w fun e w' => e = .returned (.bool true) ∧ Below w.heap.size w w' := by
  have hmx : (t.size : Int) ≤ 9223372036854775807 := by simp [maxLen] at h0; omega
  by_cases hbig : 1048576 < t.size
  · have hbig' : (1048576 : Int) < (t.size : Int) := by omega
    clear cs ci
    go_enter Tryd.func3, Tryd.ntmps3
    go_wp2_with fail
    go_ret
    exact ⟨rfl, Below.refl _ _⟩
  · have hbig' : ¬ (1048576 : Int) < (t.size : Int) := by omega
    have hts : (t.size : Int) ≤ 1048576 := by omega
    have c1 := fun W => cs t W (by omega)
    have c2 := fun W => ci t W (by omega)
    have hft := progF_fit t
    obtain ⟨R, hR⟩ : ∃ R, progF t = R := ⟨_, rfl⟩
    simp only [hR] at c1 c2
    rw [hR] at hft
    clear hR cs ci hbig
    obtain ⟨ini, thr, code, line⟩ := R
    obtain ⟨f1, f2, f3⟩ := hft
    dsimp only at f1 f2 f3
    have F3 : Hid (∀ c ∈ thr, c.length ≤ 40) := f3
    clear f3
    go_enter Tryd.func3, Tryd.ntmps3
    -- the document's answer
    go_upto_region 4 with (first
      | (go_at_call 4; go_must (refine (c1 _).mono ?_; rintro e w1 ⟨⟨v1, rfl, hp1⟩, hb1⟩; obtain ⟨a1, k1, a2, k2, ts1, rfl, hv1⟩ := PV.of hp1; dsimp only at hv1 ⊢))
      | (refine wpList_store_row rfl 25 _ _ rfl w1.heap.size #[.slice a1 ini.length k1, .slice a2 thr.length k2] rfl rfl 25 _ (heap_alloc_last _ _) (by first | kernel_rfl | rfl) (by first | kernel_rfl | rfl) (by first | kernel_rfl | rfl) ?_; rw [World.setRow_alloc_new]))
    (try simp only [Act.put])
    have bA : Below w1.heap.size w1 (w1.alloc (.cells #[.slice a1 ini.length k1, .slice a2 thr.length k2] 25)) := (Below.refl _ _).alloc (Nat.le_refl _) _
    have kA : Blk (w1.alloc (.cells #[.slice a1 ini.length k1, .slice a2 thr.length k2] 25)) w1.heap.size 25 #[.slice a1 ini.length k1, .slice a2 thr.length k2] := heap_alloc_last _ _
    have HA : Hid (PV w.heap.size (w1.alloc (.cells #[.slice a1 ini.length k1, .slice a2 thr.length k2] 25)) (.slice a1 ini.length k1) (.slice a2 thr.length k2) ts1 ini thr ∧ Below w.heap.size w (w1.alloc (.cells #[.slice a1 ini.length k1, .slice a2 thr.length k2] 25))) := ⟨hv1.below bA, good_below hb1 bA⟩
    generalize w1.alloc (.cells #[.slice a1 ini.length k1, .slice a2 thr.length k2] 25) = W1 at kA HA ⊢
    generalize w1.heap.size = g3 at kA ⊢
    have KA : Hid (Blk W1 g3 25 #[.slice a1 ini.length k1, .slice a2 thr.length k2]) := kA
    clear bA kA hv1 hb1 hp1
    -- the program's answer
    go_upto_region 5 with (first
      | (go_at_call 5; go_must (refine (c2 _).mono ?_; rintro e w2 ⟨⟨v2, rfl, hp2⟩, hb2⟩; obtain ⟨a3, k3, a4, k4, ts2, rfl, hv2⟩ := PV.of hp2; dsimp only at hv2 ⊢))
      | (refine wpList_store_row rfl 25 _ _ rfl w2.heap.size #[.slice a3 ini.length k3, .slice a4 thr.length k4] rfl rfl 25 _ (heap_alloc_last _ _) (by first | kernel_rfl | rfl) (by first | kernel_rfl | rfl) (by first | kernel_rfl | rfl) ?_; rw [World.setRow_alloc_new]))
    (try simp only [Act.put])
    have bB : Below w2.heap.size w2 (w2.alloc (.cells #[.slice a3 ini.length k3, .slice a4 thr.length k4] 25)) := (Below.refl _ _).alloc (Nat.le_refl _) _
    have kB : Blk (w2.alloc (.cells #[.slice a3 ini.length k3, .slice a4 thr.length k4] 25)) w2.heap.size 25 #[.slice a3 ini.length k3, .slice a4 thr.length k4] := heap_alloc_last _ _
    have HB : Hid (PV W1.heap.size (w2.alloc (.cells #[.slice a3 ini.length k3, .slice a4 thr.length k4] 25)) (.slice a3 ini.length k3) (.slice a4 thr.length k4) ts2 ini thr ∧ Below W1.heap.size W1 (w2.alloc (.cells #[.slice a3 ini.length k3, .slice a4 thr.length k4] 25))) := ⟨hv2.below bB, good_below hb2 bB⟩
    generalize w2.alloc (.cells #[.slice a3 ini.length k3, .slice a4 thr.length k4] 25) = W2 at kB HB ⊢
    generalize w2.heap.size = g6 at kB ⊢
    have KB : Hid (Blk W2 g6 25 #[.slice a3 ini.length k3, .slice a4 thr.length k4]) := kB
    clear bB kB hv2 hb2 hp2
    -- held against each other
    have ce := eqProg (w := W2) (by omega) HB.out.1 (HA.out.1.below HB.out.2)
    have KA2 : Hid (Blk W2 g3 25 #[.slice a1 ini.length k1, .slice a2 thr.length k2]) := KA.out.below HB.out.2
    go_upto_region 7 with (first
      | (refine wpList_load_row rfl 25 _ rfl g6 rfl 25 #[.slice a3 ini.length k3, .slice a4 thr.length k4] (0, 0) _ KB.out Tryd.underlying25 rfl (by first | kernel_rfl | rfl) ?_)
      | (refine wpList_load_row rfl 25 _ rfl g3 rfl 25 #[.slice a1 ini.length k1, .slice a2 thr.length k2] (0, 0) _ KA2.out Tryd.underlying25 rfl (by first | kernel_rfl | rfl) ?_)
      | (go_at_call 6; go_must (refine ce.mono ?_; rintro e w3 ⟨rfl, hb3⟩)))
    -- marked
    have cm := markProg (w := w3) f1 f2 F3.out (Nat.le_trans HB.out.2.size hb3.size) (HB.out.1.below hb3)
    obtain ⟨M, hM⟩ : ∃ M, 1 + ini.length + 10 * upTo thr thr.length = M := ⟨_, rfl⟩
    rw [hM] at cm
    have HM : Hid (1 + ini.length + 10 * upTo thr thr.length = M) := hM
    have hM0 : ¬ ((M : Int) < 0) := by omega
    have KB3 : Hid (Blk w3 g6 25 #[.slice a3 ini.length k3, .slice a4 thr.length k4]) := KB.out.below hb3
    have HB3 : Hid (Below W2.heap.size W2 w3) := hb3
    clear ce hb3 hM
    go_upto_region 9 with (first
      | (refine wpList_load_row rfl 25 _ rfl g6 rfl 25 #[.slice a3 ini.length k3, .slice a4 thr.length k4] (0, 0) _ KB3.out Tryd.underlying25 rfl (by first | kernel_rfl | rfl) ?_)
      | (go_at_call 7; go_must (refine cm.mono ?_; rintro e w4 ⟨rfl, hb4, hm4, hk4⟩)))
    have KB4 : Hid (Blk w4 g6 25 #[.slice a3 ini.length k3, .slice a4 thr.length k4]) := hk4 _ _ KB3.out
    have HB4 : Hid (Below W1.heap.size W1 w4) := HB.out.2.trans ((HB3.out.mono HB.out.2.size).trans hb4)
    have HM4 : Hid (MkP W1.heap.size w4 (.slice a3 ini.length k3) (.slice a4 thr.length k4) ts2 ini.length thr 1) := hm4
    have cq := heldProg (w := w4) f1 f2 F3.out hm4
    rw [HM.out] at cq
    clear cm hb4 hm4 hk4 KB3 HB3
    -- held
    go_upto_region 15 with (first
      | (refine wpList_load_row rfl 25 _ rfl g6 rfl 25 #[.slice a3 ini.length k3, .slice a4 thr.length k4] (0, 0) _ KB4.out Tryd.underlying25 rfl (by first | kernel_rfl | rfl) ?_)
      | (go_at_call 8; go_must (refine cq.mono ?_; rintro e w5 ⟨rfl, hb5⟩)))
    have KB5 : Hid (Blk w5 g6 25 #[.slice a3 ini.length k3, .slice a4 thr.length k4]) := KB4.out.below hb5
    have HB5 : Hid (Below W1.heap.size W1 w5) := good_below HB4.out hb5
    have HM5 : Hid (MkP W1.heap.size w5 (.slice a3 ini.length k3) (.slice a4 thr.length k4) ts2 ini.length thr 1) := HM4.out.below hb5
    clear cq hb5 KB4 HB4 HM4
    -- once more
    go_upto_region 16 with (first
      | (go_at_call 5; go_must (refine (c2 _).mono ?_; rintro e w6 ⟨⟨v6, rfl, hp6⟩, hb6⟩; obtain ⟨a5, k5, a6, k6, ts6, rfl, hv6⟩ := PV.of hp6; dsimp only at hv6 ⊢))
      | (refine wpList_store_row rfl 25 _ _ rfl w6.heap.size #[.slice a5 ini.length k5, .slice a6 thr.length k6] rfl rfl 25 _ (heap_alloc_last _ _) (by first | kernel_rfl | rfl) (by first | kernel_rfl | rfl) (by first | kernel_rfl | rfl) ?_; rw [World.setRow_alloc_new]))
    (try simp only [Act.put])
    have bC : Below w6.heap.size w6 (w6.alloc (.cells #[.slice a5 ini.length k5, .slice a6 thr.length k6] 25)) := (Below.refl _ _).alloc (Nat.le_refl _) _
    have kC : Blk (w6.alloc (.cells #[.slice a5 ini.length k5, .slice a6 thr.length k6] 25)) w6.heap.size 25 #[.slice a5 ini.length k5, .slice a6 thr.length k6] := heap_alloc_last _ _
    have HC : Hid (PV w5.heap.size (w6.alloc (.cells #[.slice a5 ini.length k5, .slice a6 thr.length k6] 25)) (.slice a5 ini.length k5) (.slice a6 thr.length k6) ts6 ini thr ∧ Below w5.heap.size w5 (w6.alloc (.cells #[.slice a5 ini.length k5, .slice a6 thr.length k6] 25))) := ⟨hv6.below bC, good_below hb6 bC⟩
    generalize w6.alloc (.cells #[.slice a5 ini.length k5, .slice a6 thr.length k6] 25) = W6 at kC HC ⊢
    generalize w6.heap.size = g11 at kC ⊢
    have KC : Hid (Blk W6 g11 25 #[.slice a5 ini.length k5, .slice a6 thr.length k6]) := kC
    have HB6 : Hid (Below W1.heap.size W1 W6) := good_below HB5.out HC.out.2
    have KA6 : Hid (Blk W6 g3 25 #[.slice a1 ini.length k1, .slice a2 thr.length k2]) := KA.out.below HB6.out
    have KB6 : Hid (Blk W6 g6 25 #[.slice a3 ini.length k3, .slice a4 thr.length k4]) := KB5.out.below HC.out.2
    have HM6 : Hid (MkP W1.heap.size W6 (.slice a3 ini.length k3) (.slice a4 thr.length k4) ts2 ini.length thr 1) := HM5.out.below HC.out.2
    have ce := eqProg (w := W6) (by omega) HC.out.1 (HA.out.1.below HB6.out)
    clear bC kC hv6 hb6 hp6 KB5 HB5 HM5
    go_upto_region 18 with (first
      | (refine wpList_load_row rfl 25 _ rfl g11 rfl 25 #[.slice a5 ini.length k5, .slice a6 thr.length k6] (0, 0) _ KC.out Tryd.underlying25 rfl (by first | kernel_rfl | rfl) ?_)
      | (refine wpList_load_row rfl 25 _ rfl g3 rfl 25 #[.slice a1 ini.length k1, .slice a2 thr.length k2] (0, 0) _ KA6.out Tryd.underlying25 rfl (by first | kernel_rfl | rfl) ?_)
      | (go_at_call 6; go_must (refine ce.mono ?_; rintro e w7 ⟨rfl, hb7⟩)))
    have KB7 : Hid (Blk w7 g6 25 #[.slice a3 ini.length k3, .slice a4 thr.length k4]) := KB6.out.below hb7
    have HB7 : Hid (Below W1.heap.size W1 w7) := good_below HB6.out hb7
    have cq := heldProg (w := w7) f1 f2 F3.out (HM6.out.below hb7)
    rw [HM.out] at cq
    clear ce hb7
    go_wp2_with (first
      | (refine wpList_load_row rfl 25 _ rfl g6 rfl 25 #[.slice a3 ini.length k3, .slice a4 thr.length k4] (0, 0) _ KB7.out Tryd.underlying25 rfl (by first | kernel_rfl | rfl) ?_)
      | (go_at_call 8; go_must (refine cq.mono ?_; rintro e w8 ⟨rfl, hb8⟩)))
    go_ret
    exact ⟨rfl, HA.out.2.trans ((good_below HB7.out hb8).mono HA.out.2.size)⟩
end Go.Proofs.YtbkhkpdpaaphoaaDoor
