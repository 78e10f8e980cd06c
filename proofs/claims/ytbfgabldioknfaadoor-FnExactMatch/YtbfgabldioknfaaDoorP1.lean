/-
  What spec.l10Pattern, l10Match, Match answer. No statement of the seat is proved here.
-/
import Derived.Test.YtbfgabldioknfaaDoorP0
namespace Go.Proofs.YtbfgabldioknfaaDoor
open Go.ChangeShapes Go.WideShapes Go.ChangeAt Go.RowKit
set_option linter.unusedVariables false
set_option linter.unusedSimpArgs false

/-- The part at a place may stand there. -/
def partOK (nameB : ByteArray → Bool) (ps : List ByteArray) (i : Nat) (h : i < ps.length) : Prop := plainB nameB ps[i] = true ∨ (hashB ps[i] = true ∧ i + 1 = ps.length)
theorem pat_all {nameB : ByteArray → Bool} {ps : List ByteArray} (h : ∀ i (h : i < ps.length), partOK nameB ps i h) : patL nameB ps = true := by
  rcases List.eq_nil_or_concat ps with rfl | ⟨pre, x, rfl⟩
  · rfl
  · rw [List.concat_eq_append] at h ⊢
    rw [patL_snoc, Bool.and_eq_true, Bool.or_eq_true]
    refine ⟨List.all_eq_true.2 fun y hy => ?_, ?_⟩
    · obtain ⟨i, hi, rfl⟩ := List.getElem_of_mem hy
      have := h i (by simp; omega)
      unfold partOK at this
      rw [List.getElem_append_left hi] at this
      rcases this with h | ⟨_, h⟩
      · exact h
      · simp at h; omega
    · have := h pre.length (by simp)
      unfold partOK at this
      simp only [List.getElem_concat_length] at this
      rcases this with h | ⟨h, _⟩
      · exact .inr h
      · exact .inl h
theorem pat_not {nameB : ByteArray → Bool} {ps : List ByteArray} {i : Nat} (hi : i < ps.length) (h : ¬ partOK nameB ps i hi) : patL nameB ps = false := by
  rcases List.eq_nil_or_concat ps with rfl | ⟨pre, x, rfl⟩
  · simp at hi
  · simp only [List.concat_eq_append] at hi h ⊢
    cases hp : patL nameB (pre ++ [x])
    · rfl
    · exfalso
      apply h
      rw [patL_snoc, Bool.and_eq_true, Bool.or_eq_true] at hp
      unfold partOK
      by_cases hl : i < pre.length
      · rw [List.getElem_append_left hl]
        exact .inl (List.all_eq_true.1 hp.1 _ (List.getElem_mem hl))
      · obtain rfl : i = pre.length := by simp at hi; omega
        simp only [List.getElem_concat_length]
        rcases hp.2 with h | h
        · exact .inr ⟨h, by simp⟩
        · exact .inl h

set_option maxRecDepth 100000 in
set_option maxHeartbeats 2000000 in
theorem specPattern {nameB : ByteArray → Bool} (hN : NameSpec nameB) (t : ByteArray) (ht : t.size ≤ maxLen) (w : World) :
    Calls Tryd.prog 6 #[.string t] w fun e w' => e = .returned (.bool (patB nameB t)) ∧ Below w.heap.size w w' := by
  have hm : (t.size : Int) ≤ 9223372036854775807 := by simp [maxLen] at ht; omega
  unfold patB
  by_cases h1 : t.size ≤ 205
  · have h1' : ¬ ((205 : Int) < (t.size : Int)) := by omega
    have cc := specCut t (by omega) w
    have hcl := cutF_len t 46
    rw [decide_eq_true h1]
    obtain ⟨ps, hps⟩ : ∃ ps, cutF t 46 = ps := ⟨_, rfl⟩
    rw [hps] at cc hcl ⊢
    clear hps
    have HN : Hid (NameSpec nameB) := hN
    clear hN
    by_cases h2 : ps.length ≤ 5
    · have h2' : ¬ ((5 : Int) < (ps.length : Int)) := by omega
      rw [decide_eq_true h2]
      go_enter Tryd.func6, Tryd.ntmps6
      go_wp2_with (go_at_call 9; go_must (refine cc.mono ?_; rintro e w1 ⟨⟨v, rfl, hov⟩, hb1⟩; obtain ⟨a3, c3, h3, hc3⟩ := hov.value; subst h3; have HC : Hid _ := hc3; clear hov hc3))
      go_loopw [4] (fun i4 wr => ∃ (k : Nat), i4 = .int .i64 (k : Int) ∧ k ≤ ps.length ∧ (∀ i (h : i < ps.length), i < k → partOK nameB ps i h) ∧ Below w1.heap.size w1 wr) (fun i4 _ => ps.length - (intOf i4).toNat)
      case atStart => exact ⟨0, rfl, by omega, fun i _ h => by omega, Below.refl _ _⟩
      case round =>
        obtain ⟨k, rfl, hk, hall, hb⟩ := hrel
        have HA : Hid (∀ i (h : i < ps.length), i < k → partOK nameB ps i h) := hall
        clear hall
        by_cases hkn : k < ps.length
        · have hkn' : (k : Int) < (ps.length : Int) := by omega
          obtain ⟨g, rfl, hgB, hgw, hcell⟩ := HC.out.2 (by omega)
          have d1 := (hb.cell (p := ⟨g, k, none⟩) hgw).trans (hcell k hkn)
          have cn := HN.out ps[k] wr
          obtain ⟨x, hx⟩ : ∃ x, ps[k] = x := ⟨_, rfl⟩
          rw [hx] at d1 cn
          have HX : Hid (ps[k] = x) := hx
          clear hx hcell
          obtain ⟨F, hF⟩ : ∃ F, nameB x = F := ⟨_, rfl⟩
          rw [hF] at cn
          have HF : Hid (nameB x = F) := hF
          clear hF
          have HG : Hid (partOK nameB ps k hkn → (∀ i (h : i < ps.length), i < k + 1 → partOK nameB ps i h)) := fun hp i hi hik => by
            by_cases hik2 : i < k
            · exact HA.out i hi hik2
            · obtain rfl : i = k := by omega
              exact hp
          cases F
          · have D1 := fun W (hW : Below wr.heap.size wr W) => (hW.cell (p := ⟨g, k, none⟩) (Nat.lt_of_lt_of_le hgw hb.size)).trans d1
            by_cases hs : (x.toList == [42]) = true
            · go_wp2_with (go_at_call 14; go_must (refine cn.mono ?_; rintro e w2 ⟨rfl, hb2⟩; have d2 := D1 w2 hb2))
              refine ⟨⟨k + 1, rfl, by omega, HG.out (.inl ?_), good_below hb hb2⟩, by simp [intOf]; omega⟩
              unfold plainB starB
              rw [HX.out, hs]; rfl
            · have hs' : (x.toList == [42]) = false := by simpa using hs
              by_cases hh : (x.toList == [35]) = true
              · by_cases hl : k + 1 = ps.length
                · have hl' : ((k : Int) == (ps.length : Int) - 1) = true := by rw [beq_iff_eq]; omega
                  go_wp2_with (go_at_call 14; go_must (refine cn.mono ?_; rintro e w2 ⟨rfl, hb2⟩; have d2 := D1 w2 hb2))
                  refine ⟨⟨k + 1, rfl, by omega, HG.out (.inr ⟨?_, hl⟩), good_below hb hb2⟩, by simp [intOf]; omega⟩
                  unfold hashB
                  rw [HX.out, hh]
                · have hl' : ((k : Int) == (ps.length : Int) - 1) = false := by rw [beq_eq_false_iff_ne]; omega
                  go_wp2_with (go_at_call 14; go_must (refine cn.mono ?_; rintro e w2 ⟨rfl, hb2⟩; have d2 := D1 w2 hb2))
                  go_ret
                  refine ⟨?_, good_below hb1 (good_below hb hb2)⟩
                  rw [pat_not hkn]
                  · rfl
                  · rintro (h | ⟨_, h⟩)
                    · unfold plainB starB at h
                      rw [HX.out, hs', HF.out] at h
                      cases h
                    · exact hl h
              · have hh' : (x.toList == [35]) = false := by simpa using hh
                go_wp2_with (go_at_call 14; go_must (refine cn.mono ?_; rintro e w2 ⟨rfl, hb2⟩; have d2 := D1 w2 hb2))
                go_ret
                refine ⟨?_, good_below hb1 (good_below hb hb2)⟩
                rw [pat_not hkn]
                · rfl
                · rintro (h | ⟨h, _⟩)
                  · unfold plainB starB at h
                    rw [HX.out, hs', HF.out] at h
                    cases h
                  · unfold hashB at h
                    rw [HX.out, hh'] at h
                    cases h
          · go_wp2_with (go_at_call 14; go_must (refine cn.mono ?_; rintro e w2 ⟨rfl, hb2⟩))
            refine ⟨⟨k + 1, rfl, by omega, HG.out (.inl ?_), good_below hb hb2⟩, by simp [intOf]; omega⟩
            unfold plainB
            rw [HX.out, HF.out]; simp
        · obtain rfl : k = ps.length := by omega
          have hkn' : ¬ ((ps.length : Int) < (ps.length : Int)) := by omega
          go_wp2_with fail
          go_ret
          refine ⟨?_, good_below hb1 hb⟩
          rw [pat_all (fun i hi => HA.out i hi hi)]; rfl
    · have h2' : (5 : Int) < (ps.length : Int) := by omega
      rw [decide_eq_false h2]
      go_enter Tryd.func6, Tryd.ntmps6
      go_wp2_with (go_at_call 9; go_must (refine cc.mono ?_; rintro e w1 ⟨⟨v, rfl, hov⟩, hb1⟩; obtain ⟨a3, c3, h3, hc3⟩ := hov.value; subst h3; clear hov hc3))
      go_ret
      exact ⟨rfl, hb1⟩
  · have h1' : (205 : Int) < (t.size : Int) := by omega
    rw [decide_eq_false h1]
    go_enter Tryd.func6, Tryd.ntmps6
    go_wp2_with fail
    go_ret
    exact ⟨rfl, Below.refl _ _⟩

/-- A slice of texts, wherever it lies, with room for them. -/
def SlAt (w : World) (v : Value) (l : List ByteArray) : Prop := ∃ a cap, v = .slice a l.length cap ∧ l.length ≤ cap ∧ cap ≤ maxLen ∧ (0 < l.length → ∃ b off, a = some ⟨b, off, none⟩ ∧ b < w.heap.size ∧ ∀ i (h : i < l.length), w.cell? ⟨b, off + i, none⟩ = some (.string l[i]))
theorem OwnTxts.lt {B g m cap : Nat} {w : World} {l : List ByteArray} (h : OwnTxts B w (.slice (some ⟨g, 0, none⟩) m cap) l) : g < w.heap.size ∧ B ≤ g ∧ m ≤ cap ∧ cap ≤ maxLen ∧ m = l.length := by
  rcases h.2 with ⟨hv, h0⟩ | ⟨g', cap', cur, hv, hB, hg, h1, h2, h3, h4⟩
  · simp at hv
  · simp at hv
    obtain ⟨rfl, rfl, rfl⟩ := hv
    exact ⟨(Array.getElem?_eq_some_iff.1 hg).1, hB, h1, h2, rfl⟩
theorem OwnTxts.slAt {B : Nat} {w : World} {v : Value} {l : List ByteArray} (h : OwnTxts B w v l) : SlAt w v l := by
  obtain ⟨a, cap, hv, hl, hc⟩ := h.value
  by_cases h0 : 0 < l.length
  · obtain ⟨g, rfl, hB, hg, hcell⟩ := hc h0
    subst hv
    obtain ⟨q1, q2, q3, q4, q5⟩ := h.lt
    exact ⟨_, cap, rfl, q3, q4, fun _ => ⟨g, 0, rfl, hg, fun i hi => by rw [Nat.zero_add]; exact hcell i hi⟩⟩
  · rcases h.2 with ⟨hv', h1⟩ | ⟨g', cap', cur, hv', hB, hg, h1, h2, h3, h4⟩
    · exact ⟨none, 0, by rw [hv', h1], by omega, by simp, fun h => absurd h h0⟩
    · exact ⟨_, cap', hv', by omega, by omega, fun h => absurd h h0⟩
theorem SlAt.below {w w' : World} {v : Value} {l : List ByteArray} (h : SlAt w v l) (hb : Below w.heap.size w w') : SlAt w' v l := by
  obtain ⟨a, cap, hv, h1, h2, hc⟩ := h
  refine ⟨a, cap, hv, h1, h2, fun h0 => ?_⟩
  obtain ⟨b, off, ha, hlt, hcell⟩ := hc h0
  exact ⟨b, off, ha, Nat.lt_of_lt_of_le hlt hb.size, fun i hi => (hb.cell (p := ⟨b, off + i, none⟩) hlt).trans (hcell i hi)⟩
/-- The slice behind the first text. -/
theorem SlAt.tail {w : World} {b off cap n : Nat} {x : ByteArray} {l : List ByteArray} (h : SlAt w (.slice (some ⟨b, off, none⟩) n cap) (x :: l)) : SlAt w (.slice (if cap = 1 then some ⟨b, off, none⟩ else some ⟨b, off + 1, none⟩) (n - 1) (cap - 1)) l := by
  obtain ⟨a, c, hv, h1, h2, hc⟩ := h
  simp only [Value.slice.injEq] at hv
  obtain ⟨rfl, rfl, rfl⟩ := hv
  obtain ⟨b', off', ha, hlt, hcell⟩ := hc (by simp)
  simp only [Option.some.injEq, Addr.mk.injEq, and_true] at ha
  obtain ⟨rfl, rfl⟩ := ha
  simp only [List.length_cons] at h1
  refine ⟨if cap = 1 then some ⟨b, off, none⟩ else some ⟨b, off + 1, none⟩, cap - 1, rfl, by omega, by omega, fun h0 => ⟨b, off + 1, if_neg (by omega), hlt, fun i hi => ?_⟩⟩
  have := hcell (i + 1) (by simp; omega)
  rw [show off + (i + 1) = off + 1 + i by omega] at this
  rw [this]; simp
end Go.Proofs.YtbfgabldioknfaaDoor
