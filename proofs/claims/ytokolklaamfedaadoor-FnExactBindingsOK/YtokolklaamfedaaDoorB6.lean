/-
  What impl.firstTwice answers. No statement of the seat is proved here.
-/
import Derived.Test.YtokolklaamfedaaDoorB5
import Derived.Test.YtokolklaamfedaaDoorCnt
namespace Go.Proofs.YtokolklaamfedaaDoor
open Go.ChangeShapes Go.WideShapes Go.ChangeAt Go.RowKit
set_option linter.unusedVariables false

/-- A name of ss, behind those of seen, has stood ahead. -/
def dupFrom : List ByteArray → List ByteArray → Bool
  | [], _ => false
  | x :: l, seen => if hasB seen x then true else dupFrom l (seen ++ [x])
/-- f holds 1 of each text of seen, 0 of all others. -/
def Seen (f : Lit → Int) (seen : List ByteArray) : Prop := ∀ t : ByteArray, f (textKey t) = if hasB seen t then 1 else 0
theorem Seen.nil : Seen (fun _ => 0) [] := fun t => by simp [hasB]
theorem hasB_snoc (seen : List ByteArray) (x t : ByteArray) : hasB (seen ++ [x]) t = (hasB seen t || decide (x = t)) := by
  unfold hasB
  rw [List.any_append]
  simp [beq_bytes]
theorem Seen.put {f : Lit → Int} {seen : List ByteArray} (h : Seen f seen) (x : ByteArray) : Seen (upd f (textKey x) 1) (seen ++ [x]) := by
  intro t
  by_cases e : t = x
  · subst e
    rw [upd_same (by exact trivial), hasB_snoc]
    simp
  · rw [upd_other (fun h => e (textKey_inj h)), h t]
    have e' : x ≠ t := fun h => e h.symm
    rw [hasB_snoc]
    simp [e']

set_option maxRecDepth 100000 in
set_option maxHeartbeats 1000000 in
theorem implTwice (ss : List ByteArray) (a : Option Addr) (cap : Nat) (w : World) (hlen : ss.length ≤ 1000000) (hsz : ∀ s ∈ ss, s.size ≤ 1048576)
    (hc : 0 < ss.length → ∃ g, a = some ⟨g, 0, none⟩ ∧ g < w.heap.size ∧ ∀ j (hj : j < ss.length), w.cell? ⟨g, j, none⟩ = some (.string ss[j])) :
    Calls Tryd.prog 16 #[.slice a ss.length cap] w fun e w' => (∃ t, e = .returned (.tuple #[.string t, .bool (dupFrom ss [])])) ∧ Below w.heap.size w w' := by
  have hmm := @run_makeMap Tryd.prog
  have HC : Hid _ := hc
  have hlen' : (ss.length : Int) ≤ 1000000 := by omega
  have HZ : Hid _ := hsz
  clear hc hsz
  obtain ⟨F, hF⟩ : ∃ F, dupFrom ss [] = F := ⟨_, rfl⟩
  rw [hF]
  have HF : Hid (dupFrom ss [] = F) := hF
  clear hF
  go_enter Tryd.func16, Tryd.ntmps16
  go_wp2_with fail
  go_loopw [10] (fun i10 wr => ∃ (k : Nat) (f : Lit → Int), i10 = .int .i64 (k : Int) ∧ k ≤ ss.length ∧ Counts wr 9 w.heap.size k f ∧ Seen f (ss.take k) ∧ dupFrom (ss.drop k) (ss.take k) = F ∧ Below w.heap.size w wr) (fun i10 _ => ss.length - (intOf i10).toNat)
  case atStart => exact ⟨0, _, rfl, by omega, Counts.made _ _, by simpa using Seen.nil, by simpa using HF.out, (Below.refl _ w).alloc (Nat.le_refl _) _⟩
  case round =>
    obtain ⟨k, f, rfl, hk, hcn, hse, hfr, hb⟩ := hrel
    by_cases hkn : k < ss.length
    · have hkn' : (k : Int) < (ss.length : Int) := by omega
      obtain ⟨g, rfl, hgw, hcell⟩ := HC.out (by omega)
      have x1 := hcell k hkn
      rw [List.drop_eq_getElem_cons hkn] at hfr
      have hz := HZ.out ss[k] (List.getElem_mem hkn)
      have htk : ss.take (k + 1) = ss.take k ++ [ss[k]] := List.take_succ_eq_append_getElem hkn
      obtain ⟨s, hs⟩ : ∃ s, ss[k] = s := ⟨_, rfl⟩
      rw [hs] at x1 hfr hz htk
      clear hs hcell
      have d1 := (hb.cell (p := ⟨g, k, none⟩) hgw).trans x1
      have hkey : keyOf Tryd.prog 9 (.string s) = some (textKey s) := key9 (by simp [maxLen]; omega)
      have hfs := hse s
      simp only [dupFrom] at hfr
      obtain ⟨B1, hB1⟩ : ∃ B1, hasB (ss.take k) s = B1 := ⟨_, rfl⟩
      rw [hB1] at hfr hfs
      have hlk := (hcn.look law9 Tryd.underlying52 hkey).1
      clear x1 hB1
      have HCN : Hid _ := hcn
      have HSE : Hid _ := hse
      have HFR : Hid _ := hfr
      have HTK : Hid _ := htk
      have HKY : Hid _ := hkey
      clear hcn hse hfr htk hkey
      cases B1
      · rw [if_neg (by simp)] at hfs
        rw [hfs] at hlk
        clear hfs
        go_wp2_with (first
          | (at_mapUpdate; go_must (refine wpList_storeC _ rfl _ _ _ 52 rfl 9 law9 Tryd.underlying52 w.heap.size k f rfl HCN.out (by simp [maxLen]; omega) _ 1 _ rfl rfl HKY.out (by decide) ?_; intro w1 hc1 hg1; have HC1 : Hid _ := hc1; clear hc1))
          | (at_lookup; have hchk := HC1; refine wpList_lookC _ rfl _ _ 52 rfl 9 law9 Tryd.underlying52 w.heap.size (k + 1) _ rfl HC1.out _ _ rfl HKY.out ?_; rw [upd_same (by exact trivial)]))
        have hbb := hb.grown hg1 hb.size (fun j hj => by cases hj; exact Nat.le_refl _)
        refine ⟨⟨k + 1, _, rfl, by omega, HC1.out, ?_, ?_, hbb⟩, by simp [intOf]; omega⟩
        · rw [HTK.out]; exact Seen.put HSE.out s
        · have := HFR.out
          rw [if_neg (by simp)] at this
          rw [HTK.out]; exact this
      · rw [if_pos rfl] at hfs
        rw [hfs] at hlk
        clear hfs
        have hF := HFR.out
        rw [if_pos rfl] at hF
        subst hF
        go_wp2_with (first
          | (at_mapUpdate; go_must (refine wpList_storeC _ rfl _ _ _ 52 rfl 9 law9 Tryd.underlying52 w.heap.size k f rfl HCN.out (by simp [maxLen]; omega) _ 2 _ rfl rfl HKY.out (by decide) ?_; intro w1 hc1 hg1; have HC1 : Hid _ := hc1; clear hc1))
          | (at_lookup; have hchk := HC1; refine wpList_lookC _ rfl _ _ 52 rfl 9 law9 Tryd.underlying52 w.heap.size (k + 1) _ rfl HC1.out _ _ rfl HKY.out ?_; rw [upd_same (by exact trivial)]))
        have hbb := hb.grown hg1 hb.size (fun j hj => by cases hj; exact Nat.le_refl _)
        go_ret2
        exact ⟨⟨_, rfl⟩, hbb⟩
    · have hkn' : ¬ ((k : Int) < (ss.length : Int)) := by omega
      rw [List.drop_eq_nil_of_le (by omega)] at hfr
      simp only [dupFrom] at hfr
      subst hfr
      go_wp2_with fail
      go_ret2
      exact ⟨⟨_, rfl⟩, hb⟩

theorem cell_lt {w : World} {g j : Nat} {v : Value} (h : w.cell? ⟨g, j, none⟩ = some v) : g < w.heap.size := by
  cases hh : w.heap[g]? with
  | none => simp [World.cell?, hh] at h
  | some o => exact (Array.getElem?_eq_some_iff.1 hh).1

end Go.Proofs.YtokolklaamfedaaDoor
