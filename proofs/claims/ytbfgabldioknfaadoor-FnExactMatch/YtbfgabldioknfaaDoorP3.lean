/-
  What impl's isPattern, areAlike, Match answer. No statement of the seat is proved here.
-/
import Derived.Test.YtbfgabldioknfaaDoorI1
namespace Go.Proofs.YtbfgabldioknfaaDoor
open Go.ChangeShapes Go.WideShapes Go.ChangeAt Go.RowKit
set_option linter.unusedVariables false
set_option linter.unusedSimpArgs false

theorem wrap_i64 (q : Int) (h0 : -9223372036854775808 ≤ q) (h1 : q ≤ 9223372036854775807) : IntKind.i64.wrap q = q := by
  simp only [IntKind.wrap, IntKind.bits, IntKind.signed]
  simp
  omega
def noPlain (s : ByteArray) : Bool := !plainB nameOK s
set_option maxRecDepth 100000 in
theorem implNoPlain (s : ByteArray) (hz : s.size ≤ 1048576) (w : World) (hT : Lib.Utf8Tabs 0 1 w) : Calls Tryd.prog 15 #[.string s] w fun e w' => e = .returned (.bool (noPlain s)) ∧ Below w.heap.size w w' := by
  have cn := implNameOK s w hT
  clear hT
  unfold noPlain plainB starB
  obtain ⟨b, hb⟩ : ∃ b, nameOK s = b := ⟨_, rfl⟩
  obtain ⟨c, hc⟩ : ∃ c, (s.toList == [42]) = c := ⟨_, rfl⟩
  rw [hb] at cn ⊢
  rw [hc]
  clear hb
  cases c
  · go_enter Tryd.func15, Tryd.ntmps15
    go_wp2_with (go_at_call 16; go_must (refine cn.mono ?_; rintro e w1 ⟨rfl, hb1⟩))
    go_ret
    exact ⟨by simp, hb1⟩
  · go_enter Tryd.func15, Tryd.ntmps15
    go_wp2_with fail
    go_ret
    exact ⟨rfl, Below.refl _ _⟩

set_option maxRecDepth 100000 in
set_option maxHeartbeats 1000000 in
theorem implIndexQ (ss : List ByteArray) (a : Option Addr) (cap : Nat) (w : World) (hlen : ss.length ≤ 1000000) (hz : ∀ s ∈ ss, s.size ≤ 1048576) (hc : 0 < ss.length → ∃ g, a = some ⟨g, 0, none⟩ ∧ g < w.heap.size ∧ ∀ j (hj : j < ss.length), w.cell? ⟨g, j, none⟩ = some (.string ss[j])) (hT : Lib.Utf8Tabs 0 1 w) :
    Calls Tryd.prog 27 #[.slice a ss.length cap, .func (.func 15) #[] #[]] w fun e w' => (∃ r : Int, e = .returned (.int .i64 r) ∧ decide (0 ≤ r) = ss.any noPlain) ∧ Below w.heap.size w w' := by
  have HC : Hid (0 < ss.length → ∃ g, a = some ⟨g, 0, none⟩ ∧ g < w.heap.size ∧ ∀ j (hj : j < ss.length), w.cell? ⟨g, j, none⟩ = some (.string ss[j])) := hc
  have HZ : Hid (∀ s ∈ ss, s.size ≤ 1048576) := hz
  have HT : Hid (Lib.Utf8Tabs 0 1 w) := hT
  have hlen' : (ss.length : Int) ≤ 1000000 := by omega
  clear hc hT hz
  go_enter Tryd.func27, Tryd.ntmps27
  go_wp2_with fail
  go_loopw [8] (fun i8 wr => ∃ (k : Nat), i8 = .int .i64 (k : Int) ∧ k ≤ ss.length ∧ (ss.take k).any noPlain = false ∧ Below w.heap.size w wr) (fun i8 _ => ss.length - (intOf i8).toNat)
  case atStart => exact ⟨0, rfl, by omega, by simp, Below.refl _ _⟩
  case round =>
    obtain ⟨k, rfl, hk, hany, hb⟩ := hrel
    have HA : Hid ((ss.take k).any noPlain = false) := hany
    clear hany
    by_cases hkn : k < ss.length
    · have hkn' : (k : Int) < (ss.length : Int) := by omega
      obtain ⟨g, rfl, hg, hcell⟩ := HC.out (by omega)
      have x1 := hcell k hkn
      have z1 := HZ.out ss[k] (List.getElem_mem hkn)
      obtain ⟨x, hx⟩ : ∃ x, ss[k] = x := ⟨_, rfl⟩
      have HX : Hid (ss[k] = x) := hx
      rw [hx] at x1 z1
      clear hx hcell
      have d1 := (hb.cell (p := ⟨g, k, none⟩) hg).trans x1
      have cn := implNoPlain x z1 wr (Utf8Tabs_below HT.out hb)
      obtain ⟨B1, hB1⟩ : ∃ B1, noPlain x = B1 := ⟨_, rfl⟩
      rw [hB1] at cn
      have HB1 : Hid (noPlain x = B1) := hB1
      clear hB1
      cases B1
      · go_wp2_with (go_at_call 15; go_must (refine cn.mono ?_; rintro e w1 ⟨rfl, hb1⟩))
        exact ⟨⟨k + 1, rfl, by omega, any_takeW ss _ k hkn HA.out (by rw [HX.out]; exact HB1.out), good_below hb hb1⟩, by simp [intOf]; omega⟩
      · go_wp2_with (go_at_call 15; go_must (refine cn.mono ?_; rintro e w1 ⟨rfl, hb1⟩))
        go_ret
        refine ⟨⟨_, rfl, ?_⟩, good_below hb hb1⟩
        rw [List.any_eq_true.2 ⟨ss[k], List.getElem_mem hkn, by rw [HX.out]; exact HB1.out⟩]
        simp
    · have hkn' : ¬ ((k : Int) < (ss.length : Int)) := by omega
      have hA := HA.out
      rw [List.take_of_length_le (by omega)] at hA
      go_wp2_with fail
      go_ret
      refine ⟨⟨_, rfl, ?_⟩, hb⟩
      first
        | (rw [hA]; rfl)
        | omega
set_option maxRecDepth 100000 in
theorem implContainsQ (ss : List ByteArray) (a : Option Addr) (cap : Nat) (w : World) (hlen : ss.length ≤ 1000000) (hz : ∀ s ∈ ss, s.size ≤ 1048576) (hc : 0 < ss.length → ∃ g, a = some ⟨g, 0, none⟩ ∧ g < w.heap.size ∧ ∀ j (hj : j < ss.length), w.cell? ⟨g, j, none⟩ = some (.string ss[j])) (hT : Lib.Utf8Tabs 0 1 w) :
    Calls Tryd.prog 17 #[.slice a ss.length cap, .func (.func 15) #[] #[]] w fun e w' => e = .returned (.bool (ss.any noPlain)) ∧ Below w.heap.size w w' := by
  have c := implIndexQ ss a cap w hlen hz hc hT
  clear hc hT hz
  go_enter Tryd.func17, Tryd.ntmps17
  go_wp2_with (go_at_call 27; go_must (refine c.mono ?_; rintro e w1 ⟨⟨r, rfl, hr⟩, hb1⟩))
  go_ret
  refine ⟨congrArg (fun b => Ending.returned (Value.bool b)) ?_, hb1⟩
  rw [← hr]


theorem last_split {ps : List ByteArray} (h : 0 < ps.length) : ∃ pre x, ps = pre ++ [x] ∧ pre.length = ps.length - 1 ∧ ps[ps.length - 1]'(by omega) = x := by
  have hne : ps ≠ [] := List.length_pos_iff.1 h
  refine ⟨ps.dropLast, ps.getLast hne, (List.dropLast_concat_getLast hne).symm, List.length_dropLast, ?_⟩
  rw [List.getLast_eq_getElem]
set_option maxRecDepth 100000 in
set_option maxHeartbeats 1000000 in
theorem implPattern (s : ByteArray) (hz : s.size ≤ 1048576) (w : World) (hT : Lib.Utf8Tabs 0 1 w) : Calls Tryd.prog 10 #[.string s] w fun e w' => e = .returned (.bool (patB nameOK s)) ∧ Below w.heap.size w w' := by
  have cs := implParts s hz w
  have hps := pat_split s
  have hsm : ∀ x ∈ partsF s, x.size ≤ 1048576 := fun x hx => Nat.le_trans (split_small ⟨#[46]⟩ 0 (min 5 (s.size + 1) - 1) s x hx) hz
  have hpos := parts_pos s
  have hlen : (partsF s).length ≤ min 5 (s.size + 1) := by
    have : (partsF s).length ≤ min 5 (s.size + 1) - 1 + 1 := Lib.splitB_length_le ⟨#[46]⟩ 0 (min 5 (s.size + 1) - 1) s
    omega
  have hK5 : min 5 (s.size + 1) ≤ 5 := by omega
  obtain ⟨ps, hp⟩ : ∃ ps, partsF s = ps := ⟨_, rfl⟩
  obtain ⟨K, hK⟩ : ∃ K, min 5 (s.size + 1) = K := ⟨_, rfl⟩
  rw [hp] at hps hsm hpos hlen cs
  rw [hK] at hlen hK5 cs
  clear hp hK
  have hb0 : Below w.heap.size w (w.alloc (.cells (Lib.cellsOf ps K) 9)) := (Below.refl _ w).alloc (Nat.le_refl _) _
  have hT1 := Utf8Tabs_below hT hb0
  have hcells := cells_split w ps K 9 hlen
  have hsz : w.heap.size < (w.alloc (.cells (Lib.cellsOf ps K) 9)).heap.size := by simp
  obtain ⟨w1, hw1⟩ : ∃ w1, w.alloc (.cells (Lib.cellsOf ps K) 9) = w1 := ⟨_, rfl⟩
  simp only [hw1] at cs hb0 hT1 hcells hsz
  obtain ⟨pre, x, he, hpl, hx⟩ := last_split hpos
  rw [← hps]
  have hlast : lastHash ps = hashB x := by rw [he, lastHash_snoc]
  unfold patL
  rw [hlast]
  have d1 := hcells (ps.length - 1) (by omega)
  rw [hx] at d1
  obtain ⟨n, hn⟩ : ∃ n, ps.length = n := ⟨_, rfl⟩
  obtain ⟨m, hm⟩ : ∃ m, n - 1 = m := ⟨_, rfl⟩
  have hmn : ((n : Int) - 1) = (m : Int) := by omega
  have hmw : IntKind.i64.wrap ((n : Int) - 1) = (m : Int) := by rw [hmn]; exact wrap_i64 _ (by omega) (by omega)
  have hm0 : (m : Int) < (n : Int) := by omega
  have hm1 : (m : Int) ≤ (K : Int) := by omega
  have hmp : (0 : Int) ≤ (m : Int) := by omega
  by_cases hh : hashB x = true
  · have hh' : (x.toList == [35]) = true := hh
    rw [hh]
    have hdl : ps.dropLast = pre := by rw [he]; simp
    have cq := implContainsQ pre (some ⟨w.heap.size, 0, none⟩) K w1 (by omega) (fun y hy => hsm y (by rw [he]; exact List.mem_append_left _ hy)) (fun _ => ⟨w.heap.size, rfl, hsz, fun j hj => by
      have := hcells j (by omega)
      rw [this]
      congr 2
      simp only [he, List.getElem_append_left hj]⟩) hT1
    rw [hpl, hn, hm] at cq
    have hall : (bif true then ps.dropLast else ps).all (plainB nameOK) = !(pre.any noPlain) := by
      rw [cond_true, hdl, List.all_eq_not_any_not]; rfl
    rw [hall]
    obtain ⟨R, hR⟩ : ∃ R, pre.any noPlain = R := ⟨_, rfl⟩
    rw [hR] at cq ⊢
    rw [hn] at cs
    rw [hn, hm] at d1
    clear hR hall hdl hcells hsm hps hlast hx he hpl hT hT1 hw1 hn hm
    go_enter Tryd.func10, Tryd.ntmps10
    go_wp2_with (first
      | (go_at_call 13; go_must (refine cs.mono ?_; rintro e w2 ⟨rfl, rfl⟩))
      | (go_at_call 17; go_must (refine cq.mono ?_; rintro e w3 ⟨rfl, hb3⟩)))
    go_ret
    exact ⟨by simp, good_below hb0 hb3⟩
  · have hh' : (x.toList == [35]) = false := by simpa [hashB] using hh
    rw [show hashB x = false from hh']
    have cq := implContainsQ ps (some ⟨w.heap.size, 0, none⟩) K w1 (by omega) hsm (fun _ => ⟨w.heap.size, rfl, hsz, hcells⟩) hT1
    have hall : (bif false then ps.dropLast else ps).all (plainB nameOK) = !(ps.any noPlain) := by
      rw [cond_false, List.all_eq_not_any_not]; rfl
    rw [hall]
    obtain ⟨R, hR⟩ : ∃ R, ps.any noPlain = R := ⟨_, rfl⟩
    rw [hR] at cq ⊢
    rw [hn] at cs cq
    rw [hn, hm] at d1
    clear hR hall hcells hsm hps hlast hx he hpl hT hT1 hw1 hn hm
    go_enter Tryd.func10, Tryd.ntmps10
    go_wp2_with (first
      | (go_at_call 13; go_must (refine cs.mono ?_; rintro e w2 ⟨rfl, rfl⟩))
      | (go_at_call 17; go_must (refine cq.mono ?_; rintro e w3 ⟨rfl, hb3⟩)))
    go_ret
    exact ⟨by simp, good_below hb0 hb3⟩
end Go.Proofs.YtbfgabldioknfaaDoor
