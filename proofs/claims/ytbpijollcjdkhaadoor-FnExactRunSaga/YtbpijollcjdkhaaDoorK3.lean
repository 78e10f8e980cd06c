/-
  What the document's any, ready, command and drop do. No statement of the seat is proved here.
-/
import Derived.Test.YtbpijollcjdkhaaDoorK2
import Derived.Deep.RegionHeld3
import Derived.Deep.Cut
import Derived.Deep.CutRange
namespace Go.Proofs.YtbpijollcjdkhaaDoor
open Go.ChangeShapes Go.WideShapes Go.ChangeAt Go.RowKit
set_option linter.unusedVariables false
set_option linter.unusedSimpArgs false

section
variable {S : Nat → Prop} {B : Nat} {l : List Step} {a : Option Addr} {cap g gi gt : Nat} {dv rv cv : Value} {w0 w : World} {s : Sg} {reps : List Int}
theorem is_take {s : Sg} {x : Int} {k : Nat} (hk : k < s.is.length) (h0 : (s.is.take k).any (fun y => decide (y = x)) = false) (h1 : isAt s k ≠ x) : (s.is.take (k + 1)).any (fun y => decide (y = x)) = false := by
  rw [List.take_succ_eq_append_getElem hk, List.any_append, h0]
  rw [isAt_eq hk] at h1
  simp [h1]
set_option maxRecDepth 100000 in
set_option maxHeartbeats 1000000 in
theorem specAny (h : RunS S B l a cap g gi gt dv rv cv w0 w s reps) (x : Int) :
    Calls Tryd.prog 60 #[.pointer (some ⟨g, 0, none⟩), .int .i64 x] w fun e w' => e = .returned (.bool (anyB s x)) ∧ w' = w := by
  have c1 := h.blk.cell 1
  simp at c1
  have hl : l.length ≤ 20 := h.saga.len.2
  have hl' : (l.length : Int) ≤ 20 := by omega
  have HR : Hid (RunS S B l a cap g gi gt dv rv cv w0 w s reps) := h
  obtain ⟨F, hF⟩ : ∃ F, anyB s x = F := ⟨_, rfl⟩
  rw [hF]
  have HF : Hid (anyB s x = F) := hF
  clear h hF
  go_enter Tryd.func60, Tryd.ntmps60
  go_wp2_with fail
  go_loopw [5] (fun i5 wr => ∃ (k : Nat), i5 = .int .i64 (k : Int) ∧ k ≤ l.length ∧ (s.is.take k).any (fun y => decide (y = x)) = false ∧ wr = w) (fun i5 _ => l.length - (intOf i5).toNat)
  case atStart => exact ⟨0, rfl, by omega, by simp, rfl⟩
  case round =>
    obtain ⟨k, rfl, hk, hany, rfl⟩ := hrel
    have HA : Hid ((s.is.take k).any (fun y => decide (y = x)) = false) := hany
    clear hany
    by_cases hkn : k < l.length
    · have hkn' : (k : Int) < (l.length : Int) := by omega
      have hks : k < s.is.length := by rw [HR.out.ok.il]; exact hkn
      have d1 := (HR.out.isCell k hkn).1
      have hno := fun h1 => is_take (x := x) hks HA.out h1
      have hyes : isAt s k = x → F = true := fun e => by
        rw [← HF.out]
        exact List.any_eq_true.2 ⟨s.is[k], List.getElem_mem hks, by rw [isAt_eq hks] at e; simp [e]⟩
      obtain ⟨y, hy⟩ : ∃ y, isAt s k = y := ⟨_, rfl⟩
      rw [hy] at d1 hno hyes
      clear hy
      by_cases he : y = x
      · have hf := hyes he
        subst hf
        subst he
        clear hno hyes
        go_wp2_with fail
        go_ret
        exact ⟨rfl, rfl⟩
      · have HNO : Hid ((s.is.take (k + 1)).any (fun y => decide (y = x)) = false) := hno he
        clear hno hyes
        go_wp2_with fail
        exact ⟨⟨k + 1, rfl, by omega, HNO.out, by first | rfl | trivial⟩, by simp [intOf]; omega⟩
    · have hkn' : ¬ ((k : Int) < (l.length : Int)) := by omega
      have hA := HA.out
      rw [List.take_of_length_le (by rw [HR.out.ok.il]; omega)] at hA
      have hf : F = false := by rw [← HF.out]; exact hA
      subst hf
      go_wp2_with fail
      go_ret
      exact ⟨rfl, rfl⟩
theorem RunS.findC (h : RunS S B l a cap g gi gt dv rv cv w0 w s reps) (t : ByteArray) {W : World} (hW : Below w.heap.size w W) :
    Calls Tryd.prog 43 #[.slice a l.length cap, .string t] W fun e w' => e = .returned (.int .i64 (findI (names l) t)) ∧ w' = W := by
  obtain ⟨b, off, rfl, hb, hc⟩ := (h.go hW).stepCell
  refine specFind (names l) t _ l.length cap W (names_len l) (by have := h.saga.len; omega) (fun _ => ⟨b, off, rfl, fun i hi => ?_⟩)
  have hi' : i < l.length := by rwa [names_len] at hi
  rw [(hc i hi').1, stepOf_eq hi']
  simp [names]
theorem all_take {α : Type} (l : List α) (f : α → Bool) (k : Nat) (h : k < l.length) (h0 : (l.take k).all f = true) (h1 : f l[k] = true) : (l.take (k + 1)).all f = true := by
  rw [List.take_succ_eq_append_getElem h, List.all_append, h0]
  simp [h1]
set_option maxRecDepth 100000 in
set_option maxHeartbeats 2000000 in
theorem specReady (h : RunS S B l a cap g gi gt dv rv cv w0 w s reps) (i : Nat) (hi : i < l.length) :
    Calls Tryd.prog 59 #[.pointer (some ⟨g, 0, none⟩), .int .i64 (i : Int)] w fun e w' => e = .returned (.bool (askB l s i)) ∧ Below w.heap.size w w' := by
  obtain ⟨b, off, rfl, hbB, hst⟩ := h.stepCell
  obtain ⟨_, _, _, nv, e1, hnv⟩ := hst i hi
  have hl : l.length ≤ 20 := h.saga.len.2
  have hl' : (l.length : Int) ≤ 20 := by omega
  have hi' : (i : Int) < (l.length : Int) := by omega
  have hbs := h.size
  have hnd := h.saga.needs i hi
  have hnl := (h.saga.ok _ (List.getElem_mem hi)).2.1
  rw [← stepOf_eq hi] at hnd hnl
  obtain ⟨za, zc, hzv⟩ := hnv.shape
  subst hzv
  have hcc : 0 < (stepOf l i).needs.length → ∃ cb co, za = some ⟨cb, co, none⟩ ∧ cb < B ∧ ∀ j (hj : j < (stepOf l i).needs.length), w.cell? ⟨cb, co + j, none⟩ = some (.string (stepOf l i).needs[j]) := fun h0 => by
    obtain ⟨_, ta, tc, htv, hcl⟩ := hnv
    simp only [Value.slice.injEq] at htv
    obtain ⟨rfl, -, rfl⟩ := htv
    obtain ⟨cb, co, rfl, hcS, hcl⟩ := hcl h0
    exact ⟨cb, co, rfl, h.saga.low cb hcS, hcl⟩
  have hask : askB l s i = ((stepOf l i).needs.all (fun t => decide (isAt s (numOf l t) = 2)) && decide (isAt s i = 0)) := rfl
  rw [hask]
  obtain ⟨xs, hxs⟩ : ∃ xs, (stepOf l i).needs = xs := ⟨_, rfl⟩
  rw [hxs] at hnd hnl hcc e1 ⊢
  have HCC : Hid (0 < xs.length → ∃ cb co, za = some ⟨cb, co, none⟩ ∧ cb < B ∧ ∀ j (hj : j < xs.length), w.cell? ⟨cb, co + j, none⟩ = some (.string xs[j])) := hcc
  have HND : Hid (∀ t ∈ xs, 0 ≤ findI (names l) t) := hnd
  have HR : Hid (RunS S B l (some ⟨b, off, none⟩) cap g gi gt dv rv cv w0 w s reps) := h
  have HB : Hid (∀ W, Below w.heap.size w W → W.cell? ⟨b, off + i * 4 + 1, none⟩ = some (.slice za xs.length zc)) := fun W hW => (hW.cell (p := ⟨b, off + i * 4 + 1, none⟩) (Nat.lt_of_lt_of_le hbB hbs)).trans e1
  obtain ⟨F, hF⟩ : ∃ F, (xs.all (fun t => decide (isAt s (numOf l t) = 2)) && decide (isAt s i = 0)) = F := ⟨_, rfl⟩
  rw [hF]
  have HF : Hid ((xs.all (fun t => decide (isAt s (numOf l t) = 2)) && decide (isAt s i = 0)) = F) := hF
  clear h hst hnv hcc hnd hask hxs e1 hF
  go_enter Tryd.func59, Tryd.ntmps59
  go_wp2_with fail
  go_loopw [5] (fun i5 wr => ∃ (k : Nat), i5 = .int .i64 (k : Int) ∧ k ≤ xs.length ∧ (xs.take k).all (fun t => decide (isAt s (numOf l t) = 2)) = true ∧ Below w.heap.size w wr) (fun i5 _ => xs.length - (intOf i5).toNat)
  case atStart => exact ⟨0, rfl, by omega, by simp, Below.refl _ _⟩
  case round =>
    obtain ⟨k, rfl, hk, hany, hb⟩ := hrel
    have HA : Hid ((xs.take k).all (fun t => decide (isAt s (numOf l t) = 2)) = true) := hany
    have hR := HR.out.go hb
    have q0 := hR.blk.cell 0
    have q1 := hR.blk.cell 1
    have q2 := HB.out _ hb
    have q3 := (hR.isCell i hi).1
    simp at q0 q1
    clear hany
    by_cases hkn : k < xs.length
    · have hkn' : (k : Int) < (xs.length : Int) := by omega
      obtain ⟨cb, co, rfl, hcb, hcl⟩ := HCC.out (by omega)
      have hfd := find_lt (HND.out xs[k] (List.getElem_mem hkn))
      have hnx := all_take xs (fun t => decide (isAt s (numOf l t) = 2)) k hkn HA.out
      have hbad : decide (isAt s (numOf l xs[k]) = 2) = false → F = false := fun h0 => by
        rw [← HF.out, show xs.all (fun t => decide (isAt s (numOf l t) = 2)) = false from List.all_eq_false.2 ⟨xs[k], List.getElem_mem hkn, by rw [h0]; simp⟩]; rfl
      have r2 := hcl k hkn
      have cf := fun W (hW : Below wr.heap.size wr W) => hR.findC xs[k] hW
      obtain ⟨y, hy⟩ : ∃ y, xs[k] = y := ⟨_, rfl⟩
      rw [hy] at hfd hnx hbad r2 cf
      obtain ⟨j, hj⟩ : ∃ j, numOf l y = j := ⟨_, rfl⟩
      rw [hj] at hfd hnx hbad
      rw [← hfd.2] at cf
      have hjl := hfd.1
      have hjl' : (j : Int) < (l.length : Int) := by omega
      have p0 := fun N : GoodW (fun W => Below wr.heap.size wr W) => (hR.go N.ok).blk.cell 0
      have p1 := fun N : GoodW (fun W => Below wr.heap.size wr W) => (hR.go N.ok).blk.cell 1
      have p2 := fun N : GoodW (fun W => Below wr.heap.size wr W) => HB.out _ (good_below hb N.ok)
      have p3 := fun N : GoodW (fun W => Below wr.heap.size wr W) => ((good_below hb N.ok).cell (p := ⟨cb, co + k, none⟩) (Nat.lt_of_lt_of_le hcb hbs)).trans r2
      have p4 := fun N : GoodW (fun W => Below wr.heap.size wr W) => ((hR.go N.ok).isCell j hjl).1
      simp at p0 p1
      obtain ⟨v, hv⟩ : ∃ v, isAt s j = v := ⟨_, rfl⟩
      rw [hv] at hnx hbad
      simp only [hv] at p4
      have HNX : Hid (decide (v = 2) = true → (xs.take (k + 1)).all (fun t => decide (isAt s (numOf l t) = 2)) = true) := hnx
      have HBAD : Hid (decide (v = 2) = false → F = false) := hbad
      have HBW : Hid (Below w.heap.size w wr) := hb
      clear hnx hbad hcl hy hj hv hfd r2 hR q3
      haveI ne : Nonempty (GoodW (fun W => Below wr.heap.size wr W)) := ⟨⟨_, Below.refl _ _⟩⟩
      by_cases hv2 : v = 2
      · have ht := HNX.out (decide_eq_true hv2)
        have HT : Hid ((xs.take (k + 1)).all (fun t => decide (isAt s (numOf l t) = 2)) = true) := ht
        clear ht
        subst hv2
        go_upto_region 4 with fail
        refine wp_region_calm (fun W => Below wr.heap.size wr W) (by kernel_rfl) (by kernel_rfl) (Below.refl _ _).drew ?_
        repeat (go_big_quiet_step ((go_at_call 43; exact Calls.calm_same _ ((cf _ (GoodW.ok _)).mono fun _ _ ⟨h1, h2⟩ => ⟨h1, h2.symm⟩))))
        refine wpQuiet_nil ?_
        rintro _ ⟨⟨W2, hW2⟩, rfl⟩
        go_wp2_with fail
        go_roundw
        case rel => exact ⟨k + 1, by go_num, by omega, HT.out, good_below HBW.out hW2⟩
        case measure => simp [intOf]; omega
      · have hf := HBAD.out (decide_eq_false hv2)
        subst hf
        go_upto_region 4 with fail
        refine wp_region_calm (fun W => Below wr.heap.size wr W) (by kernel_rfl) (by kernel_rfl) (Below.refl _ _).drew ?_
        repeat (go_big_quiet_step ((go_at_call 43; exact Calls.calm_same _ ((cf _ (GoodW.ok _)).mono fun _ _ ⟨h1, h2⟩ => ⟨h1, h2.symm⟩))))
        refine wpQuiet_nil ?_
        rintro _ ⟨⟨W2, hW2⟩, rfl⟩
        go_wp2_with fail
        go_ret
        exact ⟨rfl, good_below HBW.out hW2⟩
    · have hkn' : ¬ ((k : Int) < (xs.length : Int)) := by omega
      have hA := HA.out
      rw [List.take_of_length_le (by omega)] at hA
      have hf := HF.out
      rw [hA, Bool.true_and] at hf
      obtain ⟨v, hv⟩ : ∃ v, isAt s i = v := ⟨_, rfl⟩
      rw [hv] at q3 hf
      subst hf
      clear hA hR hv
      go_wp2_with fail
      go_ret
      exact ⟨rfl, hb⟩
end
end Go.Proofs.YtbpijollcjdkhaaDoor
