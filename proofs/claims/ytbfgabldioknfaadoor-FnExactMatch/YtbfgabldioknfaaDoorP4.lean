/-
  What impl's areAlike, Match answer. No statement of the seat is proved here.
-/
import Derived.Test.YtbfgabldioknfaaDoorP3
import Derived.Test.YtbfgabldioknfaaDoorP2
namespace Go.Proofs.YtbfgabldioknfaaDoor
open Go.ChangeShapes Go.WideShapes Go.ChangeAt Go.RowKit
set_option linter.unusedVariables false
set_option linter.unusedSimpArgs false

/-- Rows of texts at the beginning of their blocks. -/
def RowT (w : World) (a : Option Addr) (l : List ByteArray) : Prop := 0 < l.length → ∃ g, a = some ⟨g, 0, none⟩ ∧ g < w.heap.size ∧ ∀ j (hj : j < l.length), w.cell? ⟨g, j, none⟩ = some (.string l[j])
theorem alike_done {ps ts : List ByteArray} {k : Nat} (hk : k = ps.length) (hkt : k ≤ ts.length) : alikeL (ps.drop k) (ts.drop k) = (ps.length == ts.length) := by
  subst hk
  rw [List.drop_length]
  unfold alikeL
  rw [List.length_drop, Bool.eq_iff_iff]
  simp only [beq_iff_eq]
  omega
theorem alike_hash {ps ts : List ByteArray} {k : Nat} (hk : k < ps.length) (h : hashB ps[k] = true) : alikeL (ps.drop k) (ts.drop k) = true := by
  rw [List.drop_eq_getElem_cons hk]
  unfold alikeL
  rw [if_pos h]
theorem alike_end {ps ts : List ByteArray} {k : Nat} (hk : k < ps.length) (h : hashB ps[k] = false) (ht : k = ts.length) : alikeL (ps.drop k) (ts.drop k) = false := by
  subst ht
  rw [List.drop_eq_getElem_cons hk, List.drop_length]
  unfold alikeL
  rw [if_neg (by rw [h]; simp)]
theorem alike_not {ps ts : List ByteArray} {k : Nat} (hk : k < ps.length) (hkt : k < ts.length) (h : hashB ps[k] = false) (hs : starB ps[k] = false) (he : (ps[k].toList == ts[k].toList) = false) : alikeL (ps.drop k) (ts.drop k) = false := by
  rw [List.drop_eq_getElem_cons hk, List.drop_eq_getElem_cons hkt]
  unfold alikeL
  rw [if_neg (by rw [h]; simp)]
  simp only
  rw [if_pos (by rw [hs]; simp [bne, he])]
theorem alike_on {ps ts : List ByteArray} {k : Nat} (hk : k < ps.length) (hkt : k < ts.length) (h : hashB ps[k] = false) (hs : starB ps[k] = true ∨ (ps[k].toList == ts[k].toList) = true) : alikeL (ps.drop k) (ts.drop k) = alikeL (ps.drop (k + 1)) (ts.drop (k + 1)) := by
  rw [List.drop_eq_getElem_cons hk, List.drop_eq_getElem_cons hkt]
  conv => lhs; unfold alikeL
  rw [if_neg (by rw [h]; simp)]
  simp only
  rw [if_neg]
  rcases hs with hs | hs
  · rw [hs]; simp
  · simp [bne, hs]
set_option maxRecDepth 100000 in
set_option maxHeartbeats 2000000 in
theorem implAlike (ps ts : List ByteArray) (a a2 : Option Addr) (cap cap2 : Nat) (w : World) (hl : ps.length ≤ 1000000) (hl2 : ts.length ≤ 1000000) (hp : RowT w a ps) (ht : RowT w a2 ts) :
    Calls Tryd.prog 12 #[.slice a ps.length cap, .slice a2 ts.length cap2] w fun e w' => e = .returned (.bool (alikeL ps ts)) ∧ w' = w := by
  have HP : Hid (RowT w a ps) := hp
  have HT : Hid (RowT w a2 ts) := ht
  clear hp ht
  obtain ⟨R, hR⟩ : ∃ R, alikeL ps ts = R := ⟨_, rfl⟩
  rw [hR]
  have HR : Hid (alikeL (ps.drop 0) (ts.drop 0) = R) := hR
  clear hR
  obtain ⟨n, hn⟩ : ∃ n, ps.length = n := ⟨_, rfl⟩
  obtain ⟨m, hm⟩ : ∃ m, ts.length = m := ⟨_, rfl⟩
  rw [hn, hm]
  have hn' : (n : Int) ≤ 1000000 := by omega
  have hm' : (m : Int) ≤ 1000000 := by omega
  have HL : Hid (ps.length = n ∧ ts.length = m) := ⟨hn, hm⟩
  clear hl hl2 hn hm
  go_enter Tryd.func12, Tryd.ntmps12
  go_wp2_with fail
  go_loopw [9] (fun i9 wr => ∃ (k : Nat), i9 = .int .i64 (k : Int) ∧ k ≤ n ∧ k ≤ m ∧ alikeL (ps.drop k) (ts.drop k) = R ∧ wr = w) (fun i9 _ => n - (intOf i9).toNat)
  case atStart => exact ⟨0, rfl, by omega, by omega, HR.out, rfl⟩
  case round =>
    obtain ⟨k, rfl, hk, hk2, hal, rfl⟩ := hrel
    have HAL : Hid (alikeL (ps.drop k) (ts.drop k) = R) := hal
    clear hal
    by_cases hkn : k < n
    · have hkn' : (k : Int) < (n : Int) := by omega
      have hkp : k < ps.length := by rw [HL.out.1]; exact hkn
      obtain ⟨g, rfl, hg, hcell⟩ := HP.out (by omega)
      have d1 := hcell k hkp
      obtain ⟨x, hx⟩ : ∃ x, ps[k] = x := ⟨_, rfl⟩
      rw [hx] at d1
      have HX : Hid (ps[k] = x) := hx
      clear hx hcell
      by_cases hh : (x.toList == [35]) = true
      · go_wp2_with fail
        go_ret
        refine ⟨?_, rfl⟩
        rw [← HAL.out, alike_hash hkp (by rw [HX.out]; exact hh)]; rfl
      · have hh' : (x.toList == [35]) = false := by simpa using hh
        have HH : Hid (hashB ps[k] = false) := by rw [HX.out]; exact hh'
        clear hh
        by_cases hkm : k = m
        · subst hkm
          go_wp2_with fail
          go_ret
          refine ⟨?_, rfl⟩
          rw [← HAL.out, alike_end hkp HH.out HL.out.2.symm]; rfl
        · have hkm' : ((k : Int) == (m : Int)) = false := by rw [beq_eq_false_iff_ne]; omega
          have hkm2 : (k : Int) < (m : Int) := by omega
          have hkt : k < ts.length := by rw [HL.out.2]; omega
          obtain ⟨g2, rfl, hg2, hcell2⟩ := HT.out (by omega)
          have d2 := hcell2 k hkt
          obtain ⟨y, hy⟩ : ∃ y, ts[k] = y := ⟨_, rfl⟩
          rw [hy] at d2
          have HY : Hid (ts[k] = y) := hy
          clear hy hcell2 hkm
          by_cases hs : (x.toList == [42]) = true
          · go_wp2_with fail
            refine ⟨⟨k + 1, rfl, by omega, by omega, ?_, by first | rfl | trivial⟩, by simp [intOf]; omega⟩
            rw [← HAL.out, alike_on hkp hkt HH.out (.inl (by rw [HX.out]; exact hs))]
          · have hs' : (x.toList == [42]) = false := by simpa using hs
            clear hs
            by_cases he : (x.toList == y.toList) = true
            · go_wp2_with fail
              refine ⟨⟨k + 1, rfl, by omega, by omega, ?_, by first | rfl | trivial⟩, by simp [intOf]; omega⟩
              rw [← HAL.out, alike_on hkp hkt HH.out (.inr (by rw [HX.out, HY.out]; exact he))]
            · have he' : (x.toList == y.toList) = false := by simpa using he
              clear he
              go_wp2_with fail
              go_ret
              refine ⟨?_, rfl⟩
              rw [← HAL.out, alike_not hkp hkt HH.out (by rw [HX.out]; exact hs') (by rw [HX.out, HY.out]; exact he')]; rfl
    · obtain rfl : k = n := by omega
      have hkn' : ¬ ((k : Int) < (k : Int)) := by omega
      have hal := HAL.out
      rw [alike_done HL.out.1.symm (by rw [HL.out.2]; exact hk2), HL.out.1, HL.out.2] at hal
      have HAL2 : Hid ((k == m) = R) := hal
      clear hal HAL
      by_cases hq : k = m
      · subst hq
        go_wp2_with fail
        go_ret
        refine ⟨?_, rfl⟩
        rw [← HAL2.out]; simp
      · have hq' : ((k : Int) == (m : Int)) = false := by rw [beq_eq_false_iff_ne]; omega
        go_wp2_with fail
        go_ret
        refine ⟨?_, rfl⟩
        rw [← HAL2.out, beq_eq_false_iff_ne.2 hq]; rfl

theorem parts_fit (s : ByteArray) : (partsF s).length ≤ min 5 (s.size + 1) := by
  have : (partsF s).length ≤ min 5 (s.size + 1) - 1 + 1 := Lib.splitB_length_le ⟨#[46]⟩ 0 (min 5 (s.size + 1) - 1) s
  omega
set_option maxRecDepth 100000 in
set_option maxHeartbeats 2000000 in
theorem implMatch (p t : ByteArray) (hp : p.size ≤ 1048576) (ht : t.size ≤ 1048576) (w : World) (hT : ∀ W, Below w.heap.size w W → Lib.Utf8Tabs 0 1 W) :
    Calls Tryd.prog 5 #[.string p, .string t] w fun e w' => e = .returned (.bool (matchF p t)) ∧ Below w.heap.size w w' := by
  have HT : Hid (∀ W, Below w.heap.size w W → Lib.Utf8Tabs 0 1 W) := hT
  have c1 := fun W (hW : Below w.heap.size w W) => implPattern p hp W (HT.out W hW)
  have c2 := fun W (hW : Below w.heap.size w W) => implIsPath t ht W (HT.out W hW)
  have c3 := fun W => implParts p hp W
  have c4 := fun W => implParts t ht W
  have hz := fun (W : World) => cells_split W (partsF p) _ 9 (parts_fit p)
  have hz2 := fun (W : World) => cells_split W (partsF t) _ 9 (parts_fit t)
  have l1 := parts_len p
  have l2 := parts_len t
  rw [matchF_alike]
  obtain ⟨A1, hA1⟩ : ∃ A1, patB nameOK p = A1 := ⟨_, rfl⟩
  obtain ⟨A2, hA2⟩ : ∃ A2, pathB nameOK t = A2 := ⟨_, rfl⟩
  simp only [hA1] at c1
  simp only [hA2] at c2
  rw [hA1, hA2]
  clear hA1 hA2 hT
  generalize partsF p = ps at c3 hz l1 ⊢
  generalize partsF t = ts at c4 hz2 l2 ⊢
  generalize min 5 (p.size + 1) = K at c3 hz
  generalize min 5 (t.size + 1) = K2 at c4 hz2
  have bA := fun (W : World) (o : Obj) => (Below.refl W.heap.size W).alloc (Nat.le_refl _) o
  cases A1
  · go_enter Tryd.func5, Tryd.ntmps5
    go_wp2_with (go_at_call 10; go_must (refine (c1 _ (Below.refl _ _)).mono ?_; rintro e w1 ⟨rfl, hb1⟩))
    go_ret
    exact ⟨rfl, hb1⟩
  · cases A2
    · go_enter Tryd.func5, Tryd.ntmps5
      go_wp2_with (first
        | (go_at_call 10; go_must (refine (c1 _ (Below.refl _ _)).mono ?_; rintro e w1 ⟨rfl, hb1⟩))
        | (go_at_call 11; go_must (refine (c2 _ hb1).mono ?_; rintro e w2 ⟨rfl, hb2⟩)))
      go_ret
      exact ⟨by simp, good_below hb1 hb2⟩
    · have ca := fun (W : World) => implAlike ps ts (some ⟨W.heap.size, 0, none⟩) (some ⟨(W.alloc (.cells (Lib.cellsOf ps K) 9)).heap.size, 0, none⟩) K K2 ((W.alloc (.cells (Lib.cellsOf ps K) 9)).alloc (.cells (Lib.cellsOf ts K2) 9)) (by omega) (by omega)
        (fun h0 => ⟨_, rfl, by simp; omega, fun j hj => ((bA _ _).cell (p := ⟨W.heap.size, j, none⟩) (by simp)).trans (hz W j hj)⟩)
        (fun h0 => ⟨_, rfl, by simp, hz2 _⟩)
      obtain ⟨R, hR⟩ : ∃ R, alikeL ps ts = R := ⟨_, rfl⟩
      simp only [hR, World.size_alloc] at ca ⊢
      clear hR hz hz2
      go_enter Tryd.func5, Tryd.ntmps5
      go_wp2_with (first
        | (go_at_call 10; go_must (refine (c1 _ (Below.refl _ _)).mono ?_; rintro e w1 ⟨rfl, hb1⟩))
        | (go_at_call 11; go_must (refine (c2 _ hb1).mono ?_; rintro e w2 ⟨rfl, hb2⟩))
        | (go_at_call 13; have hchk := hb3; refine (c4 _).mono ?_; rintro e w4 ⟨rfl, hw4⟩; subst hw4; simp only [World.size_alloc])
        | (go_at_call 13; refine (c3 _).mono ?_; rintro e w3 ⟨rfl, hb3⟩; have hb3' := hb3; subst hb3'; simp only [World.size_alloc])
        | (go_at_call 12; go_must (refine (ca _).mono ?_; rintro e w5 ⟨rfl, rfl⟩)))
      go_ret
      exact ⟨by simp, good_below hb1 (good_below hb2 (good_below (bA _ _) (bA _ _)))⟩
end Go.Proofs.YtbfgabldioknfaaDoor
