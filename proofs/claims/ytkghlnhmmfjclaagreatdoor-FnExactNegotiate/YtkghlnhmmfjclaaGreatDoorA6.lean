/-
  What impl.Negotiate answers. No statement of the seat is proved here.
-/
import Derived.Test.YtkghlnhmmfjclaaGreatDoorA5
namespace Go.Proofs.YtkghlnhmmfjclaaGreatDoor
open Go.ChangeShapes Go.WideShapes Go.ChangeAt Go.RowKit
set_option linter.unusedVariables false

theorem fm_step {α β : Type} (g : α → Option β) (l : List α) (k : Nat) (hk : k < l.length) : (l.take (k + 1)).filterMap g = (l.take k).filterMap g ++ (g l[k]).toList := by
  rw [List.take_succ_eq_append_getElem hk, List.filterMap_append]
  congr 1
theorem fm_bound {α β : Type} (g : α → Option β) (l : List α) (k : Nat) (h : l.length ≤ 20) : ((l.take k).filterMap g).length ≤ 20 := by
  have h1 := List.length_filterMap_le g (l.take k)
  have h2 : (l.take k).length ≤ l.length := by rw [List.length_take]; omega
  omega
set_option maxRecDepth 100000 in
set_option maxHeartbeats 8000000 in
theorem implNegotiates {S : Nat → Prop} {l0 : List Off} {l1 : List Imp} {v0 v1 : Value} {w : World} (hS : ∀ b, S b → b < w.heap.size) (h0 : OffsAt S w v0 l0) (h1 : ImpsAt S w v1 l1) (hl0 : l0.length ≤ 1000000) (hl1 : l1.length ≤ 20) (hnd : (l1.map Imp.name).Nodup) :
    Calls Tryz.prog 31 #[v0, v1] w fun e w' => (∃ p0 p1, e = .returned (.tuple #[p0, p1]) ∧ OwnPks w.heap.size w' p0 (negP l0 l1) ∧ OwnTxts w.heap.size w' p1 (negL l0 l1)) ∧ Below w.heap.size w w' := by
  have hl1' : (l1.length : Int) ≤ 20 := by omega
  have HS : Hid (∀ b, S b → b < w.heap.size) := hS
  have HBST : Hid (∀ W (_ : Below w.heap.size w W) (an : ByteArray) (mn mx : Int), Calls Tryz.prog 47 #[v0, .agg #[.string an, .int .i64 mn, .int .i64 mx]] W fun e w' => e = .returned (.int .i64 (verOf l0 ⟨an, mn, mx⟩)) ∧ Below W.heap.size W w') := fun W hW an mn mx => implBest (w := W) (fun b hb => Nat.lt_of_lt_of_le (hS b hb) hW.size) (h0.keep (cells_below hS hW)) hl0 an mn mx
  obtain ⟨a0, cap0, hv0⟩ := h0.shape
  obtain ⟨_, a1, cap1, hv1, hc1⟩ := h1
  subst hv0 hv1
  have HC1 : Hid _ := hc1
  have HE0 : Hid (∀ {l : List Pk}, l.Perm (l1.filterMap (pickOf l0)) → (l.Pairwise fun x y => pkLess y x = false) → l = negP l0 l1) := fun hp hs => picks_eq hnd hp hs
  have HE1 : Hid (∀ {l : List ByteArray}, l.Perm (l1.filterMap (lostOf l0)) → (l.Pairwise fun x y => lessB y x = false) → l = negL l0 l1) := fun hp hs => lost_eq hnd hp hs
  obtain ⟨P0, hP0⟩ : ∃ P, negP l0 l1 = P := ⟨_, rfl⟩
  obtain ⟨P1, hP1⟩ : ∃ P, negL l0 l1 = P := ⟨_, rfl⟩
  rw [hP0] at HE0 ⊢
  rw [hP1] at HE1 ⊢
  clear hS h0 hc1 hnd hP0 hP1
  go_enter Tryz.func31, Tryz.ntmps31
  go_wp2_with fail
  go_loopw [6, 7, 13] (fun i6 i7 i13 wr => ∃ (k : Nat) (pa : Option Addr) (pc : Nat) (la : Option Addr) (lc : Nat) (po : List Pk) (lo : List ByteArray), i13 = .int .i64 (k : Int) ∧ i6 = .slice pa po.length pc ∧ i7 = .slice la lo.length lc ∧ k ≤ l1.length ∧ po = (l1.take k).filterMap (pickOf l0) ∧ lo = (l1.take k).filterMap (lostOf l0) ∧ OwnPks w.heap.size wr (.slice pa po.length pc) po ∧ OwnTxts w.heap.size wr (.slice la lo.length lc) lo ∧ Below w.heap.size w wr) (fun _ _ i13 _ => l1.length - (intOf i13).toNat)
  case atStart => exact ⟨0, none, 0, none, 0, [], [], rfl, rfl, rfl, by omega, rfl, rfl, OwnPks.nil _ _, OwnTxts.nil _ _, Below.refl _ _⟩
  case round =>
    obtain ⟨k, pa, pc, la, lc, po, lo, rfl, rfl, rfl, hk, hpo, hlo, hop, hol, hb⟩ := hrel
    have hbs := hb.size
    have hpl : po.length ≤ 20 := by rw [hpo]; exact fm_bound _ _ _ hl1
    have hll : lo.length ≤ 20 := by rw [hlo]; exact fm_bound _ _ _ hl1
    have HPO : Hid (po = (l1.take k).filterMap (pickOf l0)) := hpo
    have HLO : Hid (lo = (l1.take k).filterMap (lostOf l0)) := hlo
    have HOP : Hid (OwnPks w.heap.size wr (.slice pa po.length pc) po) := hop
    have HOL : Hid (OwnTxts w.heap.size wr (.slice la lo.length lc) lo) := hol
    clear hpo hlo hop hol
    by_cases hkn : k < l1.length
    · have hkn' : (k : Int) < (l1.length : Int) := by omega
      obtain ⟨b, off, rfl, hbB, hcell⟩ := HC1.out (by omega)
      obtain ⟨x1, x2, x3⟩ := hcell k hkn
      have hbw := HS.out b hbB
      have d1 := (hb.cell (p := ⟨b, off + k * 3, none⟩) hbw).trans x1
      have d2 := (hb.cell (p := ⟨b, off + k * 3 + 1, none⟩) hbw).trans x2
      have d3 := (hb.cell (p := ⟨b, off + k * 3 + 2, none⟩) hbw).trans x3
      have hs0 := fm_step (pickOf l0) l1 k hkn
      have hs1 := fm_step (lostOf l0) l1 k hkn
      rw [← HPO.out] at hs0
      rw [← HLO.out] at hs1
      obtain ⟨x, hx⟩ : ∃ x, l1[k] = x := ⟨_, rfl⟩
      rw [hx] at d1 d2 d3 hs0 hs1
      obtain ⟨nm, mn, mx⟩ := x
      dsimp only at d1 d2 d3
      clear hx x1 x2 x3 hcell
      have cb := fun W (hW : Below w.heap.size w W) => HBST.out W hW nm mn mx
      have ep : pickOf l0 ⟨nm, mn, mx⟩ = if 0 < verOf l0 ⟨nm, mn, mx⟩ then some ⟨nm, verOf l0 ⟨nm, mn, mx⟩⟩ else none := rfl
      have el : lostOf l0 ⟨nm, mn, mx⟩ = if 0 < verOf l0 ⟨nm, mn, mx⟩ then none else some nm := rfl
      rw [ep] at hs0
      rw [el] at hs1
      clear ep el
      obtain ⟨ve, hve⟩ : ∃ ve, verOf l0 ⟨nm, mn, mx⟩ = ve := ⟨_, rfl⟩
      simp only [hve] at hs0 hs1 cb
      clear hve
      by_cases hv : 0 < ve
      · rw [if_pos hv] at hs0 hs1
        have HS0 : Hid ((l1.take (k + 1)).filterMap (pickOf l0) = po ++ [⟨nm, ve⟩]) := hs0
        have hs1' : (l1.take (k + 1)).filterMap (lostOf l0) = lo := by simpa using hs1
        have HS1 : Hid ((l1.take (k + 1)).filterMap (lostOf l0) = lo) := hs1'
        clear hs0 hs1 hs1'
        go_upto_region 8 with (go_at_call 47; go_must (refine (cb _ (hb.alloc hbs _)).mono ?_; rintro e w1 ⟨rfl, hb1⟩; have hk4 : Blk w1 wr.heap.size 51 #[.string nm, .int .i64 mn, .int .i64 mx] := Blk.below (heap_alloc_last wr _) hb1; have hb2 : Below wr.heap.size wr w1 := (((Below.refl _ wr).alloc (Nat.le_refl _) _).trans (hb1.mono (by simp))); have e0 := hk4.cell 0; simp at e0))
        have hbW := good_below hb hb2
        have hbWs := hbW.size
        have hkA : Below w1.heap.size w1 (w1.alloc (.cells #[.string nm, .int .i64 ve] 56)) := (Below.refl _ w1).alloc (Nat.le_refl _) _
        have HPA : Hid (OwnPks w.heap.size (w1.alloc (.cells #[.string nm, .int .i64 ve] 56)) (.slice pa po.length pc) po) := OwnPks.below (OwnPks.below HOP.out hb2) hkA
        have HLA : Hid (OwnTxts w.heap.size (w1.alloc (.cells #[.string nm, .int .i64 ve] 56)) (.slice la lo.length lc) lo) := OwnTxts.below (OwnTxts.below HOL.out hb2) hkA
        clear hkA
        go_wp2_with (at_builtin; go_must (refine wpList_appendPks rfl (.tmp 22) (.tmp 27) rfl w.heap.size (.slice pa po.length pc) po rfl HPA.out _ [⟨nm, ve⟩] rfl (PksAt.newAt _ nm ve _ (by simp)) (by simp <;> omega) (by simp only [World.size_alloc]; omega) ?_; intro v9 w9 hown9 hB9 hgr9 hnil9; obtain ⟨a9, c9, e9, -⟩ := hown9.value; subst e9))
        have hp9 := OwnTxts.kept HLA.out hgr9 (rows_apart HLA.out HPA.out (by decide))
        exact ⟨⟨k + 1, a9, c9, la, lc, po ++ [⟨nm, ve⟩], lo, by go_num, by simp, rfl, by omega, HS0.out.symm, HS1.out.symm, hown9, hp9, (hbW.alloc hbWs _).trans hB9⟩, by simp [intOf]; omega⟩
      · rw [if_neg hv] at hs0 hs1
        have hs0' : (l1.take (k + 1)).filterMap (pickOf l0) = po := by simpa using hs0
        have HS0 : Hid ((l1.take (k + 1)).filterMap (pickOf l0) = po) := hs0'
        have HS1 : Hid ((l1.take (k + 1)).filterMap (lostOf l0) = lo ++ [nm]) := hs1
        clear hs0 hs1 hs0'
        go_upto_region 9 with (go_at_call 47; go_must (refine (cb _ (hb.alloc hbs _)).mono ?_; rintro e w1 ⟨rfl, hb1⟩; have hk4 : Blk w1 wr.heap.size 51 #[.string nm, .int .i64 mn, .int .i64 mx] := Blk.below (heap_alloc_last wr _) hb1; have hb2 : Below wr.heap.size wr w1 := (((Below.refl _ wr).alloc (Nat.le_refl _) _).trans (hb1.mono (by simp))); have e0 := hk4.cell 0; simp at e0))
        have hbW := good_below hb hb2
        have hbWs := hbW.size
        have hkA : Below w1.heap.size w1 (w1.alloc (.cells #[.string nm] 9)) := (Below.refl _ w1).alloc (Nat.le_refl _) _
        have HPA : Hid (OwnPks w.heap.size (w1.alloc (.cells #[.string nm] 9)) (.slice pa po.length pc) po) := OwnPks.below (OwnPks.below HOP.out hb2) hkA
        have HLA : Hid (OwnTxts w.heap.size (w1.alloc (.cells #[.string nm] 9)) (.slice la lo.length lc) lo) := OwnTxts.below (OwnTxts.below HOL.out hb2) hkA
        clear hkA
        go_wp2_with (at_builtin; go_must (refine wpList_appendTxts rfl (.tmp 29) (.tmp 32) rfl w.heap.size (.slice la lo.length lc) lo rfl HLA.out _ [nm] rfl (TxtsAt.newAt _ nm _ (by simp)) (by simp <;> omega) (by simp only [World.size_alloc]; omega) ?_; intro v9 w9 hown9 hB9 hgr9 hnil9; obtain ⟨a9, c9, e9, -⟩ := hown9.value; subst e9))
        have hp9 := OwnPks.kept HPA.out hgr9 (rows_apart HPA.out HLA.out (by decide))
        exact ⟨⟨k + 1, pa, pc, a9, c9, po, lo ++ [nm], by go_num, rfl, by simp, by omega, HS0.out.symm, HS1.out.symm, hp9, hown9, (hbW.alloc hbWs _).trans hB9⟩, by simp [intOf]; omega⟩
    · obtain rfl : k = l1.length := by omega
      have hkn' : ¬ ((l1.length : Int) < (l1.length : Int)) := by omega
      have hpo := HPO.out
      have hlo := HLO.out
      rw [List.take_length] at hpo hlo
      have cs := implSortTwoP HOP.out hbs (by omega)
      have ct := fun W (hW : OwnTxts w.heap.size W (.slice la lo.length lc) lo) => implSortS hW.toS (by omega)
      have HPO2 : Hid (po = l1.filterMap (pickOf l0)) := hpo
      have HLO2 : Hid (lo = l1.filterMap (lostOf l0)) := hlo
      clear hpo hlo
      go_wp2_with (first
        | (go_at_call 48; go_must (refine cs.mono ?_; rintro e w2 ⟨rfl, ⟨lp, hso, hop2⟩, ⟨w1, hb1, hgr⟩, hb2⟩; have hol2 := OwnTxts.kept (OwnTxts.below HOL.out hb1) hgr (rows_apart (OwnTxts.below HOL.out hb1) (OwnPks.below HOP.out hb1) (by decide)); have cs2 := ct w2 hol2))
        | (go_at_call 51; go_must (refine cs2.mono ?_; rintro e w3 ⟨rfl, ll, hso3, hol3, hgr3⟩)))
      have hop3 := OwnPks.kept hop2 hgr3 (rows_apart hop2 hol2 (by decide))
      have e0 := HE0.out (HPO2.out ▸ hso.perm) hso.rises
      have e1 := HE1.out (HLO2.out ▸ hso3.perm) hso3.rises
      have hb3 : Below w.heap.size w w3 := (hb.trans hb2).grown hgr3 (hb.trans hb2).size (OwnTxts.block hol2)
      go_ret2
      exact ⟨⟨_, _, rfl, e0 ▸ hop3, e1 ▸ hol3.toT⟩, hb3⟩

theorem offers_len {nameB : ByteArray → Bool} {l : List Off} (h : offersB nameB l = true) : l.length ≤ 40 := by
  unfold offersB at h
  split at h
  · cases h
  · omega
theorem neg_names (offs : List Off) (asks : List Imp) : (∀ x ∈ negP offs asks, ∃ a ∈ asks, x.name = a.name) ∧ ∀ x ∈ negL offs asks, ∃ a ∈ asks, x = a.name := by
  unfold negP negL
  constructor
  · intro x hx
    obtain ⟨n, _, hx⟩ := List.mem_flatMap.1 hx
    obtain ⟨a, ha, _, hx⟩ := mem_picksAt.1 hx
    exact ⟨a, ha, pickOf_name hx⟩
  · intro x hx
    obtain ⟨n, _, hx⟩ := List.mem_flatMap.1 hx
    obtain ⟨a, ha, _, hx⟩ := mem_lostAt.1 hx
    exact ⟨a, ha, lostOf_name hx⟩
set_option maxRecDepth 100000 in
set_option maxHeartbeats 8000000 in
theorem implNegotiate : NegotiateC 9 (Lib.Utf8Tabs 0 1) negC0 negC1 negC := by
  intro S l0 l1 v0 v1 w hS h0 hl0 hok0 h1 hl1 hok1 hT
  have hTw := hT w (Below.refl _ _)
  obtain ⟨a0, cap0, hv0⟩ := h0.shape
  obtain ⟨a1, cap1, hv1⟩ := h1.shape
  have m0 : (l0.length : Int) ≤ 1048576 := by omega
  have m1 : (l1.length : Int) ≤ 1048576 := by omega
  have hz0 : ∀ x ∈ l0, x.right.size ≤ 1048576 := fun x hx => by have := hok0 x hx; unfold OffsOK at this; omega
  have hz1 : ∀ x ∈ l1, x.name.size ≤ 1048576 := fun x hx => by have := hok1 x hx; unfold ImpsOK at this; omega
  have hA1 : Below w.heap.size w (w.alloc (.cells #[.int .i64 (l0.length : Int), .int .i64 (l1.length : Int)] 3)) := (Below.refl _ w).alloc (Nat.le_refl _) _
  have cl := implLong2 (l0.length : Int) (l1.length : Int) w.heap.size (w.alloc (.cells #[.int .i64 (l0.length : Int), .int .i64 (l1.length : Int)] 3)) (two_newI w _ _ _ rfl).1 (two_newI w _ _ _ rfl).2
  unfold negC0 negC1
  by_cases b0 : 4096 < l0.length ∨ 4096 < l1.length
  · have hc : negC l0 l1 = 2 := by unfold negC; rw [if_pos b0]
    have hd : (decide ((4096 : Int) < (l0.length : Int)) || decide ((4096 : Int) < (l1.length : Int))) = true := by simp; omega
    rw [hd] at cl
    rw [hc]
    rw [if_neg (by decide), if_neg (by decide)]
    subst hv0 hv1
    clear h0 h1 hS hc hok0 hok1 hz0 hz1 hd
    go_enter Tryz.func9, Tryz.ntmps9
    go_wp2_with (go_at_call 28; go_must (refine cl.mono ?_; rintro e w2 ⟨rfl, rfl⟩))
    go_ret3
    exact ⟨⟨_, _, rfl, OwnPks.nil _ _, OwnTxts.nil _ _⟩, hA1⟩
  have hcd : negC l0 l1 = if offersB nameOK l0 && wishesB nameOK l1 then 0 else 1 := by unfold negC; rw [if_neg b0]
  have hd : (decide ((4096 : Int) < (l0.length : Int)) || decide ((4096 : Int) < (l1.length : Int))) = false := by simp; omega
  rw [hd] at cl
  have c0 := fun W (hW : Below w.heap.size w W) => implOffers (w := W) (fun b hb => Nat.lt_of_lt_of_le (hS b hb) hW.size) (h0.keep (cells_below hS hW)) hz0 (Utf8Tabs_below hTw hW)
  have c1 := fun W (hW : Below w.heap.size w W) => implWishes (w := W) (fun b hb => Nat.lt_of_lt_of_le (hS b hb) hW.size) (h1.keep (cells_below hS hW)) hz1 (Utf8Tabs_below hTw hW)
  cases hA : offersB nameOK l0
  · rw [hA] at c0
    have hc : negC l0 l1 = 1 := by rw [hcd, hA]; rfl
    rw [hc]
    rw [if_neg (by decide), if_neg (by decide)]
    subst hv0 hv1
    clear h0 h1 hS hA hc hcd c1 hok0 hok1 hz0 hz1 hd
    go_enter Tryz.func9, Tryz.ntmps9
    go_wp2_with (first
      | (go_at_call 28; go_must (refine cl.mono ?_; rintro e w2 ⟨rfl, rfl⟩))
      | (go_at_call 29; go_must (refine (c0 _ hA1).mono ?_; rintro e w3 ⟨rfl, hb3⟩)))
    go_ret3
    exact ⟨⟨_, _, rfl, OwnPks.nil _ _, OwnTxts.nil _ _⟩, good_below hA1 hb3⟩
  rw [hA] at c0
  cases hB : wishesB nameOK l1
  · rw [hB] at c1
    have hc : negC l0 l1 = 1 := by rw [hcd, hA, hB]; rfl
    rw [hc]
    rw [if_neg (by decide), if_neg (by decide)]
    subst hv0 hv1
    clear h0 h1 hS hA hB hc hcd hok0 hok1 hz0 hz1 hd
    go_enter Tryz.func9, Tryz.ntmps9
    go_wp2_with (first
      | (go_at_call 28; go_must (refine cl.mono ?_; rintro e w2 ⟨rfl, rfl⟩))
      | (go_at_call 29; go_must (refine (c0 _ hA1).mono ?_; rintro e w3 ⟨rfl, hb3⟩))
      | (go_at_call 30; go_must (refine (c1 _ (good_below hA1 hb3)).mono ?_; rintro e w4 ⟨rfl, hb4⟩)))
    go_ret3
    exact ⟨⟨_, _, rfl, OwnPks.nil _ _, OwnTxts.nil _ _⟩, good_below (good_below hA1 hb3) hb4⟩
  rw [hB] at c1
  have hc : negC l0 l1 = 0 := by rw [hcd, hA, hB]; rfl
  rw [hc]
  rw [if_pos rfl, if_pos rfl]
  have hl20 := wishes_len hB
  have hnd := wishes_nodup hB
  have cn := fun W (hW : Below w.heap.size w W) => implNegotiates (w := W) (fun b hb => Nat.lt_of_lt_of_le (hS b hb) hW.size) (h0.keep (cells_below hS hW)) (h1.keep (cells_below hS hW)) (by have := offers_len hA; omega) hl20 hnd
  have hpz : ∀ x ∈ negP l0 l1, x.name.size ≤ 1048576 := fun x hx => by
    obtain ⟨a, ha, e⟩ := (neg_names l0 l1).1 x hx
    rw [e]; exact hz1 a ha
  have hlz : ∀ x ∈ negL l0 l1, x.size ≤ 1048576 := fun x hx => by
    obtain ⟨a, ha, e⟩ := (neg_names l0 l1).2 x hx
    rw [e]; exact hz1 a ha
  have hp4 : (negP l0 l1).length ≤ 100000 := by
    have h1 := flat_bound (picksAt l0 l1) 20 (sortB (l1.map Imp.name)) (fun x _ => by
      have := List.length_filterMap_le (fun a : Imp => if a.name = x then pickOf l0 a else none) l1
      unfold picksAt; omega)
    have h2 := sortB_len (l1.map Imp.name)
    rw [List.length_map] at h2
    unfold negP
    omega
  have hl4 : (negL l0 l1).length ≤ 100000 := by
    have h1 := flat_bound (lostAt l0 l1) 20 (sortB (l1.map Imp.name)) (fun x _ => by
      have := List.length_filterMap_le (fun a : Imp => if a.name = x then lostOf l0 a else none) l1
      unfold lostAt; omega)
    have h2 := sortB_len (l1.map Imp.name)
    rw [List.length_map] at h2
    unfold negL
    omega
  obtain ⟨P0, hP0⟩ : ∃ P, negP l0 l1 = P := ⟨_, rfl⟩
  obtain ⟨P1, hP1⟩ : ∃ P, negL l0 l1 = P := ⟨_, rfl⟩
  rw [hP0] at hpz hp4 cn ⊢
  rw [hP1] at hlz hl4 cn ⊢
  have HPZ : Hid (∀ x ∈ P0, x.name.size ≤ 1048576) := hpz
  have HLZ : Hid (∀ x ∈ P1, x.size ≤ 1048576) := hlz
  subst hv0 hv1
  clear h0 h1 hS hA hB hc hcd hok0 hok1 hz0 hz1 hd hP0 hP1 hnd hpz hlz
  go_enter Tryz.func9, Tryz.ntmps9
  go_wp2_with (first
    | (go_at_call 28; go_must (refine cl.mono ?_; rintro e w2 ⟨rfl, rfl⟩))
    | (go_at_call 29; go_must (refine (c0 _ hA1).mono ?_; rintro e w3 ⟨rfl, hb3⟩))
    | (go_at_call 30; go_must (refine (c1 _ (good_below hA1 hb3)).mono ?_; rintro e w4 ⟨rfl, hb4⟩; have hb4' := good_below (good_below hA1 hb3) hb4))
    | (go_at_call 31; go_must (refine (cn _ hb4').mono ?_; rintro e w5 ⟨⟨p0, p1, rfl, hop, hol⟩, hb5⟩; have hb5' := good_below hb4' hb5; have hb5s := hb5'.size; obtain ⟨q0, r0, hq0, -⟩ := hop.value; subst hq0; obtain ⟨q1, r1, hq1, -⟩ := hol.value; subst hq1; have cp := implOwnPicks hop hp4 HPZ.out))
    | (go_at_call 32; go_must (refine cp.mono ?_; rintro e w6 ⟨⟨p2, rfl, hop6⟩, hb6⟩; have cq := implOwnTexts (OwnTxts.below hol hb6).toS hl4 HLZ.out))
    | (go_at_call 33; go_must (refine cq.mono ?_; rintro e w7 ⟨⟨p3, rfl, hol7⟩, hb7⟩)))
  have hb6' := good_below hb5' hb6
  go_ret3
  exact ⟨⟨_, _, rfl, OwnPks.mono (OwnPks.below hop6 hb7) hb5s, OwnTxts.mono hol7.toT hb6'.size⟩, good_below hb6' hb7⟩
end Go.Proofs.YtkghlnhmmfjclaaGreatDoor
