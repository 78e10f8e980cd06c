/-
  What impl's lay does to a map of settings: its walk. No statement of the seat is proved here.
-/
import Derived.Test.YtnlakebhkfbpfaaGreatDoorI6
namespace Go.Proofs.YtnlakebhkfbpfaaGreatDoor
open Go.ChangeShapes Go.WideShapes Go.ChangeAt Go.RowKit Go.Maps
set_option linter.unusedVariables false

theorem below_grown {w w' : World} (h : Below w.heap.size w w') : w.grownBy w' none := ⟨h.1, h.2, h.3, h.4, fun i hi _ => h.5 i hi⟩
theorem leftF_in {f : ByteArray → Option Setting} {out : List Setting} {e : Entry} {left : Lit → Bool} {x : ByteArray} {c : Setting} (h : IsOf f out) (hx : leftF f e left x = some c) : c ∈ out ∧ c.path = x := by
  unfold leftF at hx
  cases hf : f x with
  | none => rw [hf] at hx; cases hx
  | some s =>
    rw [hf] at hx
    simp only at hx
    split at hx
    · cases hx; exact (h x c).1 hf
    · cases hx
set_option maxRecDepth 100000 in
set_option maxHeartbeats 4000000 in
theorem implLay {w : World} {b n : Nat} {out : List Setting} (h : MapS w b n out) (hr : SRises out) (hsz : ∀ o ∈ out, o.path.size ≤ 1048576) (yp yt nm : ByteArray) (hyp : yp.size ≤ 1048576) (hn : n < 1000000) :
    Calls Tryz.prog 38 #[.map (some b), .agg #[.string yp, .string yt, .string nm]] w fun e w' => e = .returned (.tuple #[]) ∧ MapS w' b (n + 1) (layStep nm out ⟨yp, yt⟩) ∧ w.grownBy w' (some b) := by
  have hlt := h.lt
  obtain ⟨D0, f, hown, hrep, hof⟩ := h
  obtain ⟨w0, hw0⟩ : ∃ w0, w.alloc (.cells #[.string yp, .string yt, .string nm] 50) = w0 := ⟨_, rfl⟩
  have hg00 : w.grownBy w0 none := by rw [← hw0]; exact World.grownBy_alloc w _ none
  have hs00 : w0.heap.size = w.heap.size + 1 := by rw [← hw0]; simp
  have hbk : Blk w0 w.heap.size 50 #[.string yp, .string yt, .string nm] := by rw [← hw0]; exact heap_alloc_last w _
  have hown0 : w0.ownsMap Tryz.prog 9 heldS b n D0 := hown.kept hg00 (by simp)
  have HBK : Hid (Blk w0 w.heap.size 50 #[.string yp, .string yt, .string nm]) := hbk
  have HOF : Hid (IsOf f out) := hof
  have HSZ : Hid (∀ o ∈ out, o.path.size ≤ 1048576) := hsz
  have HST : Hid (Rep D0 (leftF f ⟨yp, yt⟩ (has D0))) := leftF_start hrep _
  have HR : Hid (SRises out) := hr
  have HG00 : Hid (w.grownBy w0 none) := hg00
  obtain ⟨gs, hgs⟩ : ∃ gs, w.heap.size = gs := ⟨_, rfl⟩
  rw [hgs] at HBK hs00
  have HS0 : Hid (w0.heap.size = gs + 1) := hs00
  clear hbk hof hsz hrep hr hg00 hown hs00
  go_enter Tryz.func38, Tryz.ntmps38
  go_upto_region 1 with fail
  go_wp2_with (first
    | (at_range; refine wpList_range_own _ rfl _ 52 rfl 9 50 law9 Tryz.underlying52 _ b n _ rfl hown0 ?_; intro w1 hrg0 hg0 hs0)
    | go_in)
  go_frame
  go_loopw [4] (fun _ wr => ∃ (left : Lit → Bool) (cnt : Nat) (D : DataW Value), wr.ranges Tryz.prog 9 heldS b w0.heap.size n D left cnt ∧ Rep D (leftF f ⟨yp, yt⟩ left) ∧ w0.grownBy wr (some b)) (fun _ wr => wr.rangeLeft b w0.heap.size)
  case atStart => exact ⟨_, _, _, hrg0, HST.out, hg0.but _⟩
  case round =>
    obtain ⟨left, cnt, D, hrg, hrp, hgw⟩ := hrel
    have hbkr : Blk wr gs 50 #[.string yp, .string yt, .string nm] := by
      have := hgw.block gs (by have := HS0.out; omega) (by simp; omega)
      unfold Blk
      rw [this]; exact HBK.out
    have HBR : Hid (Blk wr gs 50 #[.string yp, .string yt, .string nm]) := hbkr
    have HRP : Hid (Rep D (leftF f ⟨yp, yt⟩ left)) := hrp
    have HGW : Hid (w0.grownBy wr (some b)) := hgw
    clear hrp hgw hbkr hg0 hrg0
    go_wp2_with (first
      | (at_next; refine wpList_nextS _ rfl _ rfl b w0.heap.size n _ _ _ rfl hrg ?_ ?_)
      | go_in)
    · intro _ hl0
      have e0 := HBR.out.cell 0
      have e1 := HBR.out.cell 1
      have e2 := HBR.out.cell 2
      simp at e0 e1 e2
      have hownE := hrg.owns
      have hrpE := leftF_end HRP.out hl0
      cases ht : (yt.toList == [126])
      · have hkey : keyOf Tryz.prog 9 (.string yp) = some (textKey yp) := key9 (by simp [maxLen]; omega)
        go_wp2_with (first
          | (at_mapUpdate; go_must (refine wpList_mapUpdate_own _ rfl _ _ _ 52 rfl 9 50 law9 Tryz.underlying52 _ b n _ rfl hownE (by simp [maxLen]; omega) _ _ (textKey yp) rfl rfl hkey (.held (sVal ⟨yp, yt, nm⟩)) [] (heldS_mk ⟨yp, yt, nm⟩) ?_; intro w3 hown3 hg3)))
        go_end0
        refine ⟨rfl, ⟨_, _, hown3, hrpE.put hownE.isMap yp ⟨yp, yt, nm⟩, lay_put (e := ⟨yp, yt⟩) (nm := nm) HR.out HOF.out ht⟩, ?_⟩
        exact (HG00.out.but (some b)).andThen (HGW.out.andThen hg3 (fun j hj => .inr hj)) (fun j hj => .inr hj)
      · go_wp2_with fail
        go_end0
        refine ⟨rfl, ⟨_, _, hownE.mono (Nat.le_succ n), hrpE, lay_erase (e := ⟨yp, yt⟩) (nm := nm) HR.out HOF.out ht⟩, ?_⟩
        exact (HG00.out.but (some b)).andThen HGW.out (fun j hj => .inr hj)
    · intro x cp ct cf w2 cnt1 hlx hat hkey hrg1 hlt1 hg1 hs1 hen
      have hcx := HRP.out.some hat
      have hin := leftF_in HOF.out hcx
      have hcz := HSZ.out _ hin.1
      dsimp only at hcz
      have hgw1 := HGW.out.andThen hg1 (fun j hj => by cases hj; exact .inl (Nat.le_refl _))
      have hbk2 : Blk w2 gs 50 #[.string yp, .string yt, .string nm] := by
        have := hg1.block gs HBR.out.lt (by have := HS0.out; simp; omega)
        unfold Blk
        rw [this]; exact HBR.out
      have e0 : ∀ o, (w2.alloc o).cell? ⟨gs, 0, none⟩ = some (.string yp) := fun o => by
        have := (Blk.below hbk2 ((Below.refl _ w2).alloc (Nat.le_refl _) o)).cell 0
        simpa using this
      have cm := fun w => implMeets cp yp hcz hyp w
      have HAT : Hid (∀ z, D.atKey (textKey x) z = .held (sVal ⟨cp, ct, cf⟩)) := hat
      have HG1 : Hid (w0.grownBy w2 (some b)) := hgw1
      have HRG1 : Hid (w2.ranges Tryz.prog 9 heldS b w0.heap.size n D (fun z => left z && !z.sameKey (textKey x)) cnt1) := hrg1
      obtain ⟨H, hH⟩ : ∃ H, (withinB cp yp || withinB yp cp) = H := ⟨_, rfl⟩
      rw [hH] at cm
      have HH : Hid (hits ⟨cp, ct, cf⟩ ⟨yp, yt⟩ = H) := hH
      clear hat hgw1 hcx hin hH hbk2 hrg1 hs1
      cases H
      · go_wp2_with (first
          | (go_at_call 58; go_must (refine (cm _).mono ?_; rintro e w3 ⟨rfl, hb3⟩; have hg3 := below_grown (Below.trans ((Below.refl _ w2).alloc (Nat.le_refl _) _) (hb3.mono (by simp))))))
        have hrg3 := HRG1.out.kept hg3 (by simp) (by simp)
        refine ⟨⟨_, cnt1, D, hrg3, leftF_stay HRP.out HAT.out HH.out, HG1.out.andThen hg3 (fun j hj => by cases hj)⟩, ?_⟩
        rw [hrg3.left_eq, hrg.left_eq]; exact hlt1
      · go_wp2_with (first
          | (go_at_call 58; go_must (refine (cm _).mono ?_; rintro e w3 ⟨rfl, hb3⟩; have hg3 := below_grown (Below.trans ((Below.refl _ w2).alloc (Nat.le_refl _) _) (hb3.mono (by simp))); have hrg3 := HRG1.out.kept hg3 (by simp) (by simp)))
          | (at_delete; go_must (refine wpList_delete_ranges _ rfl _ _ 52 9 rfl 50 law9 Tryz.underlying52 _ b w0.heap.size n _ _ _ rfl hrg3 _ _ rfl hkey ?_; intro w4 cnt2 hrg4 hle hturn; go_frame)))
        rw [strike_twice] at hrg4
        go_roundw
        case rel => exact ⟨_, cnt2, _, hrg4, leftF_hit HRP.out HAT.out HH.out, (HG1.out.andThen hg3 (fun j hj => by cases hj)).andThen hturn.grown (fun j hj => .inr hj)⟩
        case measure => rw [hrg4.left_eq, hrg.left_eq]; omega
end Go.Proofs.YtnlakebhkfbpfaaGreatDoor
