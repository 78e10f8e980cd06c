/-
  The law on Merge: its walk, over what both Merge answer. No statement of the seat is proved here.
-/
import Derived.Test.YtmjlhajbecfonaaGreatDoorG5
import Derived.Deep.Cut
namespace Go.Proofs.YtmjlhajbecfonaaGreatDoor
open Go.ChangeShapes Go.WideShapes Go.ChangeAt Go.RowKit
set_option linter.unusedVariables false

/-- What a Merge answers, whatever it is. -/
def MergeC (f : Nat) (T : World → Prop) (C : List Layer → List Setting × Int) : Prop := ∀ (S : Nat → Prop) (l : List Layer) (v : Value) (w : World), (∀ b, S b → b < w.heap.size) → LayersAt S w v l →
  l.length ≤ 1048576 → (∀ x ∈ l, LayersOK 1048576 x) → (∀ W, Below w.heap.size w W → T W) →
  Calls Tryz.prog f #[v] w fun e w' => (∃ p, e = .returned (.tuple #[p, .int .i64 (C l).2]) ∧ OwnSettings w.heap.size w' p (C l).1) ∧ Below w.heap.size w w'

set_option maxRecDepth 100000 in
set_option maxHeartbeats 4000000 in
theorem mergeWalk {T : World → Prop} {C : List Layer → List Setting × Int} (hSp : MergeC 5 T C) (hIm : MergeC 7 T C) (hlen : ∀ l, (C l).1.length ≤ 1000000)
    (w : World) (v : Value) (l : List Layer) (h : LayersAt (fun b => b < w.heap.size) w v l) (hf : ∀ y ∈ l, LayersFit y) (hT : ∀ W, Below w.heap.size w W → T W) :
    Calls Tryz.prog 3 #[v] w fun e w' => e = .returned (.bool true) ∧ Below w.heap.size w w' := by
  have c4 := szLayerS (fun b hb => hb) h hf 1048576 (by omega) (by omega)
  have HR : Hid (LayersAt (fun b => b < w.heap.size) w v l) := h
  have HT : Hid (∀ W, Below w.heap.size w W → T W) := hT
  have hP := hlen l
  have cs := fun S v w => hSp S l v w
  have ci := fun S v w => hIm S l v w
  obtain ⟨P, hPe⟩ : ∃ P, (C l).1 = P := ⟨_, rfl⟩
  obtain ⟨c, hc⟩ : ∃ c, (C l).2 = c := ⟨_, rfl⟩
  rw [hPe] at hP
  rw [hPe, hc] at cs ci
  clear hPe hc hSp hIm hlen
  obtain ⟨a, cap, hv⟩ := h.shape
  subst hv
  clear h hT hf
  have ct : ∀ W, Below w.heap.size w W → (l.length : Int) ≤ 1048576 → (∀ x ∈ l, LayersOK 1048576 x) → Calls Tryz.prog 6 #[.slice a l.length cap] W fun e w' => (∃ v', e = .returned v' ∧ RowLayers W.heap.size w'.heap.size w' v' l ∧ W.heap.size < w'.heap.size) ∧ Below W.heap.size W w' := fun W hW h1 h2 =>
    toLayerS (S := fun b => b < w.heap.size) (fun b hb => Nat.lt_of_lt_of_le hb hW.size) (HR.out.keep (cells_below (fun b hb => hb) hW)) (by omega) (fun x hx => by have := (h2 x hx).2.1; omega)
  go_enter Tryz.func3, Tryz.ntmps3
  go_upto_region 2 with fail
  go_cut [3] from 14 (fun s3 wx => ∃ r : Int, s3 = .int .i64 r ∧ (r = -1 ∨ (0 ≤ r ∧ r ≤ 1048576 ∧ (l.length : Int) ≤ 1048576 ∧ ∀ x ∈ l, LayersOK 1048576 x)) ∧ Below w.heap.size w wx)
  case first =>
    go_wp2_with (go_at_call 4; go_must (refine c4.mono ?_; rintro e w1 ⟨⟨r, rfl, hr⟩, hb1⟩))
    go_meet
    exact ⟨r, rfl, hr, hb1⟩
  case rest =>
    obtain ⟨r, rfl, hr, hb2⟩ := hcut
    rcases hr with rfl | ⟨hr0, hr1, hll, hok⟩
    · go_wp2_with fail
      go_ret
      exact ⟨rfl, hb2⟩
    · have hr2 : ¬ (r < 0) := by omega
      have HOK : Hid (∀ x ∈ l, LayersOK 1048576 x) := hok
      clear hok c4
      obtain ⟨wb, hwb⟩ : ∃ wb, wb = wc := ⟨_, rfl⟩
      subst hwb
      have cs' := fun S v W (hW : Below w.heap.size w W) h1 h2 => cs S v W h1 h2 (by omega) HOK.out (fun W' hW' => HT.out W' (good_below hW hW'))
      have ci' := fun S v W (hW : Below w.heap.size w W) h1 h2 => ci S v W h1 h2 (by omega) HOK.out (fun W' hW' => HT.out W' (good_below hW hW'))
      clear cs ci
      go_upto_region 5 with fail
      go_cut [4, 5] from 14 (fun s4 s5 wx => s5 = .int .i64 c ∧ (∃ B1, OwnSettings B1 wx s4 P) ∧ Below w.heap.size w wx)
      case first =>
        go_wp2_with (first
          | (go_at_call 6; go_must (refine (ct _ hb2 hll HOK.out).mono ?_; rintro e w3 ⟨⟨y0, rfl, hr3, lt3⟩, b3⟩; have hb3 := good_below hb2 b3))
          | (go_at_call 5; go_must (refine (cs' _ _ _ hb3 (fun b hb => hb.2) (hr3.at lt3)).mono ?_; rintro e w5 ⟨⟨p, rfl, ho5⟩, b5⟩; have hb5 := good_below hb3 b5)))
        go_meet
        exact ⟨rfl, ⟨_, ho5⟩, hb5⟩
      case rest =>
        obtain ⟨rfl, ⟨B1, ho0⟩, hb5⟩ := hcut
        clear hr0 hr2 hb2 cs'
        obtain ⟨w5, hw5⟩ : ∃ w5, w5 = wc := ⟨_, rfl⟩
        subst hw5
        have hms : ∀ m ∈ l.map (fun x => x.entries.length), m ≤ 1048576 := fun m hm => by
          obtain ⟨x, hx, rfl⟩ := List.mem_map.1 hm
          have := (HOK.out x hx).2.1
          omega
        have HMS : Hid (∀ m ∈ l.map (fun x => x.entries.length), m ≤ 1048576) := hms
        clear hms
        have hneg2 : ¬ ((1 : Int) + 3 * (P.length : Int) < 0) := by omega
        go_upto_region 24 with (first
          | (go_at_call 6; have hchk := k9; refine (ct _ (good_below hb5 k9) hll HOK.out).mono ?_; rintro e w11 ⟨⟨y0, rfl, hr11, lt11⟩, b11⟩; have n11 := good_below b9 b11; have j11 := good_below b8 n11; have x11 := hr6.keep (fun b _ hb => j11.block b hb) lt6)
          | (go_at_call 6; go_must (refine (ct _ hb5 hll HOK.out).mono ?_; rintro e w6 ⟨⟨x0, rfl, hr6, lt6⟩, b6⟩; have h56 : Hid (w5.heap.size ≤ w6.heap.size) := b6.size))
          | (go_at_call 7; go_must (refine (ci' _ _ _ (good_below hb5 b6) (fun b hb => hb.2) (hr6.at lt6)).mono ?_; rintro e w8 ⟨⟨p1, rfl, ho8⟩, b8⟩; have k8 := good_below b6 b8))
          | (go_at_call 8; have hchk := k16; refine (eqSettingS (fun b hb => hb.2) (fun b hb => hb.2) ho16.at (ho0.below k16).at).mono ?_; rintro e w17 ⟨rfl, b17⟩; have k17 := good_below k16 b17)
          | (go_at_call 8; go_must (refine (eqSettingS (fun b hb => hb.2) (fun b hb => hb.2) ho8.at (ho0.below k8).at).mono ?_; rintro e w9 ⟨rfl, b9⟩; have k9 := good_below k8 b9))
          | (go_at_call 9; go_must (refine (eqLayerS (fun b hb => Nat.lt_of_lt_of_le hb.2 j11.size) (fun b hb => hb.2) (x11.at lt6) (hr11.at lt11)).mono ?_; rintro e w12 ⟨rfl, b12⟩; have n12 := good_below n11 b12; have k12 := good_below k8 n12; have j12 := good_below b8 n12; have x12 := hr6.keep (fun b _ hb => j12.block b hb) lt6))
          | (go_at_call 10; go_must (refine (markLayerS 1 (by omega) (by omega) (by simpa using (by omega : l.length ≤ 1048576)) HMS.out lt6 j12.size x12.sh).mono ?_; rintro e w16 ⟨⟨r15, rfl, hr15, hs15⟩, o16⟩; have k16 := k12.trans (o16.below (fun b hb => hb.1) k12.size); have ho16 := (ho8.below n12).out o16 (fun b hb => hb.2); have hneg : ¬ ((r15 : Int) < 0) := by omega))
          | (go_at_call 11; go_must (refine (markOwnSettings 1 (by omega) (by omega) (by omega) (ho16.below b17)).mono ?_; rintro e w19 ⟨rfl, o19, hm19⟩; have k19 := k17.trans (o19.below (fun b hb => Nat.le_trans h56.out (ho16.blk hb)) k17.size)))
          | (go_at_call 12; go_must (refine (heldSettingS (by omega) (by omega) (by omega) hm19).mono ?_; rintro e w21 ⟨rfl, b21⟩; have k21 := good_below k19 b21)))
        have hm22 := hm19.below b21
        have hb22 := good_below hb5 k21
        have ho22 := ho0.below k21
        clear hr6 ho8 hr11 x11 x12 o16 ho16 o19 hm19 ho0 h56 b8 b9 b11 b12 b17 b21 n11 n12 j11 j12 k8 k9 k12 k16 k17 k19 k21 hchk
        obtain ⟨w22, hw22⟩ : ∃ w22, w22 = w21 := ⟨_, rfl⟩
        subst hw22
        go_cut [12, 13] from 14 (fun s12 s13 wx => s13 = .int .i64 c ∧ (∃ B2, OwnSettings B2 wx s12 P) ∧ Below w22.heap.size w22 wx)
        case first =>
          go_wp2_with (first
            | (go_at_call 6; go_must (refine (ct _ hb22 hll HOK.out).mono ?_; rintro e w23 ⟨⟨z0, rfl, hr23, lt23⟩, b23⟩; have hb23 := good_below hb22 b23))
            | (go_at_call 7; go_must (refine (ci' _ _ _ hb23 (fun b hb => hb.2) (hr23.at lt23)).mono ?_; rintro e w25 ⟨⟨p2, rfl, ho25⟩, b25⟩)))
          go_meet
          exact ⟨rfl, ⟨_, ho25⟩, good_below b23 b25⟩
        case rest =>
          obtain ⟨rfl, ⟨B2, ho25⟩, b25⟩ := hcut
          go_wp2_with (first
            | (go_at_call 8; go_must (refine (eqSettingS (fun b hb => hb.2) (fun b hb => hb.2) ho25.at (ho22.below b25).at).mono ?_; rintro e w26 ⟨rfl, b26⟩; have b26' := good_below b25 b26))
            | (go_at_call 12; go_must (refine (heldSettingS (by omega) (by omega) (by omega) (hm22.below b26')).mono ?_; rintro e w28 ⟨rfl, b28⟩)))
          go_ret
          exact ⟨rfl, good_below hb22 (good_below b26' b28)⟩
end Go.Proofs.YtmjlhajbecfonaaGreatDoor
