/-
  The law on Negotiate: its walk, over what both Negotiate answer. No statement of the seat is proved here.
-/
import Derived.Test.YtkghlnhmmfjclaaGreatDoorG5
import Derived.Deep.Cut
namespace Go.Proofs.YtkghlnhmmfjclaaGreatDoor
open Go.ChangeShapes Go.WideShapes Go.ChangeAt Go.RowKit
set_option linter.unusedVariables false
set_option linter.unusedSimpArgs false

/-- A copy, in a block between L and U. -/
def CpOffs (L U : Nat) (w : World) (v : Value) (l : List Off) : Prop := ∃ g, L ≤ g ∧ g < U ∧ RowOffs w g v l
theorem CpOffs.keepU {L U : Nat} {w w' : World} {v : Value} {l : List Off} (h : CpOffs L U w v l) (hk : ∀ b, L ≤ b → b < U → w'.heap[b]? = w.heap[b]?) : CpOffs L U w' v l := by
  obtain ⟨g, h1, h2, h3⟩ := h
  exact ⟨g, h1, h2, h3.keep (hk g h1 h2)⟩
theorem CpOffs.at {L U : Nat} {w : World} {v : Value} {l : List Off} (h : CpOffs L U w v l) : OffsAt (fun b => L ≤ b ∧ b < U) w v l := by
  obtain ⟨g, h1, h2, h3⟩ := h
  exact h3.at ⟨h1, h2⟩
theorem cpToOffs {S : Nat → Prop} {l : List Off} {v : Value} {w : World} (hS : ∀ b, S b → b < w.heap.size) (h : OffsAt S w v l) (hl : l.length ≤ 1048576) (hok : ∀ x ∈ l, OffsOK 1048576 x) :
    Calls Tryz.prog 7 #[v] w fun e w' => (∃ v', e = .returned v' ∧ CpOffs w.heap.size w'.heap.size w' v' l) ∧ Below w.heap.size w w' :=
  (toOfferS hS h hl).mono fun e w' ⟨⟨v', he, hr⟩, hb⟩ => ⟨⟨v', he, w.heap.size, Nat.le_refl _, hr.lt, hr⟩, hb⟩
theorem cpMarkOffs {L U : Nat} {l : List Off} {v : Value} {w : World} (s : Nat) (hs0 : 0 < s) (hs1 : s ≤ 10000000000000) (hl : l.length ≤ 1048576) (hok : ∀ x ∈ l, OffsOK 1048576 x) (hUw : U ≤ w.heap.size) (h : CpOffs L U w v l) :
    Calls Tryz.prog 14 #[v, .int .i64 s] w fun e w' => (∃ r : Nat, e = .returned (.int .i64 (r : Int)) ∧ 0 < r ∧ r ≤ s + 2300000000000) ∧ OutS (fun b => L ≤ b ∧ b < U) w w' := by
  obtain ⟨g, h1, h2, h3⟩ := h
  refine (markShOffs s hs0 (by omega) hl h3.sh).mono ?_
  rintro e w' ⟨he, ho, _⟩
  exact ⟨⟨_, he, by omega, by omega⟩, ho.mono (fun b hb => by subst hb; exact ⟨h1, h2⟩)⟩
theorem CpOffs.below {B L U : Nat} {w w' : World} {v : Value} {l : List Off} (h : CpOffs L U w v l) (hb : Below B w w') (hU : U ≤ B) : CpOffs L U w' v l := h.keepU (fun b _ hb2 => hb.block b (Nat.lt_of_lt_of_le hb2 hU))
theorem CpOffs.outS {S : Nat → Prop} {L U : Nat} {w w' : World} {v : Value} {l : List Off} (h : CpOffs L U w v l) (ho : OutS S w w') (hS : ∀ b, S b → b < L ∨ U ≤ b) (hU : U ≤ w.heap.size) : CpOffs L U w' v l := h.keepU (fun b h1 h2 => ho.block b (Nat.lt_of_lt_of_le h2 hU) (fun hs => by have := hS b hs; omega))
/-- A copy, in a block between L and U. -/
def CpImps (L U : Nat) (w : World) (v : Value) (l : List Imp) : Prop := ∃ g, L ≤ g ∧ g < U ∧ RowImps w g v l
theorem CpImps.keepU {L U : Nat} {w w' : World} {v : Value} {l : List Imp} (h : CpImps L U w v l) (hk : ∀ b, L ≤ b → b < U → w'.heap[b]? = w.heap[b]?) : CpImps L U w' v l := by
  obtain ⟨g, h1, h2, h3⟩ := h
  exact ⟨g, h1, h2, h3.keep (hk g h1 h2)⟩
theorem CpImps.at {L U : Nat} {w : World} {v : Value} {l : List Imp} (h : CpImps L U w v l) : ImpsAt (fun b => L ≤ b ∧ b < U) w v l := by
  obtain ⟨g, h1, h2, h3⟩ := h
  exact h3.at ⟨h1, h2⟩
theorem cpToImps {S : Nat → Prop} {l : List Imp} {v : Value} {w : World} (hS : ∀ b, S b → b < w.heap.size) (h : ImpsAt S w v l) (hl : l.length ≤ 1048576) (hok : ∀ x ∈ l, ImpsOK 1048576 x) :
    Calls Tryz.prog 8 #[v] w fun e w' => (∃ v', e = .returned v' ∧ CpImps w.heap.size w'.heap.size w' v' l) ∧ Below w.heap.size w w' :=
  (toImportS hS h hl).mono fun e w' ⟨⟨v', he, hr⟩, hb⟩ => ⟨⟨v', he, w.heap.size, Nat.le_refl _, hr.lt, hr⟩, hb⟩
theorem cpMarkImps {L U : Nat} {l : List Imp} {v : Value} {w : World} (s : Nat) (hs0 : 0 < s) (hs1 : s ≤ 10000000000000) (hl : l.length ≤ 1048576) (hok : ∀ x ∈ l, ImpsOK 1048576 x) (hUw : U ≤ w.heap.size) (h : CpImps L U w v l) :
    Calls Tryz.prog 15 #[v, .int .i64 s] w fun e w' => (∃ r : Nat, e = .returned (.int .i64 (r : Int)) ∧ 0 < r ∧ r ≤ s + 2300000000000) ∧ OutS (fun b => L ≤ b ∧ b < U) w w' := by
  obtain ⟨g, h1, h2, h3⟩ := h
  refine (markShImps s hs0 (by omega) hl h3.sh).mono ?_
  rintro e w' ⟨he, ho, _⟩
  exact ⟨⟨_, he, by omega, by omega⟩, ho.mono (fun b hb => by subst hb; exact ⟨h1, h2⟩)⟩
theorem CpImps.below {B L U : Nat} {w w' : World} {v : Value} {l : List Imp} (h : CpImps L U w v l) (hb : Below B w w') (hU : U ≤ B) : CpImps L U w' v l := h.keepU (fun b _ hb2 => hb.block b (Nat.lt_of_lt_of_le hb2 hU))
theorem CpImps.outS {S : Nat → Prop} {L U : Nat} {w w' : World} {v : Value} {l : List Imp} (h : CpImps L U w v l) (ho : OutS S w w') (hS : ∀ b, S b → b < L ∨ U ≤ b) (hU : U ≤ w.heap.size) : CpImps L U w' v l := h.keepU (fun b h1 h2 => ho.block b (Nat.lt_of_lt_of_le h2 hU) (fun hs => by have := hS b hs; omega))
/-- What a Negotiate answers, whatever it is. -/
def NegotiateC (f : Nat) (T : World → Prop) (C0 : (List Off) → (List Imp) → List Pk) (C1 : (List Off) → (List Imp) → List ByteArray) (C2 : (List Off) → (List Imp) → Int) : Prop := ∀ (S : Nat → Prop) (l0 : List Off) (l1 : List Imp) (v0 : Value) (v1 : Value) (w : World), (∀ b, S b → b < w.heap.size) → OffsAt S w v0 l0 → l0.length ≤ 1048576 → (∀ x ∈ l0, OffsOK 1048576 x) → ImpsAt S w v1 l1 → l1.length ≤ 1048576 → (∀ x ∈ l1, ImpsOK 1048576 x) → (∀ W, Below w.heap.size w W → T W) →
  Calls Tryz.prog f #[v0, v1] w fun e w' => (∃ p0 p1, e = .returned (.tuple #[p0, p1, .int .i64 (C2 l0 l1)]) ∧ OwnPks w.heap.size w' p0 (C0 l0 l1) ∧ OwnTxts w.heap.size w' p1 (C1 l0 l1)) ∧ Below w.heap.size w w'

set_option maxRecDepth 100000 in
set_option maxHeartbeats 16000000 in
theorem negotiateWalk {T : World → Prop} {C0 : (List Off) → (List Imp) → List Pk} {C1 : (List Off) → (List Imp) → List ByteArray} {C2 : (List Off) → (List Imp) → Int} (hSp : NegotiateC 6 T C0 C1 C2) (hIm : NegotiateC 9 T C0 C1 C2) (hlen0 : ∀ l0 l1, (C0 l0 l1).length ≤ 1000000) (hlen1 : ∀ l0 l1, (C1 l0 l1).length ≤ 1000000)
    (w : World) (v0 : Value) (v1 : Value) (l0 : List Off) (l1 : List Imp) (h0 : OffsAt (fun b => b < w.heap.size) w v0 l0) (hf0 : ∀ y ∈ l0, OffsFit y) (h1 : ImpsAt (fun b => b < w.heap.size) w v1 l1) (hf1 : ∀ y ∈ l1, ImpsFit y) (hT : ∀ W, Below w.heap.size w W → T W) :
    Calls Tryz.prog 3 #[v0, v1] w fun e w' => e = .returned (.bool true) ∧ Below w.heap.size w w' := by
  have HT : Hid (∀ W, Below w.heap.size w W → T W) := hT
  have HR0 : Hid (OffsAt (fun b => b < w.heap.size) w v0 l0) := h0
  have HF0 : Hid (∀ y ∈ l0, OffsFit y) := hf0
  obtain ⟨a0, cap0, hv0⟩ := h0.shape
  subst hv0
  have HR1 : Hid (ImpsAt (fun b => b < w.heap.size) w v1 l1) := h1
  have HF1 : Hid (∀ y ∈ l1, ImpsFit y) := hf1
  obtain ⟨a1, cap1, hv1⟩ := h1.shape
  subst hv1
  have hP0 := hlen0 l0 l1
  have hP1 := hlen1 l0 l1
  have cs := fun S v0 v1 w => hSp S l0 l1 v0 v1 w
  have ci := fun S v0 v1 w => hIm S l0 l1 v0 v1 w
  obtain ⟨P0, hPe0⟩ : ∃ P, C0 l0 l1 = P := ⟨_, rfl⟩
  rw [hPe0] at cs ci hP0
  clear hPe0
  obtain ⟨P1, hPe1⟩ : ∃ P, C1 l0 l1 = P := ⟨_, rfl⟩
  rw [hPe1] at cs ci hP1
  clear hPe1
  obtain ⟨P2, hPe2⟩ : ∃ P, C2 l0 l1 = P := ⟨_, rfl⟩
  rw [hPe2] at cs ci
  clear hPe2
  clear hSp hIm hT h0 hf0 h1 hf1 hlen0 hlen1
  have ct0 : l0.length ≤ 1048576 → (∀ x ∈ l0, OffsOK 1048576 x) → ∀ W, Below w.heap.size w W → Calls Tryz.prog 7 #[.slice a0 l0.length cap0] W fun e w' => (∃ v', e = .returned v' ∧ CpOffs W.heap.size w'.heap.size w' v' l0) ∧ Below W.heap.size W w' := fun h1 h2 W hW =>
    cpToOffs (S := fun b => b < w.heap.size) (fun b hb => Nat.lt_of_lt_of_le hb hW.size) (HR0.out.keep (cells_below (fun b hb => hb) hW)) h1 h2
  have ct1 : l1.length ≤ 1048576 → (∀ x ∈ l1, ImpsOK 1048576 x) → ∀ W, Below w.heap.size w W → Calls Tryz.prog 8 #[.slice a1 l1.length cap1] W fun e w' => (∃ v', e = .returned v' ∧ CpImps W.heap.size w'.heap.size w' v' l1) ∧ Below W.heap.size W w' := fun h1 h2 W hW =>
    cpToImps (S := fun b => b < w.heap.size) (fun b hb => Nat.lt_of_lt_of_le hb hW.size) (HR1.out.keep (cells_below (fun b hb => hb) hW)) h1 h2
  go_enter Tryz.func3, Tryz.ntmps3
  have hbq : Below w.heap.size w w := Below.refl _ w
  have hr1 : (1048576 : Int) ≤ 1048576 := by omega
  have hr0 : (0 : Int) ≤ 1048576 := by omega
  have cz0 := szOfferS (w := w) (fun b hb => Nat.lt_of_lt_of_le hb hbq.size) (HR0.out.keep (cells_below (fun b hb => hb) hbq)) HF0.out (1048576) hr0 hr1
  go_upto_region 2 with fail
  go_cut [5] from 20 (fun s3 wx => ∃ r : Int, s3 = .int .i64 r ∧ (r = -1 ∨ (0 ≤ r ∧ r ≤ 1048576 ∧ (l0.length : Int) ≤ 1048576 ∧ ∀ x ∈ l0, OffsOK (1048576) x)) ∧ Below w.heap.size w wx)
  case first =>
    go_wp2_with (go_at_call 4; go_must (refine cz0.mono ?_; rintro e w1 ⟨⟨r, rfl, hr⟩, hb1⟩))
    go_meet
    exact ⟨r, rfl, hr, good_below hbq hb1⟩
  case rest =>
    clear cz0
    obtain ⟨r0, rfl, hr, hbq0⟩ := hcut
    rcases hr with rfl | ⟨ha0, hc0, hll0, hok0⟩
    case inl =>
      go_wp2_with fail
      go_ret
      exact ⟨rfl, hbq0⟩
    have hok0' : ∀ x ∈ l0, OffsOK 1048576 x := fun x hx => (hok0 x hx).mono (by omega)
    have HOK0 : Hid (∀ x ∈ l0, OffsOK 1048576 x) := hok0'
    have hlc0 : l0.length ≤ 1048576 := by omega
    have hrn0 : ¬ (r0 < 0) := by omega
    clear hok0 hok0' hbq hr0 hr1
    obtain ⟨wq0, hwq0⟩ : ∃ wq, wq = wc := ⟨_, rfl⟩
    subst hwq0
    have hbq := hbq0
    have hr0 := ha0
    have hr1 : r0 ≤ 1048576 := by omega
    clear hbq0
    have cz1 := szImportS (w := wq0) (fun b hb => Nat.lt_of_lt_of_le hb hbq.size) (HR1.out.keep (cells_below (fun b hb => hb) hbq)) HF1.out (r0) hr0 hr1
    go_upto_region 5 with fail
    go_cut [5] from 20 (fun s3 wx => ∃ r : Int, s3 = .int .i64 r ∧ (r = -1 ∨ (0 ≤ r ∧ r ≤ r0 ∧ (l1.length : Int) ≤ r0 ∧ ∀ x ∈ l1, ImpsOK (r0) x)) ∧ Below w.heap.size w wx)
    case first =>
      go_wp2_with (go_at_call 5; go_must (refine cz1.mono ?_; rintro e w1 ⟨⟨r, rfl, hr⟩, hb1⟩))
      go_meet
      exact ⟨r, rfl, hr, good_below hbq hb1⟩
    case rest =>
      clear cz1
      obtain ⟨r1, rfl, hr, hbq1⟩ := hcut
      rcases hr with rfl | ⟨ha1, hc1, hll1, hok1⟩
      case inl =>
        go_wp2_with fail
        go_ret
        exact ⟨rfl, hbq1⟩
      have hok1' : ∀ x ∈ l1, ImpsOK 1048576 x := fun x hx => (hok1 x hx).mono (by omega)
      have HOK1 : Hid (∀ x ∈ l1, ImpsOK 1048576 x) := hok1'
      have hlc1 : l1.length ≤ 1048576 := by omega
      have hrn1 : ¬ (r1 < 0) := by omega
      clear hok1 hok1' hbq hr0 hr1
      obtain ⟨wq1, hwq1⟩ : ∃ wq, wq = wc := ⟨_, rfl⟩
      subst hwq1
      have hbq := hbq1
      have hr0 := ha1
      have hr1 : r1 ≤ 1048576 := by omega
      clear hbq1
      have cs' := fun S v0 v1 W (hW : Below w.heap.size w W) hS h0 h1 => cs S v0 v1 W hS h0 hlc0 HOK0.out h1 hlc1 HOK1.out (fun W' hW' => HT.out W' (good_below hW hW'))
      have ci' := fun S v0 v1 W (hW : Below w.heap.size w W) hS h0 h1 => ci S v0 v1 W hS h0 hlc0 HOK0.out h1 hlc1 HOK1.out (fun W' hW' => HT.out W' (good_below hW hW'))
      clear cs ci
      go_upto_region 8 with fail
      go_cut [6, 7, 8] from 20 (fun s6 s7 s8 wx => s8 = .int .i64 P2 ∧ (∃ B, OwnPks B wx s6 P0) ∧ (∃ B, OwnTxts B wx s7 P1) ∧ Below w.heap.size w wx)
      case first =>
        go_wp2_with (first
                | (go_at_call 6; have hchk := bs1; refine (cs' (fun b => b < ws1.heap.size) _ _ _ Bs1 (fun b hb => hb) ((ks0_1).at.mono (S' := fun b => b < ws1.heap.size) (fun b hb => Nat.lt_of_lt_of_le hb.2 (us0_1))) ((ks1).at.mono (S' := fun b => b < ws1.heap.size) (fun b hb => Nat.lt_of_lt_of_le hb.2 (Nat.le_refl _)))).mono ?_; rintro e ws ⟨⟨qs0, qs1, rfl, os0, os1⟩, bs⟩; have Bs := good_below Bs1 bs)
                | (go_at_call 8; have hchk := bs0; refine (ct1 hlc1 HOK1.out _ Bs0).mono ?_; rintro e ws1 ⟨⟨ys1, rfl, ks1⟩, bs1⟩; have Bs1 := good_below Bs0 bs1; have ks0_1 := CpOffs.below ks0 bs1 (Nat.le_refl _); have us0_1 := Nat.le_trans (Nat.le_refl _) bs1.size)
                | (go_at_call 7; refine (ct0 hlc0 HOK0.out _ hbq).mono ?_; rintro e ws0 ⟨⟨ys0, rfl, ks0⟩, bs0⟩; have Bs0 := good_below hbq bs0))
        go_meet
        exact ⟨rfl, ⟨_, os0⟩, ⟨_, os1⟩, Bs⟩
      case rest =>
        obtain ⟨rfl, ⟨Bw0, ow0⟩, ⟨Bw1, ow1⟩, hb5⟩ := hcut
        obtain ⟨aw0, cw0, hvw0, -⟩ := ow0.value
        subst hvw0
        obtain ⟨aw1, cw1, hvw1, -⟩ := ow1.value
        subst hvw1
        clear cs' hbq
        obtain ⟨w5, hw5⟩ : ∃ w5, w5 = wc := ⟨_, rfl⟩
        subst hw5
        have K5 : Below w5.heap.size w5 w5 := Below.refl _ _
        obtain ⟨TT0, htt0⟩ : ∃ T : Nat, T = 1 + 2 * P0.length := ⟨_, rfl⟩
        have HTT0 : Hid (TT0 = 1 + 2 * P0.length) := htt0
        have hts0 : 0 < 1 := by omega
        have hts0' : 1 ≤ 100000000000000 := by omega
        have hneg0 : ¬ ((TT0 : Int) < 0) := by omega
        obtain ⟨TT1, htt1⟩ : ∃ T : Nat, T = TT0 + P1.length := ⟨_, rfl⟩
        have HTT1 : Hid (TT1 = TT0 + P1.length) := htt1
        have hts1 : 0 < TT0 := by omega
        have hts1' : TT0 ≤ 100000000000000 := by omega
        have hneg1 : ¬ ((TT1 : Int) < 0) := by omega
        clear htt0 htt1
        go_upto_region 35 with (first
                    | (go_at_call 19; have hchk := bp0; refine (heldStringS' TT1 HTT1.out hts1 hts1' (by omega) D1_p0).mono ?_; rintro e wp1 ⟨rfl, bp1⟩; have Kp1 := good_below Kp0 bp1; have D0_p1 := MkdPks.below D0_p0 bp1; have D1_p1 := MkdTxts.below D1_p0 bp1)
                    | (go_at_call 18; have hchk := on1; refine (heldPickS' TT0 HTT0.out hts0 hts0' (by omega) D0_n1).mono ?_; rintro e wp0 ⟨rfl, bp0⟩; have Kp0 := good_below Kn1 bp0; have D0_p0 := MkdPks.below D0_n1 bp0; have D1_p0 := MkdTxts.below dn1 bp0)
                    | (go_at_call 17; have hchk := on0; refine (markOwnTxts' (TT0) TT1 HTT1.out hts1 hts1' (by omega) G1_n0).mono ?_; rintro e wn1 ⟨rfl, on1, dn1⟩; have Kn1 := Below.trans Kn0 (OutS.below on1 (fun b hb => Nat.le_trans HWX.out (OwnTxts.blk G1_n0 hb)) Kn0.size); have D0_n1 := MkdPks.outA dn0 on1 (fun b hb hb' => SlT.apart (by decide) (MkdPks.slt dn0) (OwnTxts.slt G1_n0) hb hb'))
                    | (go_at_call 16; have hchk := bi1; refine (markOwnPks' (1) TT0 HTT0.out hts0 hts0' (by omega) G0_i1).mono ?_; rintro e wn0 ⟨rfl, on0, dn0⟩; have Kn0 := Below.trans Ki1 (OutS.below on0 (fun b hb => Nat.le_trans HWX.out (OwnPks.blk G0_i1 hb)) Ki1.size); have G1_n0 := OwnTxts.outA G1_i1 on0 (fun b hb hb' => SlT.apart (by decide) (OwnTxts.slt G1_i1) (OwnPks.slt G0_i1) hb hb'))
                    | (go_at_call 11; have hchk := bi0; refine (eqStringS (fun b hb => hb.2) (fun b hb => hb.2) G1_i0.at (OwnTxts.below ow1 Ki0).at).mono ?_; rintro e wi1 ⟨rfl, bi1⟩; have Ki1 := good_below Ki0 bi1; have G0_i1 := OwnPks.below G0_i0 bi1; have G1_i1 := OwnTxts.below G1_i0 bi1)
                    | (go_at_call 10; have hchk := om1; refine (eqPickS (fun b hb => hb.2) (fun b hb => hb.2) G0_m1.at (OwnPks.below ow0 Km1).at).mono ?_; rintro e wi0 ⟨rfl, bi0⟩; have Ki0 := good_below Km1 bi0; have G0_i0 := OwnPks.below G0_m1 bi0; have G1_i0 := OwnTxts.below G1_m1 bi0)
                    | (go_at_call 15; have hchk := om0; refine (cpMarkImps (rm0) (by omega) (by omega) hlc1 HOK1.out uX1_m0 X1_m0).mono ?_; rintro e wm1 ⟨⟨rm1, rfl, pm1, zm1⟩, om1⟩; have Km1 := Below.trans Km0 (OutS.below om1 (fun b hb => Nat.le_trans Lw1.out hb.1) Km0.size); have G0_m1 := OwnPks.out G0_m0 om1 (fun b hb => Nat.lt_of_lt_of_le hb.2 (Nat.le_refl _)); have G1_m1 := OwnTxts.out G1_m0 om1 (fun b hb => Nat.lt_of_lt_of_le hb.2 (Nat.le_refl _)); have hneg : ¬ ((rm1 : Int) < 0) := by omega)
                    | (go_at_call 14; have hchk := bh1; refine (cpMarkOffs (1) (by omega) (by omega) hlc0 HOK0.out uX0_h1 X0_h1).mono ?_; rintro e wm0 ⟨⟨rm0, rfl, pm0, zm0⟩, om0⟩; have Km0 := Below.trans Kh1 (OutS.below om0 (fun b hb => Nat.le_trans Lw0.out hb.1) Kh1.size); have X1_m0 := CpImps.outS X1_h1 om0 (fun b hb => .inl (Nat.lt_of_lt_of_le hb.2 (Nat.le_refl _))) uX1_h1; have uX1_m0 := Nat.le_trans uX1_h1 om0.size; have G0_m0 := OwnPks.out G0_h1 om0 (fun b hb => Nat.lt_of_lt_of_le hb.2 (bx1.size)); have G1_m0 := OwnTxts.out G1_h1 om0 (fun b hb => Nat.lt_of_lt_of_le hb.2 (bx1.size)))
                    | (go_at_call 13; have hchk := bf1; refine (eqImportS (fun b hb => Nat.lt_of_lt_of_le hb.2 uX1_f1) (fun b hb => hb.2) X1_f1.at kf1.at).mono ?_; rintro e wh1 ⟨rfl, bh1⟩; have Kh1 := good_below Kf1 bh1; have X0_h1 := CpOffs.below X0_f1 bh1 uX0_f1; have uX0_h1 := Nat.le_trans uX0_f1 bh1.size; have X1_h1 := CpImps.below X1_f1 bh1 uX1_f1; have uX1_h1 := Nat.le_trans uX1_f1 bh1.size; have G0_h1 := OwnPks.below G0_f1 bh1; have G1_h1 := OwnTxts.below G1_f1 bh1)
                    | (go_at_call 8; have hchk := bh0; refine (ct1 hlc1 HOK1.out _ (good_below hb5 Kh0)).mono ?_; rintro e wf1 ⟨⟨yf1, rfl, kf1⟩, bf1⟩; have Kf1 := good_below Kh0 bf1; have X0_f1 := CpOffs.below X0_h0 bf1 uX0_h0; have uX0_f1 := Nat.le_trans uX0_h0 bf1.size; have X1_f1 := CpImps.below X1_h0 bf1 uX1_h0; have uX1_f1 := Nat.le_trans uX1_h0 bf1.size; have G0_f1 := OwnPks.below G0_h0 bf1; have G1_f1 := OwnTxts.below G1_h0 bf1)
                    | (go_at_call 12; have hchk := bf0; refine (eqOfferS (fun b hb => Nat.lt_of_lt_of_le hb.2 uX0_f0) (fun b hb => hb.2) X0_f0.at kf0.at).mono ?_; rintro e wh0 ⟨rfl, bh0⟩; have Kh0 := good_below Kf0 bh0; have X0_h0 := CpOffs.below X0_f0 bh0 uX0_f0; have uX0_h0 := Nat.le_trans uX0_f0 bh0.size; have X1_h0 := CpImps.below X1_f0 bh0 uX1_f0; have uX1_h0 := Nat.le_trans uX1_f0 bh0.size; have G0_h0 := OwnPks.below G0_f0 bh0; have G1_h0 := OwnTxts.below G1_f0 bh0)
                    | (go_at_call 7; have hchk := be1; refine (ct0 hlc0 HOK0.out _ (good_below hb5 Ke1)).mono ?_; rintro e wf0 ⟨⟨yf0, rfl, kf0⟩, bf0⟩; have Kf0 := good_below Ke1 bf0; have X0_f0 := CpOffs.below X0_e1 bf0 uX0_e1; have uX0_f0 := Nat.le_trans uX0_e1 bf0.size; have X1_f0 := CpImps.below X1_e1 bf0 uX1_e1; have uX1_f0 := Nat.le_trans uX1_e1 bf0.size; have G0_f0 := OwnPks.below G0_e1 bf0; have G1_f0 := OwnTxts.below G1_e1 bf0)
                    | (go_at_call 11; have hchk := be0; refine (eqStringS (fun b hb => hb.2) (fun b hb => hb.2) G1_e0.at (OwnTxts.below ow1 Ke0).at).mono ?_; rintro e we1 ⟨rfl, be1⟩; have Ke1 := good_below Ke0 be1; have X0_e1 := CpOffs.below X0_e0 be1 uX0_e0; have uX0_e1 := Nat.le_trans uX0_e0 be1.size; have X1_e1 := CpImps.below X1_e0 be1 uX1_e0; have uX1_e1 := Nat.le_trans uX1_e0 be1.size; have G0_e1 := OwnPks.below G0_e0 be1; have G1_e1 := OwnTxts.below G1_e0 be1)
                    | (go_at_call 10; have hchk := bg; refine (eqPickS (fun b hb => hb.2) (fun b hb => hb.2) og0.at (OwnPks.below ow0 Kg).at).mono ?_; rintro e we0 ⟨rfl, be0⟩; have Ke0 := good_below Kg be0; have X0_e0 := CpOffs.below X0_g be0 uX0_g; have uX0_e0 := Nat.le_trans uX0_g be0.size; have X1_e0 := CpImps.below X1_g be0 uX1_g; have uX1_e0 := Nat.le_trans uX1_g be0.size; have G0_e0 := OwnPks.below og0 be0; have G1_e0 := OwnTxts.below og1 be0)
                    | (go_at_call 9; have hchk := bx1; refine (ci' (fun b => b < wx1.heap.size) _ _ _ (good_below hb5 Kx1) (fun b hb => hb) (X0_x1.at.mono (S' := fun b => b < wx1.heap.size) (fun b hb => Nat.lt_of_lt_of_le hb.2 uX0_x1)) (kx1.at.mono (S' := fun b => b < wx1.heap.size) (fun b hb => Nat.lt_of_lt_of_le hb.2 Ux1))).mono ?_; rintro e wg ⟨⟨qg0, qg1, rfl, og0, og1⟩, bg⟩; have Kg := good_below Kx1 bg; have X0_g := CpOffs.below X0_x1 bg uX0_x1; have uX0_g := Nat.le_trans uX0_x1 bg.size; have X1_g := CpImps.below kx1 bg Ux1; have uX1_g := Nat.le_trans Ux1 bg.size; have HWX : Hid (w5.heap.size ≤ wx1.heap.size) := Kx1.size; obtain ⟨ag0, cg0, hvg0, -⟩ := og0.value; subst hvg0; obtain ⟨ag1, cg1, hvg1, -⟩ := og1.value; subst hvg1)
                    | (go_at_call 8; have hchk := bx0; refine (ct1 hlc1 HOK1.out _ (good_below hb5 Kx0)).mono ?_; rintro e wx1 ⟨⟨yx1, rfl, kx1⟩, bx1⟩; have Kx1 := good_below Kx0 bx1; have X0_x1 := CpOffs.below kx0 bx1 Ux0; have uX0_x1 := Nat.le_trans Ux0 bx1.size; have Ux1 : wx1.heap.size ≤ wx1.heap.size := Nat.le_refl _; have Lw1 : Hid (w5.heap.size ≤ wx0.heap.size) := Kx0.size)
                    | (go_at_call 7; refine (ct0 hlc0 HOK0.out _ (good_below hb5 K5)).mono ?_; rintro e wx0 ⟨⟨yx0, rfl, kx0⟩, bx0⟩; have Kx0 := good_below K5 bx0; have Ux0 : wx0.heap.size ≤ wx0.heap.size := Nat.le_refl _; have Lw0 : Hid (w5.heap.size ≤ w5.heap.size) := K5.size))
        have hb22 := good_below hb5 Kp1
        have ow22_0 := OwnPks.below ow0 Kp1
        have dm22_0 := D0_p1
        have ow22_1 := OwnTxts.below ow1 Kp1
        have dm22_1 := D1_p1
        obtain ⟨w22, hw22⟩ : ∃ w22, w22 = wp1 := ⟨_, rfl⟩
        subst hw22
        have HB22 : Hid (Below w.heap.size w w22) := hb22
        go_cut [17, 18, 19] from 20 (fun s17 s18 s19 wx => s19 = .int .i64 P2 ∧ (∃ B, OwnPks B wx s17 P0) ∧ (∃ B, OwnTxts B wx s18 P1) ∧ Below w22.heap.size w22 wx)
        case first =>
          go_wp2_with (first
                    | (go_at_call 9; have hchk := bz1; refine (ci' (fun b => b < wz1.heap.size) _ _ _ Bz1 (fun b hb => hb) ((kz0_1).at.mono (S' := fun b => b < wz1.heap.size) (fun b hb => Nat.lt_of_lt_of_le hb.2 (uz0_1))) ((kz1).at.mono (S' := fun b => b < wz1.heap.size) (fun b hb => Nat.lt_of_lt_of_le hb.2 (Nat.le_refl _)))).mono ?_; rintro e wz ⟨⟨qz0, qz1, rfl, oz0, oz1⟩, bz⟩)
                    | (go_at_call 8; have hchk := bz0; refine (ct1 hlc1 HOK1.out _ Bz0).mono ?_; rintro e wz1 ⟨⟨yz1, rfl, kz1⟩, bz1⟩; have Bz1 := good_below Bz0 bz1; have kz0_1 := CpOffs.below kz0 bz1 (Nat.le_refl _); have uz0_1 := Nat.le_trans (Nat.le_refl _) bz1.size)
                    | (go_at_call 7; refine (ct0 hlc0 HOK0.out _ HB22.out).mono ?_; rintro e wz0 ⟨⟨yz0, rfl, kz0⟩, bz0⟩; have Bz0 := good_below HB22.out bz0))
          go_meet
          exact ⟨rfl, ⟨_, oz0⟩, ⟨_, oz1⟩, good_below (good_below bz0 bz1) bz⟩
        case rest =>
          obtain ⟨rfl, ⟨Bh0, oh0⟩, ⟨Bh1, oh1⟩, bh⟩ := hcut
          go_wp2_with (first
                        | (go_at_call 19; have hchk := bk0; refine (heldStringS' TT1 HTT1.out hts1 hts1' (by omega) (MkdTxts.below dm22_1 Kk0)).mono ?_; rintro e wk1 ⟨rfl, bk1⟩; have Kk1 := good_below Kk0 bk1)
                        | (go_at_call 18; have hchk := bj1; refine (heldPickS' TT0 HTT0.out hts0 hts0' (by omega) (MkdPks.below dm22_0 Kj1)).mono ?_; rintro e wk0 ⟨rfl, bk0⟩; have Kk0 := good_below Kj1 bk0)
                        | (go_at_call 11; have hchk := bj0; refine (eqStringS (fun b hb => hb.2) (fun b hb => hb.2) (OwnTxts.below oh1 bj0).at (OwnTxts.below ow22_1 Kj0).at).mono ?_; rintro e wj1 ⟨rfl, bj1⟩; have Kj1 := good_below Kj0 bj1)
                        | (go_at_call 10; refine (eqPickS (fun b hb => hb.2) (fun b hb => hb.2) oh0.at (OwnPks.below ow22_0 bh).at).mono ?_; rintro e wj0 ⟨rfl, bj0⟩; have Kj0 := good_below bh bj0))
          go_ret
          exact ⟨rfl, good_below HB22.out Kk1⟩
end Go.Proofs.YtkghlnhmmfjclaaGreatDoor
