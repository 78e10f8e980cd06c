/-
  The law on Watch: its walk, over what both Watch answer. No statement of the seat is proved here.
-/
import Derived.Test.YtoopdcbgnccmiaaGreatDoorG5
import Derived.Deep.Cut
namespace Go.Proofs.YtoopdcbgnccmiaaGreatDoor
open Go.ChangeShapes Go.WideShapes Go.ChangeAt Go.RowKit
set_option linter.unusedVariables false
set_option linter.unusedSimpArgs false

/-- A copy, in blocks between L and U. -/
def CpLayers (L U : Nat) (w : World) (v : Value) (l : List Layer) : Prop := L < U ∧ RowLayers L U w v l
theorem CpLayers.keepU {L U : Nat} {w w' : World} {v : Value} {l : List Layer} (h : CpLayers L U w v l) (hk : ∀ b, L ≤ b → b < U → w'.heap[b]? = w.heap[b]?) : CpLayers L U w' v l := ⟨h.1, h.2.keep hk h.1⟩
theorem CpLayers.at {L U : Nat} {w : World} {v : Value} {l : List Layer} (h : CpLayers L U w v l) : LayersAt (fun b => L ≤ b ∧ b < U) w v l := h.2.at h.1
theorem cpToLayers {S : Nat → Prop} {l : List Layer} {v : Value} {w : World} (hS : ∀ b, S b → b < w.heap.size) (h : LayersAt S w v l) (hl : l.length ≤ 1048576) (hok : ∀ x ∈ l, LayersOK 1048576 x) :
    Calls Tryz.prog 11 #[v] w fun e w' => (∃ v', e = .returned v' ∧ CpLayers w.heap.size w'.heap.size w' v' l) ∧ Below w.heap.size w w' :=
  (toLayerS hS h hl (fun x hx => by have := (hok x hx).2.1; omega)).mono fun e w' ⟨⟨v', he, hr, hlt⟩, hb⟩ => ⟨⟨v', he, hlt, hr⟩, hb⟩
theorem cpMarkLayers {L U : Nat} {l : List Layer} {v : Value} {w : World} (s : Nat) (hs0 : 0 < s) (hs1 : s ≤ 10000000000000) (hl : l.length ≤ 1048576) (hok : ∀ x ∈ l, LayersOK 1048576 x) (hUw : U ≤ w.heap.size) (h : CpLayers L U w v l) :
    Calls Tryz.prog 17 #[v, .int .i64 s] w fun e w' => (∃ r : Nat, e = .returned (.int .i64 (r : Int)) ∧ 0 < r ∧ r ≤ s + 2300000000000) ∧ OutS (fun b => L ≤ b ∧ b < U) w w' := by
  refine (markLayerS s hs0 hs1 (by simpa using hl) (fun m hm => by
    obtain ⟨x, hx, rfl⟩ := List.mem_map.1 hm
    have := (hok x hx).2.1
    omega) h.1 hUw h.2.sh).mono ?_
  rintro e w' ⟨⟨r, he, h1, h2⟩, ho⟩
  simp only [List.length_map] at h2
  exact ⟨⟨r, he, h1, by omega⟩, ho⟩
theorem CpLayers.below {B L U : Nat} {w w' : World} {v : Value} {l : List Layer} (h : CpLayers L U w v l) (hb : Below B w w') (hU : U ≤ B) : CpLayers L U w' v l := h.keepU (fun b _ hb2 => hb.block b (Nat.lt_of_lt_of_le hb2 hU))
theorem CpLayers.outS {S : Nat → Prop} {L U : Nat} {w w' : World} {v : Value} {l : List Layer} (h : CpLayers L U w v l) (ho : OutS S w w') (hS : ∀ b, S b → b < L ∨ U ≤ b) (hU : U ≤ w.heap.size) : CpLayers L U w' v l := h.keepU (fun b h1 h2 => ho.block b (Nat.lt_of_lt_of_le h2 hU) (fun hs => by have := hS b hs; omega))
/-- A copy, in a block between L and U. -/
def CpTxts (L U : Nat) (w : World) (v : Value) (l : List ByteArray) : Prop := ∃ g, L ≤ g ∧ g < U ∧ RowTxts w g v l
theorem CpTxts.keepU {L U : Nat} {w w' : World} {v : Value} {l : List ByteArray} (h : CpTxts L U w v l) (hk : ∀ b, L ≤ b → b < U → w'.heap[b]? = w.heap[b]?) : CpTxts L U w' v l := by
  obtain ⟨g, h1, h2, h3⟩ := h
  exact ⟨g, h1, h2, h3.keep (hk g h1 h2)⟩
theorem CpTxts.at {L U : Nat} {w : World} {v : Value} {l : List ByteArray} (h : CpTxts L U w v l) : TxtsAt (fun b => L ≤ b ∧ b < U) w v l := by
  obtain ⟨g, h1, h2, h3⟩ := h
  exact h3.at ⟨h1, h2⟩
theorem cpToTxts {S : Nat → Prop} {l : List ByteArray} {v : Value} {w : World} (hS : ∀ b, S b → b < w.heap.size) (h : TxtsAt S w v l) (hl : l.length ≤ 1048576) (hok : ∀ x ∈ l, TxtsOK 1048576 x) :
    Calls Tryz.prog 24 #[v] w fun e w' => (∃ v', e = .returned v' ∧ CpTxts w.heap.size w'.heap.size w' v' l) ∧ Below w.heap.size w w' :=
  (toStringS hS h hl).mono fun e w' ⟨⟨v', he, hr⟩, hb⟩ => ⟨⟨v', he, w.heap.size, Nat.le_refl _, hr.lt, hr⟩, hb⟩
theorem cpMarkTxts {L U : Nat} {l : List ByteArray} {v : Value} {w : World} (s : Nat) (hs0 : 0 < s) (hs1 : s ≤ 10000000000000) (hl : l.length ≤ 1048576) (hok : ∀ x ∈ l, TxtsOK 1048576 x) (hUw : U ≤ w.heap.size) (h : CpTxts L U w v l) :
    Calls Tryz.prog 28 #[v, .int .i64 s] w fun e w' => (∃ r : Nat, e = .returned (.int .i64 (r : Int)) ∧ 0 < r ∧ r ≤ s + 2300000000000) ∧ OutS (fun b => L ≤ b ∧ b < U) w w' := by
  obtain ⟨g, h1, h2, h3⟩ := h
  refine (markShTxts s hs0 (by omega) hl h3.sh).mono ?_
  rintro e w' ⟨he, ho, _⟩
  exact ⟨⟨_, he, by omega, by omega⟩, ho.mono (fun b hb => by subst hb; exact ⟨h1, h2⟩)⟩
theorem CpTxts.below {B L U : Nat} {w w' : World} {v : Value} {l : List ByteArray} (h : CpTxts L U w v l) (hb : Below B w w') (hU : U ≤ B) : CpTxts L U w' v l := h.keepU (fun b _ hb2 => hb.block b (Nat.lt_of_lt_of_le hb2 hU))
theorem CpTxts.outS {S : Nat → Prop} {L U : Nat} {w w' : World} {v : Value} {l : List ByteArray} (h : CpTxts L U w v l) (ho : OutS S w w') (hS : ∀ b, S b → b < L ∨ U ≤ b) (hU : U ≤ w.heap.size) : CpTxts L U w' v l := h.keepU (fun b h1 h2 => ho.block b (Nat.lt_of_lt_of_le h2 hU) (fun hs => by have := hS b hs; omega))
/-- What a Watch answers, whatever it is. -/
def WatchC (f : Nat) (T : World → Prop) (C0 : (List Layer) → (List Layer) → (List ByteArray) → List Change) (C1 : (List Layer) → (List Layer) → (List ByteArray) → Int) : Prop := ∀ (S : Nat → Prop) (l0 : List Layer) (l1 : List Layer) (l2 : List ByteArray) (v0 : Value) (v1 : Value) (v2 : Value) (w : World), (∀ b, S b → b < w.heap.size) → LayersAt S w v0 l0 → l0.length ≤ 1048576 → (∀ x ∈ l0, LayersOK 1048576 x) → LayersAt S w v1 l1 → l1.length ≤ 1048576 → (∀ x ∈ l1, LayersOK 1048576 x) → TxtsAt S w v2 l2 → l2.length ≤ 1048576 → (∀ x ∈ l2, TxtsOK 1048576 x) → (∀ W, Below w.heap.size w W → T W) →
  Calls Tryz.prog f #[v0, v1, v2] w fun e w' => (∃ p0, e = .returned (.tuple #[p0, .int .i64 (C1 l0 l1 l2)]) ∧ OwnChanges w.heap.size w' p0 (C0 l0 l1 l2)) ∧ Below w.heap.size w w'

set_option maxRecDepth 100000 in
set_option maxHeartbeats 16000000 in
theorem watchWalk {T : World → Prop} {C0 : (List Layer) → (List Layer) → (List ByteArray) → List Change} {C1 : (List Layer) → (List Layer) → (List ByteArray) → Int} (hSp : WatchC 23 T C0 C1) (hIm : WatchC 25 T C0 C1) (hlen0 : ∀ l0 l1 l2, (C0 l0 l1 l2).length ≤ 1000000)
    (w : World) (v0 : Value) (v1 : Value) (v2 : Value) (l0 : List Layer) (l1 : List Layer) (l2 : List ByteArray) (h0 : LayersAt (fun b => b < w.heap.size) w v0 l0) (hf0 : ∀ y ∈ l0, LayersFit y) (h1 : LayersAt (fun b => b < w.heap.size) w v1 l1) (hf1 : ∀ y ∈ l1, LayersFit y) (h2 : TxtsAt (fun b => b < w.heap.size) w v2 l2) (hf2 : ∀ y ∈ l2, TxtsFit y) (hT : ∀ W, Below w.heap.size w W → T W) :
    Calls Tryz.prog 5 #[v0, v1, v2] w fun e w' => e = .returned (.bool true) ∧ Below w.heap.size w w' := by
  have HT : Hid (∀ W, Below w.heap.size w W → T W) := hT
  have HR0 : Hid (LayersAt (fun b => b < w.heap.size) w v0 l0) := h0
  have HF0 : Hid (∀ y ∈ l0, LayersFit y) := hf0
  obtain ⟨a0, cap0, hv0⟩ := h0.shape
  subst hv0
  have HR1 : Hid (LayersAt (fun b => b < w.heap.size) w v1 l1) := h1
  have HF1 : Hid (∀ y ∈ l1, LayersFit y) := hf1
  obtain ⟨a1, cap1, hv1⟩ := h1.shape
  subst hv1
  have HR2 : Hid (TxtsAt (fun b => b < w.heap.size) w v2 l2) := h2
  have HF2 : Hid (∀ y ∈ l2, TxtsFit y) := hf2
  obtain ⟨a2, cap2, hv2⟩ := h2.shape
  subst hv2
  have hP0 := hlen0 l0 l1 l2
  have cs := fun S v0 v1 v2 w => hSp S l0 l1 l2 v0 v1 v2 w
  have ci := fun S v0 v1 v2 w => hIm S l0 l1 l2 v0 v1 v2 w
  obtain ⟨P0, hPe0⟩ : ∃ P, C0 l0 l1 l2 = P := ⟨_, rfl⟩
  rw [hPe0] at cs ci hP0
  clear hPe0
  obtain ⟨P1, hPe1⟩ : ∃ P, C1 l0 l1 l2 = P := ⟨_, rfl⟩
  rw [hPe1] at cs ci
  clear hPe1
  clear hSp hIm hT h0 hf0 h1 hf1 h2 hf2 hlen0
  have ct0 : l0.length ≤ 1048576 → (∀ x ∈ l0, LayersOK 1048576 x) → ∀ W, Below w.heap.size w W → Calls Tryz.prog 11 #[.slice a0 l0.length cap0] W fun e w' => (∃ v', e = .returned v' ∧ CpLayers W.heap.size w'.heap.size w' v' l0) ∧ Below W.heap.size W w' := fun h1 h2 W hW =>
    cpToLayers (S := fun b => b < w.heap.size) (fun b hb => Nat.lt_of_lt_of_le hb hW.size) (HR0.out.keep (cells_below (fun b hb => hb) hW)) h1 h2
  have ct1 : l1.length ≤ 1048576 → (∀ x ∈ l1, LayersOK 1048576 x) → ∀ W, Below w.heap.size w W → Calls Tryz.prog 11 #[.slice a1 l1.length cap1] W fun e w' => (∃ v', e = .returned v' ∧ CpLayers W.heap.size w'.heap.size w' v' l1) ∧ Below W.heap.size W w' := fun h1 h2 W hW =>
    cpToLayers (S := fun b => b < w.heap.size) (fun b hb => Nat.lt_of_lt_of_le hb hW.size) (HR1.out.keep (cells_below (fun b hb => hb) hW)) h1 h2
  have ct2 : l2.length ≤ 1048576 → (∀ x ∈ l2, TxtsOK 1048576 x) → ∀ W, Below w.heap.size w W → Calls Tryz.prog 24 #[.slice a2 l2.length cap2] W fun e w' => (∃ v', e = .returned v' ∧ CpTxts W.heap.size w'.heap.size w' v' l2) ∧ Below W.heap.size W w' := fun h1 h2 W hW =>
    cpToTxts (S := fun b => b < w.heap.size) (fun b hb => Nat.lt_of_lt_of_le hb hW.size) (HR2.out.keep (cells_below (fun b hb => hb) hW)) h1 h2
  go_enter Tryz.func5, Tryz.ntmps5
  have hbq : Below w.heap.size w w := Below.refl _ w
  have hr1 : (1048576 : Int) ≤ 1048576 := by omega
  have hr0 : (0 : Int) ≤ 1048576 := by omega
  have cz0 := szLayerS (w := w) (fun b hb => Nat.lt_of_lt_of_le hb hbq.size) (HR0.out.keep (cells_below (fun b hb => hb) hbq)) HF0.out (1048576) hr0 hr1
  go_upto_region 2 with fail
  go_cut [7] from 20 (fun s3 wx => ∃ r : Int, s3 = .int .i64 r ∧ (r = -1 ∨ (0 ≤ r ∧ r ≤ 1048576 ∧ (l0.length : Int) ≤ 1048576 ∧ ∀ x ∈ l0, LayersOK (1048576) x)) ∧ Below w.heap.size w wx)
  case first =>
    go_wp2_with (go_at_call 8; go_must (refine cz0.mono ?_; rintro e w1 ⟨⟨r, rfl, hr⟩, hb1⟩))
    go_meet
    exact ⟨r, rfl, hr, good_below hbq hb1⟩
  case rest =>
    clear cz0
    obtain ⟨r0, rfl, hr, hbq0⟩ := hcut
    rcases hr with rfl | ⟨ha0, hc0, hll0, hok0⟩
    case inl =>
      go_wp2_with fail
      go_ret
      exact ⟨rfl, hbq0⟩
    have hok0' : ∀ x ∈ l0, LayersOK 1048576 x := fun x hx => (hok0 x hx).mono (by omega)
    have HOK0 : Hid (∀ x ∈ l0, LayersOK 1048576 x) := hok0'
    have hlc0 : l0.length ≤ 1048576 := by omega
    have hrn0 : ¬ (r0 < 0) := by omega
    clear hok0 hok0' hbq hr0 hr1
    obtain ⟨wq0, hwq0⟩ : ∃ wq, wq = wc := ⟨_, rfl⟩
    subst hwq0
    have hbq := hbq0
    have hr0 := ha0
    have hr1 : r0 ≤ 1048576 := by omega
    clear hbq0
    have cz1 := szLayerS (w := wq0) (fun b hb => Nat.lt_of_lt_of_le hb hbq.size) (HR1.out.keep (cells_below (fun b hb => hb) hbq)) HF1.out (r0) hr0 hr1
    go_upto_region 5 with fail
    go_cut [7] from 20 (fun s3 wx => ∃ r : Int, s3 = .int .i64 r ∧ (r = -1 ∨ (0 ≤ r ∧ r ≤ r0 ∧ (l1.length : Int) ≤ r0 ∧ ∀ x ∈ l1, LayersOK (r0) x)) ∧ Below w.heap.size w wx)
    case first =>
      go_wp2_with (go_at_call 8; go_must (refine cz1.mono ?_; rintro e w1 ⟨⟨r, rfl, hr⟩, hb1⟩))
      go_meet
      exact ⟨r, rfl, hr, good_below hbq hb1⟩
    case rest =>
      clear cz1
      obtain ⟨r1, rfl, hr, hbq1⟩ := hcut
      rcases hr with rfl | ⟨ha1, hc1, hll1, hok1⟩
      case inl =>
        go_wp2_with fail
        go_ret
        exact ⟨rfl, hbq1⟩
      have hok1' : ∀ x ∈ l1, LayersOK 1048576 x := fun x hx => (hok1 x hx).mono (by omega)
      have HOK1 : Hid (∀ x ∈ l1, LayersOK 1048576 x) := hok1'
      have hlc1 : l1.length ≤ 1048576 := by omega
      have hrn1 : ¬ (r1 < 0) := by omega
      clear hok1 hok1' hbq hr0 hr1
      obtain ⟨wq1, hwq1⟩ : ∃ wq, wq = wc := ⟨_, rfl⟩
      subst hwq1
      have hbq := hbq1
      have hr0 := ha1
      have hr1 : r1 ≤ 1048576 := by omega
      clear hbq1
      have cz2 := szStringS (w := wq1) (fun b hb => Nat.lt_of_lt_of_le hb hbq.size) (HR2.out.keep (cells_below (fun b hb => hb) hbq)) HF2.out (r1) hr0 hr1
      go_upto_region 8 with fail
      go_cut [7] from 20 (fun s3 wx => ∃ r : Int, s3 = .int .i64 r ∧ (r = -1 ∨ (0 ≤ r ∧ r ≤ r1 ∧ (l2.length : Int) ≤ r1 ∧ ∀ x ∈ l2, TxtsOK (r1) x)) ∧ Below w.heap.size w wx)
      case first =>
        go_wp2_with (go_at_call 22; go_must (refine cz2.mono ?_; rintro e w1 ⟨⟨r, rfl, hr⟩, hb1⟩))
        go_meet
        exact ⟨r, rfl, hr, good_below hbq hb1⟩
      case rest =>
        clear cz2
        obtain ⟨r2, rfl, hr, hbq2⟩ := hcut
        rcases hr with rfl | ⟨ha2, hc2, hll2, hok2⟩
        case inl =>
          go_wp2_with fail
          go_ret
          exact ⟨rfl, hbq2⟩
        have hok2' : ∀ x ∈ l2, TxtsOK 1048576 x := fun x hx => (hok2 x hx).mono (by omega)
        have HOK2 : Hid (∀ x ∈ l2, TxtsOK 1048576 x) := hok2'
        have hlc2 : l2.length ≤ 1048576 := by omega
        have hrn2 : ¬ (r2 < 0) := by omega
        clear hok2 hok2' hbq hr0 hr1
        obtain ⟨wq2, hwq2⟩ : ∃ wq, wq = wc := ⟨_, rfl⟩
        subst hwq2
        have hbq := hbq2
        have hr0 := ha2
        have hr1 : r2 ≤ 1048576 := by omega
        clear hbq2
        have cs' := fun S v0 v1 v2 W (hW : Below w.heap.size w W) hS h0 h1 h2 => cs S v0 v1 v2 W hS h0 hlc0 HOK0.out h1 hlc1 HOK1.out h2 hlc2 HOK2.out (fun W' hW' => HT.out W' (good_below hW hW'))
        have ci' := fun S v0 v1 v2 W (hW : Below w.heap.size w W) hS h0 h1 h2 => ci S v0 v1 v2 W hS h0 hlc0 HOK0.out h1 hlc1 HOK1.out h2 hlc2 HOK2.out (fun W' hW' => HT.out W' (good_below hW hW'))
        clear cs ci
        go_upto_region 11 with fail
        go_cut [8, 9] from 20 (fun s8 s9 wx => s9 = .int .i64 P1 ∧ (∃ B, OwnChanges B wx s8 P0) ∧ Below w.heap.size w wx)
        case first =>
          go_wp2_with (first
                    | (go_at_call 23; have hchk := bs2; refine (cs' (fun b => b < ws2.heap.size) _ _ _ _ Bs2 (fun b hb => hb) ((ks0_2).at.mono (S' := fun b => b < ws2.heap.size) (fun b hb => Nat.lt_of_lt_of_le hb.2 (us0_2))) ((ks1_2).at.mono (S' := fun b => b < ws2.heap.size) (fun b hb => Nat.lt_of_lt_of_le hb.2 (us1_2))) ((ks2).at.mono (S' := fun b => b < ws2.heap.size) (fun b hb => Nat.lt_of_lt_of_le hb.2 (Nat.le_refl _)))).mono ?_; rintro e ws ⟨⟨qs0, rfl, os0⟩, bs⟩; have Bs := good_below Bs2 bs)
                    | (go_at_call 24; have hchk := bs1; refine (ct2 hlc2 HOK2.out _ Bs1).mono ?_; rintro e ws2 ⟨⟨ys2, rfl, ks2⟩, bs2⟩; have Bs2 := good_below Bs1 bs2; have ks0_2 := CpLayers.below ks0_1 bs2 (us0_1); have us0_2 := Nat.le_trans (us0_1) bs2.size; have ks1_2 := CpLayers.below ks1 bs2 (Nat.le_refl _); have us1_2 := Nat.le_trans (Nat.le_refl _) bs2.size)
                    | (go_at_call 11; have hchk := bs0; refine (ct1 hlc1 HOK1.out _ Bs0).mono ?_; rintro e ws1 ⟨⟨ys1, rfl, ks1⟩, bs1⟩; have Bs1 := good_below Bs0 bs1; have ks0_1 := CpLayers.below ks0 bs1 (Nat.le_refl _); have us0_1 := Nat.le_trans (Nat.le_refl _) bs1.size)
                    | (go_at_call 11; refine (ct0 hlc0 HOK0.out _ hbq).mono ?_; rintro e ws0 ⟨⟨ys0, rfl, ks0⟩, bs0⟩; have Bs0 := good_below hbq bs0))
          go_meet
          exact ⟨rfl, ⟨_, os0⟩, Bs⟩
        case rest =>
          obtain ⟨rfl, ⟨Bw0, ow0⟩, hb5⟩ := hcut
          obtain ⟨aw0, cw0, hvw0, -⟩ := ow0.value
          subst hvw0
          clear cs' hbq
          obtain ⟨w5, hw5⟩ : ∃ w5, w5 = wc := ⟨_, rfl⟩
          subst hw5
          have K5 : Below w5.heap.size w5 w5 := Below.refl _ _
          have hneg0 : ¬ ((1 : Int) + 3 * (P0.length : Int) < 0) := by omega
          go_upto_region 38 with (first
                        | (go_at_call 30; have hchk := on0; refine (heldChangeS (by omega) (by omega) (by omega) dn0).mono ?_; rintro e wp0 ⟨rfl, bp0⟩; have Kp0 := good_below Kn0 bp0; have D0_p0 := MkdChanges.below dn0 bp0)
                        | (go_at_call 29; have hchk := bi0; refine (markOwnChanges (1) (by omega) (by omega) (by omega) G0_i0).mono ?_; rintro e wn0 ⟨rfl, on0, dn0⟩; have Kn0 := Below.trans Ki0 (OutS.below on0 (fun b hb => Nat.le_trans HWX.out (OwnChanges.blk G0_i0 hb)) Ki0.size))
                        | (go_at_call 26; have hchk := om2; refine (eqChangeS (fun b hb => hb.2) (fun b hb => hb.2) G0_m2.at (OwnChanges.below ow0 Km2).at).mono ?_; rintro e wi0 ⟨rfl, bi0⟩; have Ki0 := good_below Km2 bi0; have G0_i0 := OwnChanges.below G0_m2 bi0)
                        | (go_at_call 28; have hchk := om1; refine (cpMarkTxts (rm1) (by omega) (by omega) hlc2 HOK2.out uX2_m1 X2_m1).mono ?_; rintro e wm2 ⟨⟨rm2, rfl, pm2, zm2⟩, om2⟩; have Km2 := Below.trans Km1 (OutS.below om2 (fun b hb => Nat.le_trans Lw2.out hb.1) Km1.size); have G0_m2 := OwnChanges.out G0_m1 om2 (fun b hb => Nat.lt_of_lt_of_le hb.2 (Nat.le_refl _)); have hneg : ¬ ((rm2 : Int) < 0) := by omega)
                        | (go_at_call 17; have hchk := om0; refine (cpMarkLayers (rm0) (by omega) (by omega) hlc1 HOK1.out uX1_m0 X1_m0).mono ?_; rintro e wm1 ⟨⟨rm1, rfl, pm1, zm1⟩, om1⟩; have Km1 := Below.trans Km0 (OutS.below om1 (fun b hb => Nat.le_trans Lw1.out hb.1) Km0.size); have X2_m1 := CpTxts.outS X2_m0 om1 (fun b hb => .inl (Nat.lt_of_lt_of_le hb.2 (Nat.le_refl _))) uX2_m0; have uX2_m1 := Nat.le_trans uX2_m0 om1.size; have G0_m1 := OwnChanges.out G0_m0 om1 (fun b hb => Nat.lt_of_lt_of_le hb.2 (bx2.size)))
                        | (go_at_call 17; have hchk := bh2; refine (cpMarkLayers (1) (by omega) (by omega) hlc0 HOK0.out uX0_h2 X0_h2).mono ?_; rintro e wm0 ⟨⟨rm0, rfl, pm0, zm0⟩, om0⟩; have Km0 := Below.trans Kh2 (OutS.below om0 (fun b hb => Nat.le_trans Lw0.out hb.1) Kh2.size); have X1_m0 := CpLayers.outS X1_h2 om0 (fun b hb => .inl (Nat.lt_of_lt_of_le hb.2 (Nat.le_refl _))) uX1_h2; have uX1_m0 := Nat.le_trans uX1_h2 om0.size; have X2_m0 := CpTxts.outS X2_h2 om0 (fun b hb => .inl (Nat.lt_of_lt_of_le hb.2 (bx1.size))) uX2_h2; have uX2_m0 := Nat.le_trans uX2_h2 om0.size; have G0_m0 := OwnChanges.out G0_h2 om0 (fun b hb => Nat.lt_of_lt_of_le hb.2 ((Nat.le_trans bx1.size bx2.size))))
                        | (go_at_call 27; have hchk := bf2; refine (eqStringS (fun b hb => Nat.lt_of_lt_of_le hb.2 uX2_f2) (fun b hb => hb.2) X2_f2.at kf2.at).mono ?_; rintro e wh2 ⟨rfl, bh2⟩; have Kh2 := good_below Kf2 bh2; have X0_h2 := CpLayers.below X0_f2 bh2 uX0_f2; have uX0_h2 := Nat.le_trans uX0_f2 bh2.size; have X1_h2 := CpLayers.below X1_f2 bh2 uX1_f2; have uX1_h2 := Nat.le_trans uX1_f2 bh2.size; have X2_h2 := CpTxts.below X2_f2 bh2 uX2_f2; have uX2_h2 := Nat.le_trans uX2_f2 bh2.size; have G0_h2 := OwnChanges.below G0_f2 bh2)
                        | (go_at_call 24; have hchk := bh1; refine (ct2 hlc2 HOK2.out _ (good_below hb5 Kh1)).mono ?_; rintro e wf2 ⟨⟨yf2, rfl, kf2⟩, bf2⟩; have Kf2 := good_below Kh1 bf2; have X0_f2 := CpLayers.below X0_h1 bf2 uX0_h1; have uX0_f2 := Nat.le_trans uX0_h1 bf2.size; have X1_f2 := CpLayers.below X1_h1 bf2 uX1_h1; have uX1_f2 := Nat.le_trans uX1_h1 bf2.size; have X2_f2 := CpTxts.below X2_h1 bf2 uX2_h1; have uX2_f2 := Nat.le_trans uX2_h1 bf2.size; have G0_f2 := OwnChanges.below G0_h1 bf2)
                        | (go_at_call 15; have hchk := bf1; refine (eqLayerS (fun b hb => Nat.lt_of_lt_of_le hb.2 uX1_f1) (fun b hb => hb.2) X1_f1.at kf1.at).mono ?_; rintro e wh1 ⟨rfl, bh1⟩; have Kh1 := good_below Kf1 bh1; have X0_h1 := CpLayers.below X0_f1 bh1 uX0_f1; have uX0_h1 := Nat.le_trans uX0_f1 bh1.size; have X1_h1 := CpLayers.below X1_f1 bh1 uX1_f1; have uX1_h1 := Nat.le_trans uX1_f1 bh1.size; have X2_h1 := CpTxts.below X2_f1 bh1 uX2_f1; have uX2_h1 := Nat.le_trans uX2_f1 bh1.size; have G0_h1 := OwnChanges.below G0_f1 bh1)
                        | (go_at_call 11; have hchk := bh0; refine (ct1 hlc1 HOK1.out _ (good_below hb5 Kh0)).mono ?_; rintro e wf1 ⟨⟨yf1, rfl, kf1⟩, bf1⟩; have Kf1 := good_below Kh0 bf1; have X0_f1 := CpLayers.below X0_h0 bf1 uX0_h0; have uX0_f1 := Nat.le_trans uX0_h0 bf1.size; have X1_f1 := CpLayers.below X1_h0 bf1 uX1_h0; have uX1_f1 := Nat.le_trans uX1_h0 bf1.size; have X2_f1 := CpTxts.below X2_h0 bf1 uX2_h0; have uX2_f1 := Nat.le_trans uX2_h0 bf1.size; have G0_f1 := OwnChanges.below G0_h0 bf1)
                        | (go_at_call 15; have hchk := bf0; refine (eqLayerS (fun b hb => Nat.lt_of_lt_of_le hb.2 uX0_f0) (fun b hb => hb.2) X0_f0.at kf0.at).mono ?_; rintro e wh0 ⟨rfl, bh0⟩; have Kh0 := good_below Kf0 bh0; have X0_h0 := CpLayers.below X0_f0 bh0 uX0_f0; have uX0_h0 := Nat.le_trans uX0_f0 bh0.size; have X1_h0 := CpLayers.below X1_f0 bh0 uX1_f0; have uX1_h0 := Nat.le_trans uX1_f0 bh0.size; have X2_h0 := CpTxts.below X2_f0 bh0 uX2_f0; have uX2_h0 := Nat.le_trans uX2_f0 bh0.size; have G0_h0 := OwnChanges.below G0_f0 bh0)
                        | (go_at_call 11; have hchk := be0; refine (ct0 hlc0 HOK0.out _ (good_below hb5 Ke0)).mono ?_; rintro e wf0 ⟨⟨yf0, rfl, kf0⟩, bf0⟩; have Kf0 := good_below Ke0 bf0; have X0_f0 := CpLayers.below X0_e0 bf0 uX0_e0; have uX0_f0 := Nat.le_trans uX0_e0 bf0.size; have X1_f0 := CpLayers.below X1_e0 bf0 uX1_e0; have uX1_f0 := Nat.le_trans uX1_e0 bf0.size; have X2_f0 := CpTxts.below X2_e0 bf0 uX2_e0; have uX2_f0 := Nat.le_trans uX2_e0 bf0.size; have G0_f0 := OwnChanges.below G0_e0 bf0)
                        | (go_at_call 26; have hchk := bg; refine (eqChangeS (fun b hb => hb.2) (fun b hb => hb.2) og0.at (OwnChanges.below ow0 Kg).at).mono ?_; rintro e we0 ⟨rfl, be0⟩; have Ke0 := good_below Kg be0; have X0_e0 := CpLayers.below X0_g be0 uX0_g; have uX0_e0 := Nat.le_trans uX0_g be0.size; have X1_e0 := CpLayers.below X1_g be0 uX1_g; have uX1_e0 := Nat.le_trans uX1_g be0.size; have X2_e0 := CpTxts.below X2_g be0 uX2_g; have uX2_e0 := Nat.le_trans uX2_g be0.size; have G0_e0 := OwnChanges.below og0 be0)
                        | (go_at_call 25; have hchk := bx2; refine (ci' (fun b => b < wx2.heap.size) _ _ _ _ (good_below hb5 Kx2) (fun b hb => hb) (X0_x2.at.mono (S' := fun b => b < wx2.heap.size) (fun b hb => Nat.lt_of_lt_of_le hb.2 uX0_x2)) (X1_x2.at.mono (S' := fun b => b < wx2.heap.size) (fun b hb => Nat.lt_of_lt_of_le hb.2 uX1_x2)) (kx2.at.mono (S' := fun b => b < wx2.heap.size) (fun b hb => Nat.lt_of_lt_of_le hb.2 Ux2))).mono ?_; rintro e wg ⟨⟨qg0, rfl, og0⟩, bg⟩; have Kg := good_below Kx2 bg; have X0_g := CpLayers.below X0_x2 bg uX0_x2; have uX0_g := Nat.le_trans uX0_x2 bg.size; have X1_g := CpLayers.below X1_x2 bg uX1_x2; have uX1_g := Nat.le_trans uX1_x2 bg.size; have X2_g := CpTxts.below kx2 bg Ux2; have uX2_g := Nat.le_trans Ux2 bg.size; have HWX : Hid (w5.heap.size ≤ wx2.heap.size) := Kx2.size; obtain ⟨ag0, cg0, hvg0, -⟩ := og0.value; subst hvg0)
                        | (go_at_call 24; have hchk := bx1; refine (ct2 hlc2 HOK2.out _ (good_below hb5 Kx1)).mono ?_; rintro e wx2 ⟨⟨yx2, rfl, kx2⟩, bx2⟩; have Kx2 := good_below Kx1 bx2; have X0_x2 := CpLayers.below X0_x1 bx2 uX0_x1; have uX0_x2 := Nat.le_trans uX0_x1 bx2.size; have X1_x2 := CpLayers.below kx1 bx2 Ux1; have uX1_x2 := Nat.le_trans Ux1 bx2.size; have Ux2 : wx2.heap.size ≤ wx2.heap.size := Nat.le_refl _; have Lw2 : Hid (w5.heap.size ≤ wx1.heap.size) := Kx1.size)
                        | (go_at_call 11; have hchk := bx0; refine (ct1 hlc1 HOK1.out _ (good_below hb5 Kx0)).mono ?_; rintro e wx1 ⟨⟨yx1, rfl, kx1⟩, bx1⟩; have Kx1 := good_below Kx0 bx1; have X0_x1 := CpLayers.below kx0 bx1 Ux0; have uX0_x1 := Nat.le_trans Ux0 bx1.size; have Ux1 : wx1.heap.size ≤ wx1.heap.size := Nat.le_refl _; have Lw1 : Hid (w5.heap.size ≤ wx0.heap.size) := Kx0.size)
                        | (go_at_call 11; refine (ct0 hlc0 HOK0.out _ (good_below hb5 K5)).mono ?_; rintro e wx0 ⟨⟨yx0, rfl, kx0⟩, bx0⟩; have Kx0 := good_below K5 bx0; have Ux0 : wx0.heap.size ≤ wx0.heap.size := Nat.le_refl _; have Lw0 : Hid (w5.heap.size ≤ w5.heap.size) := K5.size))
          have hb22 := good_below hb5 Kp0
          have ow22_0 := OwnChanges.below ow0 Kp0
          have dm22_0 := D0_p0
          obtain ⟨w22, hw22⟩ : ∃ w22, w22 = wp0 := ⟨_, rfl⟩
          subst hw22
          have HB22 : Hid (Below w.heap.size w w22) := hb22
          go_cut [18, 19] from 20 (fun s18 s19 wx => s19 = .int .i64 P1 ∧ (∃ B, OwnChanges B wx s18 P0) ∧ Below w22.heap.size w22 wx)
          case first =>
            go_wp2_with (first
                        | (go_at_call 25; have hchk := bz2; refine (ci' (fun b => b < wz2.heap.size) _ _ _ _ Bz2 (fun b hb => hb) ((kz0_2).at.mono (S' := fun b => b < wz2.heap.size) (fun b hb => Nat.lt_of_lt_of_le hb.2 (uz0_2))) ((kz1_2).at.mono (S' := fun b => b < wz2.heap.size) (fun b hb => Nat.lt_of_lt_of_le hb.2 (uz1_2))) ((kz2).at.mono (S' := fun b => b < wz2.heap.size) (fun b hb => Nat.lt_of_lt_of_le hb.2 (Nat.le_refl _)))).mono ?_; rintro e wz ⟨⟨qz0, rfl, oz0⟩, bz⟩)
                        | (go_at_call 24; have hchk := bz1; refine (ct2 hlc2 HOK2.out _ Bz1).mono ?_; rintro e wz2 ⟨⟨yz2, rfl, kz2⟩, bz2⟩; have Bz2 := good_below Bz1 bz2; have kz0_2 := CpLayers.below kz0_1 bz2 (uz0_1); have uz0_2 := Nat.le_trans (uz0_1) bz2.size; have kz1_2 := CpLayers.below kz1 bz2 (Nat.le_refl _); have uz1_2 := Nat.le_trans (Nat.le_refl _) bz2.size)
                        | (go_at_call 11; have hchk := bz0; refine (ct1 hlc1 HOK1.out _ Bz0).mono ?_; rintro e wz1 ⟨⟨yz1, rfl, kz1⟩, bz1⟩; have Bz1 := good_below Bz0 bz1; have kz0_1 := CpLayers.below kz0 bz1 (Nat.le_refl _); have uz0_1 := Nat.le_trans (Nat.le_refl _) bz1.size)
                        | (go_at_call 11; refine (ct0 hlc0 HOK0.out _ HB22.out).mono ?_; rintro e wz0 ⟨⟨yz0, rfl, kz0⟩, bz0⟩; have Bz0 := good_below HB22.out bz0))
            go_meet
            exact ⟨rfl, ⟨_, oz0⟩, good_below (good_below (good_below bz0 bz1) bz2) bz⟩
          case rest =>
            obtain ⟨rfl, ⟨Bh0, oh0⟩, bh⟩ := hcut
            go_wp2_with (first
                            | (go_at_call 30; have hchk := bj0; refine (heldChangeS (by omega) (by omega) (by omega) (MkdChanges.below dm22_0 Kj0)).mono ?_; rintro e wk0 ⟨rfl, bk0⟩; have Kk0 := good_below Kj0 bk0)
                            | (go_at_call 26; refine (eqChangeS (fun b hb => hb.2) (fun b hb => hb.2) oh0.at (OwnChanges.below ow22_0 bh).at).mono ?_; rintro e wj0 ⟨rfl, bj0⟩; have Kj0 := good_below bh bj0))
            go_ret
            exact ⟨rfl, good_below HB22.out Kk0⟩
end Go.Proofs.YtoopdcbgnccmiaaGreatDoor
