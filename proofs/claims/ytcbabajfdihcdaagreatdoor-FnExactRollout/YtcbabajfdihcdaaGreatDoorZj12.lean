/-
  The law on Rollout: its walk, over what both Rollout answer. No statement of the seat is proved here.
-/
import Derived.Test.YtcbabajfdihcdaaGreatDoorZj11
import Derived.Deep.CutRange
namespace Go.Proofs.YtcbabajfdihcdaaGreatDoor
open Go.ChangeShapes Go.WideShapes Go.ChangeAt Go.RowKit
set_option linter.unusedVariables false
set_option linter.unusedSimpArgs false

/-- What a Rollout answers, whatever it is. -/
def RolloutU (f : Nat) (T : World → Prop) (C0 : (List Rule) → (List Layer) → Layer → (List ByteArray) → (List Int) → (List ByteArray) → List Stage) (C1 : (List Rule) → (List Layer) → Layer → (List ByteArray) → (List Int) → (List ByteArray) → Int) : Prop := ∀ (S : Nat → Prop) (l0 : List Rule) (l1 : List Layer) (l2 : Layer) (l3 : List ByteArray) (l4 : List Int) (l5 : List ByteArray) (v0 v1 v2 v3 v4 v5 : Value) (w : World), (∀ b, S b → b < w.heap.size) → RulesAt S w v0 l0 → URulesLim 1048576 l0 → LayersAt S w v1 l1 → ULayersLim 1048576 l1 → OneLayAt S w v2 l2 → UOneLim 1048576 l2 → ZTxtsAt S w v3 l3 → UTxtsLim 1048576 l3 → NumsAt S w v4 l4 → UNumsLim 1048576 l4 → TxtsAt S w v5 l5 → UTxtsLim 1048576 l5 → (∀ W, Below w.heap.size w W → T W) →
  Calls Tryz.prog f #[v0, v1, v2, v3, v4, v5] w fun e w' => (∃ p0, e = .returned (.tuple #[p0, .int .i64 (C1 l0 l1 l2 l3 l4 l5)]) ∧ StgOwn w.heap.size w' p0 (C0 l0 l1 l2 l3 l4 l5)) ∧ Below w.heap.size w w'

set_option maxRecDepth 100000 in
set_option maxHeartbeats 16000000 in
theorem rolloutWalk {T : World → Prop} {C0 : (List Rule) → (List Layer) → Layer → (List ByteArray) → (List Int) → (List ByteArray) → List Stage} {C1 : (List Rule) → (List Layer) → Layer → (List ByteArray) → (List Int) → (List ByteArray) → Int} (hSp : RolloutU 8 T C0 C1) (hIm : RolloutU 14 T C0 C1) (hlim : ∀ l0 l1 l2 l3 l4 l5, StgLim (C0 l0 l1 l2 l3 l4 l5))
    (w : World) (v0 v1 v2 v3 v4 v5 : Value) (l0 : List Rule) (l1 : List Layer) (l2 : Layer) (l3 : List ByteArray) (l4 : List Int) (l5 : List ByteArray) (h0 : RulesAt (fun b => b < w.heap.size) w v0 l0) (hf0 : ∀ y ∈ l0, RulesFit y) (h1 : LayersAt (fun b => b < w.heap.size) w v1 l1) (hf1 : ∀ y ∈ l1, LayersFit y) (h2 : OneLayAt (fun b => b < w.heap.size) w v2 l2) (hf2 : LayersFit l2) (h3 : TxtsAt (fun b => b < w.heap.size) w v3 l3) (hf3 : ∀ y ∈ l3, TxtsFit y) (h4 : NumsAt (fun b => b < w.heap.size) w v4 l4) (hf4 : ∀ y ∈ l4, NumsFit y) (h5 : TxtsAt (fun b => b < w.heap.size) w v5 l5) (hf5 : ∀ y ∈ l5, TxtsFit y) (hT : ∀ W, Below w.heap.size w W → T W) :
    Calls Tryz.prog 3 #[v0, v1, v2, v3, v4, v5] w fun e w' => e = .returned (.bool true) ∧ Below w.heap.size w w' := by
  obtain ⟨a0, cap0, hv0⟩ := h0.shape
  subst hv0
  obtain ⟨a1, cap1, hv1⟩ := h1.shape
  subst hv1
  obtain ⟨n2, hv2, -⟩ := id h2
  subst hv2
  obtain ⟨a3, cap3, hv3⟩ := h3.shape
  subst hv3
  obtain ⟨a4, cap4, hv4⟩ := h4.shape
  subst hv4
  obtain ⟨a5, cap5, hv5⟩ := h5.shape
  subst hv5
  have hP := hlim l0 l1 l2 l3 l4 l5
  have cs := fun S v0 v1 v2 v3 v4 v5 w => hSp S l0 l1 l2 l3 l4 l5 v0 v1 v2 v3 v4 v5 w
  have ci := fun S v0 v1 v2 v3 v4 v5 w => hIm S l0 l1 l2 l3 l4 l5 v0 v1 v2 v3 v4 v5 w
  obtain ⟨P0, hPe0⟩ : ∃ P, C0 l0 l1 l2 l3 l4 l5 = P := ⟨_, rfl⟩
  rw [hPe0] at cs ci hP
  clear hPe0
  obtain ⟨P1, hPe1⟩ : ∃ P, C1 l0 l1 l2 l3 l4 l5 = P := ⟨_, rfl⟩
  rw [hPe1] at cs ci
  clear hPe1
  have HP : Hid (StgLim P0) := hP
  clear hSp hIm hlim hP
  have hml4 : (l4.length : Int) ≤ 9223372036854775807 := by have := h4.1; simp [maxLen] at this; omega
  have HT0 : Hid (∀ W, Below w.heap.size w W → T W) := hT
  have HR00 : Hid (RulesAt (fun b => b < w.heap.size) w (.slice a0 l0.length cap0) l0) := h0
  have HF0 : Hid (∀ y ∈ l0, RulesFit y) := hf0
  have HR01 : Hid (LayersAt (fun b => b < w.heap.size) w (.slice a1 l1.length cap1) l1) := h1
  have HF1 : Hid (∀ y ∈ l1, LayersFit y) := hf1
  have HR02 : Hid (OneLayAt (fun b => b < w.heap.size) w (.agg #[.string l2.name, .int .i64 l2.rank, n2]) l2) := h2
  have HF2 : Hid (LayersFit l2) := hf2
  have HR03 : Hid (TxtsAt (fun b => b < w.heap.size) w (.slice a3 l3.length cap3) l3) := h3
  have HF3 : Hid (∀ y ∈ l3, TxtsFit y) := hf3
  have HR04 : Hid (NumsAt (fun b => b < w.heap.size) w (.slice a4 l4.length cap4) l4) := h4
  have HF4 : Hid (∀ y ∈ l4, NumsFit y) := hf4
  have HR05 : Hid (TxtsAt (fun b => b < w.heap.size) w (.slice a5 l5.length cap5) l5) := h5
  have HF5 : Hid (∀ y ∈ l5, TxtsFit y) := hf5
  clear hT h0 hf0 h1 hf1 h2 hf2 h3 hf3 h4 hf4 h5 hf5
  go_enter Tryz.func3, Tryz.ntmps3
  go_upto_region 0 with fail
  go_cut [8] from 29 to 29 (fun s wx => s = .pointer (some ⟨w.heap.size, 0, none⟩) ∧ wx = w.alloc (.cells #[.string l2.name, .int .i64 l2.rank, n2] 26))
  case first =>
    go_wp2_with fail
    go_meet
    exact ⟨rfl, rfl⟩
  case rest =>
    obtain ⟨rfl, hwc⟩ := hcut
    obtain ⟨w0, hw0⟩ : ∃ w0, w0 = wc := ⟨_, rfl⟩
    subst hw0
    have h00 : Hid (Below w.heap.size w w0) := by rw [hwc]; exact (Below.refl _ w).alloc (Nat.le_refl _) _
    have hgw : w.heap.size < w0.heap.size := by rw [hwc]; simp
    have hbk : Blk w0 w.heap.size 26 #[.string l2.name, .int .i64 l2.rank, n2] := by rw [hwc]; exact heap_alloc_last w _
    have DA0 : ∀ W, Below w0.heap.size w0 W → W.cell? ⟨w.heap.size, 0, none⟩ = some (.string l2.name) := fun W hW => (hbk.below hW).cell 0
    have DA1 : ∀ W, Below w0.heap.size w0 W → W.cell? ⟨w.heap.size, 1, none⟩ = some (.int .i64 l2.rank) := fun W hW => (hbk.below hW).cell 1
    have DA2 : ∀ W, Below w0.heap.size w0 W → W.cell? ⟨w.heap.size, 2, none⟩ = some (n2) := fun W hW => (hbk.below hW).cell 2
    clear hwc hbk
    have HT : Hid (∀ W, Below w0.heap.size w0 W → T W) := fun W hW => HT0.out W (good_below h00.out hW)
    have HR0 : Hid (RulesAt (fun b => b < w0.heap.size) w0 (.slice a0 l0.length cap0) l0) := (HR00.out.keep (cells_below (fun b hb => hb) h00.out)).mono (fun b hb => Nat.lt_of_lt_of_le hb h00.out.size)
    have HR1 : Hid (LayersAt (fun b => b < w0.heap.size) w0 (.slice a1 l1.length cap1) l1) := (HR01.out.keep (cells_below (fun b hb => hb) h00.out)).mono (fun b hb => Nat.lt_of_lt_of_le hb h00.out.size)
    have HR2 : Hid (OneLayAt (fun b => b < w0.heap.size) w0 (.agg #[.string l2.name, .int .i64 l2.rank, n2]) l2) := (HR02.out.keep (cells_below (fun b hb => hb) h00.out)).mono (fun b hb => Nat.lt_of_lt_of_le hb h00.out.size)
    have HR3 : Hid (TxtsAt (fun b => b < w0.heap.size) w0 (.slice a3 l3.length cap3) l3) := (HR03.out.keep (cells_below (fun b hb => hb) h00.out)).mono (fun b hb => Nat.lt_of_lt_of_le hb h00.out.size)
    have HR4 : Hid (NumsAt (fun b => b < w0.heap.size) w0 (.slice a4 l4.length cap4) l4) := (HR04.out.keep (cells_below (fun b hb => hb) h00.out)).mono (fun b hb => Nat.lt_of_lt_of_le hb h00.out.size)
    have HR5 : Hid (TxtsAt (fun b => b < w0.heap.size) w0 (.slice a5 l5.length cap5) l5) := (HR05.out.keep (cells_below (fun b hb => hb) h00.out)).mono (fun b hb => Nat.lt_of_lt_of_le hb h00.out.size)
    clear HT0 HR00 HR01 HR02 HR03 HR04 HR05
    have ct0 : URulesLim 1048576 l0 → ∀ W, Below w0.heap.size w0 W → Calls Tryz.prog 9 #[.slice a0 l0.length cap0] W fun e w' => (∃ v', e = .returned v' ∧ CpRules W.heap.size w'.heap.size w' v' l0) ∧ Below W.heap.size W w' := fun h1 W hW =>
      URulesTo (S := fun b => b < w0.heap.size) (fun b hb => Nat.lt_of_lt_of_le hb hW.size) (HR0.out.keep (cells_below (fun b hb => hb) hW)) h1
    have ct1 : ULayersLim 1048576 l1 → ∀ W, Below w0.heap.size w0 W → Calls Tryz.prog 10 #[.slice a1 l1.length cap1] W fun e w' => (∃ v', e = .returned v' ∧ CpLayers W.heap.size w'.heap.size w' v' l1) ∧ Below W.heap.size W w' := fun h1 W hW =>
      ULayersTo (S := fun b => b < w0.heap.size) (fun b hb => Nat.lt_of_lt_of_le hb hW.size) (HR1.out.keep (cells_below (fun b hb => hb) hW)) h1
    have ct2 : UOneLim 1048576 l2 → ∀ W, Below w0.heap.size w0 W → Calls Tryz.prog 11 #[.agg #[.string l2.name, .int .i64 l2.rank, n2]] W fun e w' => (∃ v', e = .returned v' ∧ CpOne W.heap.size w'.heap.size w' v' l2) ∧ Below W.heap.size W w' := fun h1 W hW =>
      UOneTo (S := fun b => b < w0.heap.size) (fun b hb => Nat.lt_of_lt_of_le hb hW.size) (HR2.out.keep (cells_below (fun b hb => hb) hW)) h1
    have ct3 : UTxtsLim 1048576 l3 → ∀ W, Below w0.heap.size w0 W → Calls Tryz.prog 12 #[.slice a3 l3.length cap3] W fun e w' => (∃ v', e = .returned v' ∧ CpTxts W.heap.size w'.heap.size w' v' l3) ∧ Below W.heap.size W w' := fun h1 W hW =>
      UTxtsTo (S := fun b => b < w0.heap.size) (fun b hb => Nat.lt_of_lt_of_le hb hW.size) (HR3.out.keep (cells_below (fun b hb => hb) hW)) h1
    have ct4 : UNumsLim 1048576 l4 → ∀ W, Below w0.heap.size w0 W → Calls Tryz.prog 13 #[.slice a4 l4.length cap4] W fun e w' => (∃ v', e = .returned v' ∧ CpNums W.heap.size w'.heap.size w' v' l4) ∧ Below W.heap.size W w' := fun h1 W hW =>
      UNumsTo (S := fun b => b < w0.heap.size) (fun b hb => Nat.lt_of_lt_of_le hb hW.size) (HR4.out.keep (cells_below (fun b hb => hb) hW)) h1
    have ct5 : UTxtsLim 1048576 l5 → ∀ W, Below w0.heap.size w0 W → Calls Tryz.prog 12 #[.slice a5 l5.length cap5] W fun e w' => (∃ v', e = .returned v' ∧ CpTxts W.heap.size w'.heap.size w' v' l5) ∧ Below W.heap.size W w' := fun h1 W hW =>
      UTxtsTo (S := fun b => b < w0.heap.size) (fun b hb => Nat.lt_of_lt_of_le hb hW.size) (HR5.out.keep (cells_below (fun b hb => hb) hW)) h1
    by_cases hnl4 : l4.length ≤ 1048576
    case neg =>
      have hnl4' : (1048576 : Int) < (l4.length : Int) := by omega
      go_wp2_with fail
      go_ret
      exact ⟨rfl, h00.out⟩
    have hnl4' : ¬ ((1048576 : Int) < (l4.length : Int)) := by omega
    have HLM4 : Hid (UNumsLim 1048576 l4) := ⟨by omega, fun _ _ => trivial⟩
    have hbq : Below w0.heap.size w0 w0 := Below.refl _ w0
    have hr1 : (1048576 : Int) ≤ 1048576 := by omega
    have hr0 : (0 : Int) ≤ 1048576 := by omega
    have cz0 := URulesSz (w := w0) (fun b hb => Nat.lt_of_lt_of_le hb hbq.size) (HR0.out.keep (cells_below (fun b hb => hb) hbq)) HF0.out (1048576) hr0 hr1
    go_upto_region 4 with fail
    go_cut [13] from 32 to 35 (fun s3 wx => ∃ r : Int, s3 = .int .i64 r ∧ (r = -1 ∨ (0 ≤ r ∧ r ≤ 1048576 ∧ URulesLim (1048576) l0)) ∧ Below w0.heap.size w0 wx)
    case first =>
      go_wp2_with (go_at_call 4; go_must (refine cz0.mono ?_; rintro e w1 ⟨⟨r, rfl, hr⟩, hb1⟩))
      go_meet
      exact ⟨r, rfl, hr, good_below hbq hb1⟩
    case rest =>
      clear cz0
      obtain ⟨r0, rfl, hr, hbq0⟩ := hcut
      rcases hr with rfl | ⟨ha0, hc0, hok0⟩
      case inl =>
        go_wp2_with fail
        go_ret
        exact ⟨rfl, good_below h00.out hbq0⟩
      have HLM0 : Hid (URulesLim 1048576 l0) := hok0.mono (by omega)
      have hrn0 : ¬ (r0 < 0) := by omega
      clear hok0 hbq hr0 hr1
      obtain ⟨wq0, hwq0⟩ : ∃ wq, wq = wc := ⟨_, rfl⟩
      subst hwq0
      have hbq := hbq0
      have hr0 := ha0
      have hr1 : r0 ≤ 1048576 := by omega
      clear hbq0
      have cz1 := ULayersSz (w := wq0) (fun b hb => Nat.lt_of_lt_of_le hb hbq.size) (HR1.out.keep (cells_below (fun b hb => hb) hbq)) HF1.out (r0) hr0 hr1
      go_upto_region 7 with fail
      go_cut [13] from 37 to 40 (fun s3 wx => ∃ r : Int, s3 = .int .i64 r ∧ (r = -1 ∨ (0 ≤ r ∧ r ≤ r0 ∧ ULayersLim (r0) l1)) ∧ Below w0.heap.size w0 wx)
      case first =>
        go_wp2_with (go_at_call 5; go_must (refine cz1.mono ?_; rintro e w1 ⟨⟨r, rfl, hr⟩, hb1⟩))
        go_meet
        exact ⟨r, rfl, hr, good_below hbq hb1⟩
      case rest =>
        clear cz1
        obtain ⟨r1, rfl, hr, hbq1⟩ := hcut
        rcases hr with rfl | ⟨ha1, hc1, hok1⟩
        case inl =>
          go_wp2_with fail
          go_ret
          exact ⟨rfl, good_below h00.out hbq1⟩
        have HLM1 : Hid (ULayersLim 1048576 l1) := hok1.mono (by omega)
        have hrn1 : ¬ (r1 < 0) := by omega
        clear hok1 hbq hr0 hr1
        obtain ⟨wq1, hwq1⟩ : ∃ wq, wq = wc := ⟨_, rfl⟩
        subst hwq1
        have hbq := hbq1
        have hr0 := ha1
        have hr1 : r1 ≤ 1048576 := by omega
        clear hbq1
        have cz2 := UOneSz (w := wq1) (fun b hb => Nat.lt_of_lt_of_le hb hbq.size) (HR2.out.keep (cells_below (fun b hb => hb) hbq)) HF2.out (r1) hr0 hr1
        go_upto_region 10 with fail
        go_cut [13] from 42 to 45 (fun s3 wx => ∃ r : Int, s3 = .int .i64 r ∧ (r = -1 ∨ (0 ≤ r ∧ r ≤ r1 ∧ UOneLim (r1) l2)) ∧ Below w0.heap.size w0 wx)
        case first =>
          have dA0 := DA0 _ hbq
          have dA1 := DA1 _ hbq
          have dA2 := DA2 _ hbq
          go_wp2_with (go_at_call 6; go_must (refine cz2.mono ?_; rintro e w1 ⟨⟨r, rfl, hr⟩, hb1⟩))
          go_meet
          exact ⟨r, rfl, hr, good_below hbq hb1⟩
        case rest =>
          clear cz2
          obtain ⟨r2, rfl, hr, hbq2⟩ := hcut
          rcases hr with rfl | ⟨ha2, hc2, hok2⟩
          case inl =>
            go_wp2_with fail
            go_ret
            exact ⟨rfl, good_below h00.out hbq2⟩
          have HLM2 : Hid (UOneLim 1048576 l2) := hok2.mono (by omega)
          have hrn2 : ¬ (r2 < 0) := by omega
          clear hok2 hbq hr0 hr1
          obtain ⟨wq2, hwq2⟩ : ∃ wq, wq = wc := ⟨_, rfl⟩
          subst hwq2
          have hbq := hbq2
          have hr0 := ha2
          have hr1 : r2 ≤ 1048576 := by omega
          clear hbq2
          have cz3 := UTxtsSz (w := wq2) (fun b hb => Nat.lt_of_lt_of_le hb hbq.size) (HR3.out.keep (cells_below (fun b hb => hb) hbq)) HF3.out (r2) hr0 hr1
          go_upto_region 13 with fail
          go_cut [13] from 47 to 50 (fun s3 wx => ∃ r : Int, s3 = .int .i64 r ∧ (r = -1 ∨ (0 ≤ r ∧ r ≤ r2 ∧ UTxtsLim (r2) l3)) ∧ Below w0.heap.size w0 wx)
          case first =>
            go_wp2_with (go_at_call 7; go_must (refine cz3.mono ?_; rintro e w1 ⟨⟨r, rfl, hr⟩, hb1⟩))
            go_meet
            exact ⟨r, rfl, hr, good_below hbq hb1⟩
          case rest =>
            clear cz3
            obtain ⟨r3, rfl, hr, hbq3⟩ := hcut
            rcases hr with rfl | ⟨ha3, hc3, hok3⟩
            case inl =>
              go_wp2_with fail
              go_ret
              exact ⟨rfl, good_below h00.out hbq3⟩
            have HLM3 : Hid (UTxtsLim 1048576 l3) := hok3.mono (by omega)
            have hrn3 : ¬ (r3 < 0) := by omega
            clear hok3 hbq hr0 hr1
            obtain ⟨wq3, hwq3⟩ : ∃ wq, wq = wc := ⟨_, rfl⟩
            subst hwq3
            have hbq := hbq3
            have hr0 := ha3
            have hr1 : r3 ≤ 1048576 := by omega
            clear hbq3
            have cz5 := UTxtsSz (w := wq3) (fun b hb => Nat.lt_of_lt_of_le hb hbq.size) (HR5.out.keep (cells_below (fun b hb => hb) hbq)) HF5.out (r3) hr0 hr1
            go_upto_region 16 with fail
            go_cut [13] from 52 to 55 (fun s3 wx => ∃ r : Int, s3 = .int .i64 r ∧ (r = -1 ∨ (0 ≤ r ∧ r ≤ r3 ∧ UTxtsLim (r3) l5)) ∧ Below w0.heap.size w0 wx)
            case first =>
              go_wp2_with (go_at_call 7; go_must (refine cz5.mono ?_; rintro e w1 ⟨⟨r, rfl, hr⟩, hb1⟩))
              go_meet
              exact ⟨r, rfl, hr, good_below hbq hb1⟩
            case rest =>
              clear cz5
              obtain ⟨r5, rfl, hr, hbq5⟩ := hcut
              rcases hr with rfl | ⟨ha5, hc5, hok5⟩
              case inl =>
                go_wp2_with fail
                go_ret
                exact ⟨rfl, good_below h00.out hbq5⟩
              have HLM5 : Hid (UTxtsLim 1048576 l5) := hok5.mono (by omega)
              have hrn5 : ¬ (r5 < 0) := by omega
              clear hok5 hbq hr0 hr1
              obtain ⟨wq5, hwq5⟩ : ∃ wq, wq = wc := ⟨_, rfl⟩
              subst hwq5
              have hbq := hbq5
              have hr0 := ha5
              have hr1 : r5 ≤ 1048576 := by omega
              clear hbq5
              have cs' := fun S v0 v1 v2 v3 v4 v5 W (hW : Below w0.heap.size w0 W) hS h0 h1 h2 h3 h4 h5 => cs S v0 v1 v2 v3 v4 v5 W hS h0 HLM0.out h1 HLM1.out h2 HLM2.out h3 HLM3.out h4 HLM4.out h5 HLM5.out (fun W' hW' => HT.out W' (good_below hW hW'))
              have ci' := fun S v0 v1 v2 v3 v4 v5 W (hW : Below w0.heap.size w0 W) hS h0 h1 h2 h3 h4 h5 => ci S v0 v1 v2 v3 v4 v5 W hS h0 HLM0.out h1 HLM1.out h2 HLM2.out h3 HLM3.out h4 HLM4.out h5 HLM5.out (fun W' hW' => HT.out W' (good_below hW hW'))
              clear cs ci
              have KPA : Hid (∀ w', Below w0.heap.size w0 w' → w'.cell? ⟨w.heap.size, 0, none⟩ = some (.string l2.name) ∧ w'.cell? ⟨w.heap.size, 1, none⟩ = some (.int .i64 l2.rank) ∧ w'.cell? ⟨w.heap.size, 2, none⟩ = some (n2)) := fun W hW => ⟨DA0 W hW, DA1 W hW, DA2 W hW⟩
              go_upto_region 19 with fail
              go_cut [14, 15] from 57 to 73 (fun s14 s15 wx => s15 = .int .i64 P1 ∧ (∃ B, StgOwn B wx s14 P0) ∧ Below w0.heap.size w0 wx)
              case first =>
                have hbqd : Below w0.heap.size w0 wq5.drew := hbq.drew
                go_region_held3 (fun w' => w'.cell? ⟨w.heap.size, 0, none⟩ = some (.string l2.name) ∧ w'.cell? ⟨w.heap.size, 1, none⟩ = some (.int .i64 l2.rank) ∧ w'.cell? ⟨w.heap.size, 2, none⟩ = some (n2)) (first | exact KPA.out _ Bs | exact KPA.out _ Bs5 | exact KPA.out _ Bs4 | exact KPA.out _ Bs3 | exact KPA.out _ Bs2 | exact KPA.out _ Bs1 | exact KPA.out _ Bs0 | exact KPA.out _ hbqd) (first
                                | (go_at_call 8; have hchk := bs5; refine (cs' (fun b => b < ws5.heap.size) _ _ _ _ _ _ _ Bs5 (fun b hb => hb) ((CpRules.at ks0_5).mono (S' := fun b => b < ws5.heap.size) (fun b hb => Nat.lt_of_lt_of_le hb.2 (us0_5))) ((CpLayers.at ks1_5).mono (S' := fun b => b < ws5.heap.size) (fun b hb => Nat.lt_of_lt_of_le hb.2 (us1_5))) ((CpOne.at ks2_5).mono (S' := fun b => b < ws5.heap.size) (fun b hb => Nat.lt_of_lt_of_le hb.2 (us2_5))) ((CpTxts.zat ks3_5).mono (S' := fun b => b < ws5.heap.size) (fun b hb => Nat.lt_of_lt_of_le hb.2 (us3_5))) ((CpNums.at ks4_5).mono (S' := fun b => b < ws5.heap.size) (fun b hb => Nat.lt_of_lt_of_le hb.2 (us4_5))) ((CpTxts.at ks5).mono (S' := fun b => b < ws5.heap.size) (fun b hb => Nat.lt_of_lt_of_le hb.2 (Nat.le_refl _)))).mono ?_; rintro e ws ⟨⟨qs, rfl, os⟩, bs⟩; have Bs := good_below Bs5 bs)
                                | (go_at_call 12; have hchk := bs4; refine (ct5 HLM5.out _ Bs4).mono ?_; rintro e ws5 ⟨⟨ys5, rfl, ks5⟩, bs5⟩; have Bs5 := good_below Bs4 bs5; have ks0_5 := CpRules.below ks0_4 bs5 (us0_4); have us0_5 := Nat.le_trans (us0_4) bs5.size; clear ks0_4; clear us0_4; have ks1_5 := CpLayers.below ks1_4 bs5 (us1_4); have us1_5 := Nat.le_trans (us1_4) bs5.size; clear ks1_4; clear us1_4; have ks2_5 := CpOne.below ks2_4 bs5 (us2_4); have us2_5 := Nat.le_trans (us2_4) bs5.size; clear ks2_4; clear us2_4; have ks3_5 := CpTxts.below ks3_4 bs5 (us3_4); have us3_5 := Nat.le_trans (us3_4) bs5.size; clear ks3_4; clear us3_4; have ks4_5 := CpNums.below ks4 bs5 (Nat.le_refl _); have us4_5 := Nat.le_trans (Nat.le_refl _) bs5.size; clear ks4)
                                | (go_at_call 13; have hchk := bs3; refine (ct4 HLM4.out _ Bs3).mono ?_; rintro e ws4 ⟨⟨ys4, rfl, ks4⟩, bs4⟩; have Bs4 := good_below Bs3 bs4; have ks0_4 := CpRules.below ks0_3 bs4 (us0_3); have us0_4 := Nat.le_trans (us0_3) bs4.size; clear ks0_3; clear us0_3; have ks1_4 := CpLayers.below ks1_3 bs4 (us1_3); have us1_4 := Nat.le_trans (us1_3) bs4.size; clear ks1_3; clear us1_3; have ks2_4 := CpOne.below ks2_3 bs4 (us2_3); have us2_4 := Nat.le_trans (us2_3) bs4.size; clear ks2_3; clear us2_3; have ks3_4 := CpTxts.below ks3 bs4 (Nat.le_refl _); have us3_4 := Nat.le_trans (Nat.le_refl _) bs4.size; clear ks3)
                                | (go_at_call 12; have hchk := bs2; refine (ct3 HLM3.out _ Bs2).mono ?_; rintro e ws3 ⟨⟨ys3, rfl, ks3⟩, bs3⟩; have Bs3 := good_below Bs2 bs3; have ks0_3 := CpRules.below ks0_2 bs3 (us0_2); have us0_3 := Nat.le_trans (us0_2) bs3.size; clear ks0_2; clear us0_2; have ks1_3 := CpLayers.below ks1_2 bs3 (us1_2); have us1_3 := Nat.le_trans (us1_2) bs3.size; clear ks1_2; clear us1_2; have ks2_3 := CpOne.below ks2 bs3 (Nat.le_refl _); have us2_3 := Nat.le_trans (Nat.le_refl _) bs3.size; clear ks2)
                                | (go_at_call 11; have hchk := bs1; refine (ct2 HLM2.out _ Bs1).mono ?_; rintro e ws2 ⟨⟨ys2, rfl, ks2⟩, bs2⟩; have Bs2 := good_below Bs1 bs2; have ks0_2 := CpRules.below ks0_1 bs2 (us0_1); have us0_2 := Nat.le_trans (us0_1) bs2.size; clear ks0_1; clear us0_1; have ks1_2 := CpLayers.below ks1 bs2 (Nat.le_refl _); have us1_2 := Nat.le_trans (Nat.le_refl _) bs2.size; clear ks1)
                                | (go_at_call 10; have hchk := bs0; refine (ct1 HLM1.out _ Bs0).mono ?_; rintro e ws1 ⟨⟨ys1, rfl, ks1⟩, bs1⟩; have Bs1 := good_below Bs0 bs1; have ks0_1 := CpRules.below ks0 bs1 (Nat.le_refl _); have us0_1 := Nat.le_trans (Nat.le_refl _) bs1.size; clear ks0)
                                | (go_at_call 9; refine (ct0 HLM0.out _ hbqd).mono ?_; rintro e ws0 ⟨⟨ys0, rfl, ks0⟩, bs0⟩; have Bs0 := good_below hbqd bs0))
                all_goals (go_wp2_with fail; go_meet; exact ⟨rfl, ⟨_, os⟩, Bs⟩)
              case rest =>
                obtain ⟨rfl, ⟨Bw, ow⟩, hb5⟩ := hcut
                obtain ⟨aw, cw, hvw⟩ := StgOwn.shape ow
                subst hvw
                as_aux_lemma =>
                  clear cs' hbq
                  obtain ⟨w5, hw5⟩ : ∃ w5, w5 = wc := ⟨_, rfl⟩
                  subst hw5
                  have K5 : Below w5.heap.size w5 w5 := Below.refl _ _
                  have dA0 := DA0 _ (good_below hb5 K5)
                  have dA1 := DA1 _ (good_below hb5 K5)
                  have dA2 := DA2 _ (good_below hb5 K5)
                  go_upto_region 22 with (first
                                        | (go_at_call 10; have hchk := bx0; refine (ct1 HLM1.out _ (good_below hb5 Kx0)).mono ?_; rintro e wx1 ⟨⟨yx1, rfl, kx1⟩, bx1⟩; have Bx1 : Hid (wx0.heap.size ≤ wx1.heap.size) := bx1.size; have Lw1 : Hid (w5.heap.size ≤ wx0.heap.size) := Kx0.size; have Kx1 := good_below Kx0 bx1; have X0_x1 := CpRules.below kx0 bx1 Ux0; have uX0_x1 := Nat.le_trans Ux0 bx1.size; have Ux1 : wx1.heap.size ≤ wx1.heap.size := Nat.le_refl _; clear Kx0 dA0 dA1 dA2 kx0 Ux0; have dA0 := DA0 _ (good_below hb5 Kx1); have dA1 := DA1 _ (good_below hb5 Kx1); have dA2 := DA2 _ (good_below hb5 Kx1))
                                        | (go_at_call 9; refine (ct0 HLM0.out _ (good_below hb5 K5)).mono ?_; rintro e wx0 ⟨⟨yx0, rfl, kx0⟩, bx0⟩; have Bx0 : Hid (w5.heap.size ≤ wx0.heap.size) := bx0.size; have Lw0 : Hid (w5.heap.size ≤ w5.heap.size) := K5.size; have Kx0 := good_below K5 bx0; have Ux0 : wx0.heap.size ≤ wx0.heap.size := Nat.le_refl _; clear dA0 dA1 dA2; have dA0 := DA0 _ (good_below hb5 Kx0); have dA1 := DA1 _ (good_below hb5 Kx0); have dA2 := DA2 _ (good_below hb5 Kx0)))
                  go_cut [18] from 77 to 79 (fun s wx => ∃ gx nx, s = .pointer (some ⟨gx, 0, none⟩) ∧ CpBox gx nx wx1.heap.size wx.heap.size wx l2 ∧ Below wx1.heap.size wx1 wx)
                  case first =>
                    go_wp2_with (go_at_call 11; go_must (refine (ct2 HLM2.out _ (good_below hb5 Kx1)).mono ?_; rintro e wt ⟨⟨y, rfl, k⟩, b⟩; obtain ⟨nx, rfl, kE⟩ := k; obtain ⟨ax, cx, rfl⟩ := (CpEntrys.at kE).shape))
                    go_meet
                    have hal := (Below.refl wt.heap.size wt).alloc (Nat.le_refl _) (.cells #[.string l2.name, .int .i64 l2.rank, .slice ax l2.entries.length cx] 42)
                    obtain ⟨g, g1, g2, g3⟩ := CpEntrys.below kE hal (Nat.le_refl _)
                    exact ⟨wt.heap.size, _, rfl, ⟨b.size, by simp, heap_alloc_last wt _, g, g1, by simp; omega, g3⟩, b.alloc b.size _⟩
                  case rest =>
                    obtain ⟨gx, nx, rfl, kx2, bx2⟩ := hcut
                    obtain ⟨wx2, hwx2⟩ : ∃ q, q = wc := ⟨_, rfl⟩
                    subst hwx2
                    have Bx2 : Hid (wx1.heap.size ≤ wx2.heap.size) := bx2.size
                    have Lw2 : Hid (w5.heap.size ≤ wx1.heap.size) := Kx1.size
                    have Kx2 := good_below Kx1 bx2
                    have X0_x2 := CpRules.below X0_x1 bx2 uX0_x1
                    have uX0_x2 := Nat.le_trans uX0_x1 bx2.size
                    have X1_x2 := CpLayers.below kx1 bx2 Ux1
                    have uX1_x2 := Nat.le_trans Ux1 bx2.size
                    have Ux2 : wx2.heap.size ≤ wx2.heap.size := Nat.le_refl _
                    clear Kx1 dA0 dA1 dA2 X0_x1 uX0_x1 kx1 Ux1
                    have dA0 := DA0 _ (good_below hb5 Kx2)
                    have dA1 := DA1 _ (good_below hb5 Kx2)
                    have dA2 := DA2 _ (good_below hb5 Kx2)
                    have eX0 := CpBox.c0 kx2
                    have eX1 := CpBox.c1 kx2
                    have eX2 := CpBox.c2 kx2
                    go_upto_region 33 with (first
                                            | (go_at_call 17; have hchk := bf1; refine (eqLayerS (fun b hb => Nat.lt_of_lt_of_le hb.2 uX1_f1) (fun b hb => hb.2) (CpLayers.at X1_f1) (CpLayers.at kf1)).mono ?_; rintro e wh1 ⟨rfl, bh1⟩; have Kh1 := good_below Kf1 bh1; have X0_h1 := CpRules.below X0_f1 bh1 uX0_f1; have uX0_h1 := Nat.le_trans uX0_f1 bh1.size; have X1_h1 := CpLayers.below X1_f1 bh1 uX1_f1; have uX1_h1 := Nat.le_trans uX1_f1 bh1.size; have X2_h1 := CpBox.below X2_f1 bh1 uX2_f1; have uX2_h1 := Nat.le_trans uX2_f1 bh1.size; have X3_h1 := CpTxts.below X3_f1 bh1 uX3_f1; have uX3_h1 := Nat.le_trans uX3_f1 bh1.size; have X4_h1 := CpNums.below X4_f1 bh1 uX4_f1; have uX4_h1 := Nat.le_trans uX4_f1 bh1.size; have X5_h1 := CpTxts.below X5_f1 bh1 uX5_f1; have uX5_h1 := Nat.le_trans uX5_f1 bh1.size; have G_h1 := StgOwn.below G_f1 bh1; clear Kf1 dA0 dA1 dA2 eX0 eX1 eX2 X0_f1 uX0_f1 X1_f1 uX1_f1 X2_f1 uX2_f1 X3_f1 uX3_f1 X4_f1 uX4_f1 X5_f1 uX5_f1 G_f1 kf1; have dA0 := DA0 _ (good_below hb5 Kh1); have dA1 := DA1 _ (good_below hb5 Kh1); have dA2 := DA2 _ (good_below hb5 Kh1); have eX0 := CpBox.c0 X2_h1; have eX1 := CpBox.c1 X2_h1; have eX2 := CpBox.c2 X2_h1)
                                            | (go_at_call 10; have hchk := bh0; refine (ct1 HLM1.out _ (good_below hb5 Kh0)).mono ?_; rintro e wf1 ⟨⟨yf1, rfl, kf1⟩, bf1⟩; have Kf1 := good_below Kh0 bf1; have X0_f1 := CpRules.below X0_h0 bf1 uX0_h0; have uX0_f1 := Nat.le_trans uX0_h0 bf1.size; have X1_f1 := CpLayers.below X1_h0 bf1 uX1_h0; have uX1_f1 := Nat.le_trans uX1_h0 bf1.size; have X2_f1 := CpBox.below X2_h0 bf1 uX2_h0; have uX2_f1 := Nat.le_trans uX2_h0 bf1.size; have X3_f1 := CpTxts.below X3_h0 bf1 uX3_h0; have uX3_f1 := Nat.le_trans uX3_h0 bf1.size; have X4_f1 := CpNums.below X4_h0 bf1 uX4_h0; have uX4_f1 := Nat.le_trans uX4_h0 bf1.size; have X5_f1 := CpTxts.below X5_h0 bf1 uX5_h0; have uX5_f1 := Nat.le_trans uX5_h0 bf1.size; have G_f1 := StgOwn.below G_h0 bf1; clear Kh0 dA0 dA1 dA2 eX0 eX1 eX2 X0_h0 uX0_h0 X1_h0 uX1_h0 X2_h0 uX2_h0 X3_h0 uX3_h0 X4_h0 uX4_h0 X5_h0 uX5_h0 G_h0; have dA0 := DA0 _ (good_below hb5 Kf1); have dA1 := DA1 _ (good_below hb5 Kf1); have dA2 := DA2 _ (good_below hb5 Kf1); have eX0 := CpBox.c0 X2_f1; have eX1 := CpBox.c1 X2_f1; have eX2 := CpBox.c2 X2_f1)
                                            | (go_at_call 16; have hchk := bf0; refine (eqRuleS (fun b hb => Nat.lt_of_lt_of_le hb.2 uX0_f0) (fun b hb => hb.2) (CpRules.at X0_f0) (CpRules.at kf0)).mono ?_; rintro e wh0 ⟨rfl, bh0⟩; have Kh0 := good_below Kf0 bh0; have X0_h0 := CpRules.below X0_f0 bh0 uX0_f0; have uX0_h0 := Nat.le_trans uX0_f0 bh0.size; have X1_h0 := CpLayers.below X1_f0 bh0 uX1_f0; have uX1_h0 := Nat.le_trans uX1_f0 bh0.size; have X2_h0 := CpBox.below X2_f0 bh0 uX2_f0; have uX2_h0 := Nat.le_trans uX2_f0 bh0.size; have X3_h0 := CpTxts.below X3_f0 bh0 uX3_f0; have uX3_h0 := Nat.le_trans uX3_f0 bh0.size; have X4_h0 := CpNums.below X4_f0 bh0 uX4_f0; have uX4_h0 := Nat.le_trans uX4_f0 bh0.size; have X5_h0 := CpTxts.below X5_f0 bh0 uX5_f0; have uX5_h0 := Nat.le_trans uX5_f0 bh0.size; have G_h0 := StgOwn.below G_f0 bh0; clear Kf0 dA0 dA1 dA2 eX0 eX1 eX2 X0_f0 uX0_f0 X1_f0 uX1_f0 X2_f0 uX2_f0 X3_f0 uX3_f0 X4_f0 uX4_f0 X5_f0 uX5_f0 G_f0 kf0; have dA0 := DA0 _ (good_below hb5 Kh0); have dA1 := DA1 _ (good_below hb5 Kh0); have dA2 := DA2 _ (good_below hb5 Kh0); have eX0 := CpBox.c0 X2_h0; have eX1 := CpBox.c1 X2_h0; have eX2 := CpBox.c2 X2_h0)
                                            | (go_at_call 9; have hchk := be; refine (ct0 HLM0.out _ (good_below hb5 Ke)).mono ?_; rintro e wf0 ⟨⟨yf0, rfl, kf0⟩, bf0⟩; have Kf0 := good_below Ke bf0; have X0_f0 := CpRules.below X0_e bf0 uX0_e; have uX0_f0 := Nat.le_trans uX0_e bf0.size; have X1_f0 := CpLayers.below X1_e bf0 uX1_e; have uX1_f0 := Nat.le_trans uX1_e bf0.size; have X2_f0 := CpBox.below X2_e bf0 uX2_e; have uX2_f0 := Nat.le_trans uX2_e bf0.size; have X3_f0 := CpTxts.below X3_e bf0 uX3_e; have uX3_f0 := Nat.le_trans uX3_e bf0.size; have X4_f0 := CpNums.below X4_e bf0 uX4_e; have uX4_f0 := Nat.le_trans uX4_e bf0.size; have X5_f0 := CpTxts.below X5_e bf0 uX5_e; have uX5_f0 := Nat.le_trans uX5_e bf0.size; have G_f0 := StgOwn.below G_e bf0; clear Ke dA0 dA1 dA2 eX0 eX1 eX2 X0_e uX0_e X1_e uX1_e X2_e uX2_e X3_e uX3_e X4_e uX4_e X5_e uX5_e G_e; have dA0 := DA0 _ (good_below hb5 Kf0); have dA1 := DA1 _ (good_below hb5 Kf0); have dA2 := DA2 _ (good_below hb5 Kf0); have eX0 := CpBox.c0 X2_f0; have eX1 := CpBox.c1 X2_f0; have eX2 := CpBox.c2 X2_f0)
                                            | (go_at_call 15; have hchk := bg; refine (StgEq og (StgOwn.below ow Kg)).mono ?_; rintro e we ⟨rfl, be⟩; have Ke := good_below Kg be; have X0_e := CpRules.below X0_g be uX0_g; have uX0_e := Nat.le_trans uX0_g be.size; have X1_e := CpLayers.below X1_g be uX1_g; have uX1_e := Nat.le_trans uX1_g be.size; have X2_e := CpBox.below X2_g be uX2_g; have uX2_e := Nat.le_trans uX2_g be.size; have X3_e := CpTxts.below X3_g be uX3_g; have uX3_e := Nat.le_trans uX3_g be.size; have X4_e := CpNums.below X4_g be uX4_g; have uX4_e := Nat.le_trans uX4_g be.size; have X5_e := CpTxts.below X5_g be uX5_g; have uX5_e := Nat.le_trans uX5_g be.size; have G_e := StgOwn.below og be; clear Kg dA0 dA1 dA2 eX0 eX1 eX2 X0_g uX0_g X1_g uX1_g X2_g uX2_g X3_g uX3_g X4_g uX4_g X5_g uX5_g og; have dA0 := DA0 _ (good_below hb5 Ke); have dA1 := DA1 _ (good_below hb5 Ke); have dA2 := DA2 _ (good_below hb5 Ke); have eX0 := CpBox.c0 X2_e; have eX1 := CpBox.c1 X2_e; have eX2 := CpBox.c2 X2_e)
                                            | (go_at_call 14; have hchk := bx5; refine (ci' (fun b => b < wx5.heap.size) _ _ _ _ _ _ _ (good_below hb5 Kx5) (fun b hb => hb) ((CpRules.at X0_x5).mono (S' := fun b => b < wx5.heap.size) (fun b hb => Nat.lt_of_lt_of_le hb.2 uX0_x5)) ((CpLayers.at X1_x5).mono (S' := fun b => b < wx5.heap.size) (fun b hb => Nat.lt_of_lt_of_le hb.2 uX1_x5)) ((CpBox.at X2_x5).mono (S' := fun b => b < wx5.heap.size) (fun b hb => Nat.lt_of_lt_of_le hb.2 uX2_x5)) ((CpTxts.zat X3_x5).mono (S' := fun b => b < wx5.heap.size) (fun b hb => Nat.lt_of_lt_of_le hb.2 uX3_x5)) ((CpNums.at X4_x5).mono (S' := fun b => b < wx5.heap.size) (fun b hb => Nat.lt_of_lt_of_le hb.2 uX4_x5)) ((CpTxts.at kx5).mono (S' := fun b => b < wx5.heap.size) (fun b hb => Nat.lt_of_lt_of_le hb.2 Ux5))).mono ?_; rintro e wg ⟨⟨qg, rfl, og⟩, bg⟩; have HWX : Hid (w5.heap.size ≤ wx5.heap.size) := Kx5.size; have Kg := good_below Kx5 bg; have X0_g := CpRules.below X0_x5 bg uX0_x5; have uX0_g := Nat.le_trans uX0_x5 bg.size; have X1_g := CpLayers.below X1_x5 bg uX1_x5; have uX1_g := Nat.le_trans uX1_x5 bg.size; have X2_g := CpBox.below X2_x5 bg uX2_x5; have uX2_g := Nat.le_trans uX2_x5 bg.size; have X3_g := CpTxts.below X3_x5 bg uX3_x5; have uX3_g := Nat.le_trans uX3_x5 bg.size; have X4_g := CpNums.below X4_x5 bg uX4_x5; have uX4_g := Nat.le_trans uX4_x5 bg.size; have X5_g := CpTxts.below kx5 bg Ux5; have uX5_g := Nat.le_trans Ux5 bg.size; obtain ⟨ag, cg, hvg⟩ := StgOwn.shape og; subst hvg; clear Kx5 dA0 dA1 dA2 eX0 eX1 eX2 X0_x5 uX0_x5 X1_x5 uX1_x5 X2_x5 uX2_x5 X3_x5 uX3_x5 X4_x5 uX4_x5 kx5 Ux5; have dA0 := DA0 _ (good_below hb5 Kg); have dA1 := DA1 _ (good_below hb5 Kg); have dA2 := DA2 _ (good_below hb5 Kg); have eX0 := CpBox.c0 X2_g; have eX1 := CpBox.c1 X2_g; have eX2 := CpBox.c2 X2_g)
                                            | (go_at_call 12; have hchk := bx4; refine (ct5 HLM5.out _ (good_below hb5 Kx4)).mono ?_; rintro e wx5 ⟨⟨yx5, rfl, kx5⟩, bx5⟩; have Bx5 : Hid (wx4.heap.size ≤ wx5.heap.size) := bx5.size; have Lw5 : Hid (w5.heap.size ≤ wx4.heap.size) := Kx4.size; have Kx5 := good_below Kx4 bx5; have X0_x5 := CpRules.below X0_x4 bx5 uX0_x4; have uX0_x5 := Nat.le_trans uX0_x4 bx5.size; have X1_x5 := CpLayers.below X1_x4 bx5 uX1_x4; have uX1_x5 := Nat.le_trans uX1_x4 bx5.size; have X2_x5 := CpBox.below X2_x4 bx5 uX2_x4; have uX2_x5 := Nat.le_trans uX2_x4 bx5.size; have X3_x5 := CpTxts.below X3_x4 bx5 uX3_x4; have uX3_x5 := Nat.le_trans uX3_x4 bx5.size; have X4_x5 := CpNums.below kx4 bx5 Ux4; have uX4_x5 := Nat.le_trans Ux4 bx5.size; have Ux5 : wx5.heap.size ≤ wx5.heap.size := Nat.le_refl _; clear Kx4 dA0 dA1 dA2 eX0 eX1 eX2 X0_x4 uX0_x4 X1_x4 uX1_x4 X2_x4 uX2_x4 X3_x4 uX3_x4 kx4 Ux4; have dA0 := DA0 _ (good_below hb5 Kx5); have dA1 := DA1 _ (good_below hb5 Kx5); have dA2 := DA2 _ (good_below hb5 Kx5); have eX0 := CpBox.c0 X2_x5; have eX1 := CpBox.c1 X2_x5; have eX2 := CpBox.c2 X2_x5)
                                            | (go_at_call 13; have hchk := bx3; refine (ct4 HLM4.out _ (good_below hb5 Kx3)).mono ?_; rintro e wx4 ⟨⟨yx4, rfl, kx4⟩, bx4⟩; have Bx4 : Hid (wx3.heap.size ≤ wx4.heap.size) := bx4.size; have Lw4 : Hid (w5.heap.size ≤ wx3.heap.size) := Kx3.size; have Kx4 := good_below Kx3 bx4; have X0_x4 := CpRules.below X0_x3 bx4 uX0_x3; have uX0_x4 := Nat.le_trans uX0_x3 bx4.size; have X1_x4 := CpLayers.below X1_x3 bx4 uX1_x3; have uX1_x4 := Nat.le_trans uX1_x3 bx4.size; have X2_x4 := CpBox.below X2_x3 bx4 uX2_x3; have uX2_x4 := Nat.le_trans uX2_x3 bx4.size; have X3_x4 := CpTxts.below kx3 bx4 Ux3; have uX3_x4 := Nat.le_trans Ux3 bx4.size; have Ux4 : wx4.heap.size ≤ wx4.heap.size := Nat.le_refl _; clear Kx3 dA0 dA1 dA2 eX0 eX1 eX2 X0_x3 uX0_x3 X1_x3 uX1_x3 X2_x3 uX2_x3 kx3 Ux3; have dA0 := DA0 _ (good_below hb5 Kx4); have dA1 := DA1 _ (good_below hb5 Kx4); have dA2 := DA2 _ (good_below hb5 Kx4); have eX0 := CpBox.c0 X2_x4; have eX1 := CpBox.c1 X2_x4; have eX2 := CpBox.c2 X2_x4)
                                            | (go_at_call 12; have hchk := bx2; refine (ct3 HLM3.out _ (good_below hb5 Kx2)).mono ?_; rintro e wx3 ⟨⟨yx3, rfl, kx3⟩, bx3⟩; have Bx3 : Hid (wx2.heap.size ≤ wx3.heap.size) := bx3.size; have Lw3 : Hid (w5.heap.size ≤ wx2.heap.size) := Kx2.size; have Kx3 := good_below Kx2 bx3; have X0_x3 := CpRules.below X0_x2 bx3 uX0_x2; have uX0_x3 := Nat.le_trans uX0_x2 bx3.size; have X1_x3 := CpLayers.below X1_x2 bx3 uX1_x2; have uX1_x3 := Nat.le_trans uX1_x2 bx3.size; have X2_x3 := CpBox.below kx2 bx3 Ux2; have uX2_x3 := Nat.le_trans Ux2 bx3.size; have Ux3 : wx3.heap.size ≤ wx3.heap.size := Nat.le_refl _; clear Kx2 dA0 dA1 dA2 eX0 eX1 eX2 X0_x2 uX0_x2 X1_x2 uX1_x2 kx2 Ux2; have dA0 := DA0 _ (good_below hb5 Kx3); have dA1 := DA1 _ (good_below hb5 Kx3); have dA2 := DA2 _ (good_below hb5 Kx3); have eX0 := CpBox.c0 X2_x3; have eX1 := CpBox.c1 X2_x3; have eX2 := CpBox.c2 X2_x3))
                    go_cut [118] from 114 to 119 (fun s wx => s = .bool false ∧ Below wh1.heap.size wh1 wx)
                    case first =>
                      have KPX : Hid (∀ w', Below wh1.heap.size wh1 w' → w'.cell? ⟨w.heap.size, 0, none⟩ = some (.string l2.name) ∧ w'.cell? ⟨w.heap.size, 1, none⟩ = some (.int .i64 l2.rank) ∧ w'.cell? ⟨w.heap.size, 2, none⟩ = some (n2) ∧ w'.cell? ⟨gx, 0, none⟩ = some (.string l2.name) ∧ w'.cell? ⟨gx, 1, none⟩ = some (.int .i64 l2.rank) ∧ w'.cell? ⟨gx, 2, none⟩ = some (nx)) := fun W hW => ⟨DA0 W (good_below hb5 (good_below Kh1 hW)), DA1 W (good_below hb5 (good_below Kh1 hW)), DA2 W (good_below hb5 (good_below Kh1 hW)), CpBox.c0 (CpBox.below X2_h1 hW uX2_h1), CpBox.c1 (CpBox.below X2_h1 hW uX2_h1), CpBox.c2 (CpBox.below X2_h1 hW uX2_h1)⟩
                      have hd : Below wh1.heap.size wh1 wh1.drew := (Below.refl _ _).drew
                      clear dA0 dA1 dA2 eX0 eX1 eX2
                      go_region_held3 (fun w' => w'.cell? ⟨w.heap.size, 0, none⟩ = some (.string l2.name) ∧ w'.cell? ⟨w.heap.size, 1, none⟩ = some (.int .i64 l2.rank) ∧ w'.cell? ⟨w.heap.size, 2, none⟩ = some (n2) ∧ w'.cell? ⟨gx, 0, none⟩ = some (.string l2.name) ∧ w'.cell? ⟨gx, 1, none⟩ = some (.int .i64 l2.rank) ∧ w'.cell? ⟨gx, 2, none⟩ = some (nx)) (first | exact KPX.out _ Bb | exact KPX.out _ Ba | exact KPX.out _ hd) (first
                                                | (go_at_call 18; have hchk := ba; refine (eqOne (fun b hb => Nat.lt_of_lt_of_le hb.2 (Nat.le_trans uX2_h1 Ba.size)) (fun b hb => hb.2) (CpBox.at (CpBox.below X2_h1 Ba uX2_h1)) (CpOne.at ⟨na, rfl, kE⟩)).mono ?_; rintro e wb ⟨rfl, bb⟩; have Bb := good_below Ba bb)
                                                | (go_at_call 11; refine (ct2 HLM2.out _ (good_below hb5 (good_below Kh1 hd))).mono ?_; rintro e wa ⟨⟨ya, rfl, ka⟩, ba⟩; have Ba := good_below hd ba; obtain ⟨na, rfl, kE⟩ := ka))
                      all_goals (go_wp2_with fail; go_meet; exact ⟨rfl, Bb⟩)
                    case rest =>
                      obtain ⟨rfl, bh2⟩ := hcut
                      obtain ⟨wh2, hwh2⟩ : ∃ q, q = wc := ⟨_, rfl⟩
                      subst hwh2
                      have Kh2 := good_below Kh1 bh2
                      have X0_h2 := CpRules.below X0_h1 bh2 uX0_h1
                      have uX0_h2 := Nat.le_trans uX0_h1 bh2.size
                      have X1_h2 := CpLayers.below X1_h1 bh2 uX1_h1
                      have uX1_h2 := Nat.le_trans uX1_h1 bh2.size
                      have X2_h2 := CpBox.below X2_h1 bh2 uX2_h1
                      have uX2_h2 := Nat.le_trans uX2_h1 bh2.size
                      have X3_h2 := CpTxts.below X3_h1 bh2 uX3_h1
                      have uX3_h2 := Nat.le_trans uX3_h1 bh2.size
                      have X4_h2 := CpNums.below X4_h1 bh2 uX4_h1
                      have uX4_h2 := Nat.le_trans uX4_h1 bh2.size
                      have X5_h2 := CpTxts.below X5_h1 bh2 uX5_h1
                      have uX5_h2 := Nat.le_trans uX5_h1 bh2.size
                      have G_h2 := StgOwn.below G_h1 bh2
                      clear Kh1 dA0 dA1 dA2 eX0 eX1 eX2 X0_h1 uX0_h1 X1_h1 uX1_h1 X2_h1 uX2_h1 X3_h1 uX3_h1 X4_h1 uX4_h1 X5_h1 uX5_h1 G_h1
                      have dA0 := DA0 _ (good_below hb5 Kh2)
                      have dA1 := DA1 _ (good_below hb5 Kh2)
                      have dA2 := DA2 _ (good_below hb5 Kh2)
                      have eX0 := CpBox.c0 X2_h2
                      have eX1 := CpBox.c1 X2_h2
                      have eX2 := CpBox.c2 X2_h2
                      go_upto_region 58 with (first
                                                | (go_at_call 27; have hchk := oN; refine (StgHeld dn).mono ?_; rintro e wp ⟨rfl, bp⟩; have Kp := good_below Kn bp; have D_p := StgMkd.below dn bp; clear Kn dA0 dA1 dA2 dn; have dA0 := DA0 _ (good_below hb5 Kp); have dA1 := DA1 _ (good_below hb5 Kp); have dA2 := DA2 _ (good_below hb5 Kp))
                                                | (go_at_call 26; have hchk := bi; refine (StgMark HP.out G_i).mono ?_; rintro e wn ⟨⟨TT, rfl, dn⟩, oN⟩; have Kn := Below.trans Ki (OutS.below oN (fun b hb => Nat.le_trans HWX.out hb) Ki.size); have hnegT : ¬ ((TT : Int) < 0) := (by omega); clear Ki G_i dA0 dA1 dA2; have dA0 := DA0 _ (good_below hb5 Kn); have dA1 := DA1 _ (good_below hb5 Kn); have dA2 := DA2 _ (good_below hb5 Kn))
                                                | (go_at_call 15; have hchk := om5; refine (StgEq G_m5 (StgOwn.below ow Km5)).mono ?_; rintro e wi ⟨rfl, bi⟩; have Ki := good_below Km5 bi; have G_i := StgOwn.below G_m5 bi; clear Km5 dA0 dA1 dA2 G_m5; have dA0 := DA0 _ (good_below hb5 Ki); have dA1 := DA1 _ (good_below hb5 Ki); have dA2 := DA2 _ (good_below hb5 Ki))
                                                | (go_at_call 24; have hchk := om4; refine (UTxtsMark (rm4) (by omega) (by omega) HLM5.out uX5_m4 X5_m4).mono ?_; rintro e wm5 ⟨⟨rm5, rfl, pm5, zm5⟩, om5⟩; have Km5 := Below.trans Km4 (OutS.below om5 (fun b hb => Nat.le_trans Lw5.out hb.1) Km4.size); have G_m5 := StgOwn.out G_m4 om5 (fun b hb => Nat.lt_of_lt_of_le hb.2 (Nat.le_refl _)); have hneg : ¬ ((rm5 : Int) < 0) := (by omega); clear Km4 X5_m4 uX5_m4 dA0 dA1 dA2 G_m4; have dA0 := DA0 _ (good_below hb5 Km5); have dA1 := DA1 _ (good_below hb5 Km5); have dA2 := DA2 _ (good_below hb5 Km5))
                                                | (go_at_call 25; have hchk := om3; refine (UNumsMark (rm3) (by omega) (by omega) HLM4.out uX4_m3 X4_m3).mono ?_; rintro e wm4 ⟨⟨rm4, rfl, pm4, zm4⟩, om4⟩; have Km4 := Below.trans Km3 (OutS.below om4 (fun b hb => Nat.le_trans Lw4.out hb.1) Km3.size); have X5_m4 := CpTxts.outS X5_m3 om4 (fun b hb => .inl (Nat.lt_of_lt_of_le hb.2 (Nat.le_refl _))) uX5_m3; have uX5_m4 := Nat.le_trans uX5_m3 om4.size; have G_m4 := StgOwn.out G_m3 om4 (fun b hb => Nat.lt_of_lt_of_le hb.2 (Bx5.out)); clear Km3 X4_m3 uX4_m3 dA0 dA1 dA2 uX5_m3 X5_m3 G_m3; have dA0 := DA0 _ (good_below hb5 Km4); have dA1 := DA1 _ (good_below hb5 Km4); have dA2 := DA2 _ (good_below hb5 Km4))
                                                | (go_at_call 24; have hchk := om2; refine (UTxtsMark (rm2) (by omega) (by omega) HLM3.out uX3_m2 X3_m2).mono ?_; rintro e wm3 ⟨⟨rm3, rfl, pm3, zm3⟩, om3⟩; have Km3 := Below.trans Km2 (OutS.below om3 (fun b hb => Nat.le_trans Lw3.out hb.1) Km2.size); have X4_m3 := CpNums.outS X4_m2 om3 (fun b hb => .inl (Nat.lt_of_lt_of_le hb.2 (Nat.le_refl _))) uX4_m2; have uX4_m3 := Nat.le_trans uX4_m2 om3.size; have X5_m3 := CpTxts.outS X5_m2 om3 (fun b hb => .inl (Nat.lt_of_lt_of_le hb.2 (Bx4.out))) uX5_m2; have uX5_m3 := Nat.le_trans uX5_m2 om3.size; have G_m3 := StgOwn.out G_m2 om3 (fun b hb => Nat.lt_of_lt_of_le hb.2 ((Nat.le_trans Bx4.out Bx5.out))); clear Km2 X3_m2 uX3_m2 dA0 dA1 dA2 uX4_m2 X4_m2 uX5_m2 X5_m2 G_m2; have dA0 := DA0 _ (good_below hb5 Km3); have dA1 := DA1 _ (good_below hb5 Km3); have dA2 := DA2 _ (good_below hb5 Km3))
                                                | (go_at_call 23; have hchk := om1; refine (UOneMark (rm1) (by omega) (by omega) HLM2.out uX2_m1 (CpBox.cp X2_m1)).mono ?_; rintro e wm2 ⟨⟨rm2, rfl, pm2, zm2⟩, om2⟩; have Km2 := Below.trans Km1 (OutS.below om2 (fun b hb => Nat.le_trans Lw2.out hb.1) Km1.size); have X3_m2 := CpTxts.outS X3_m1 om2 (fun b hb => .inl (Nat.lt_of_lt_of_le hb.2 (Nat.le_refl _))) uX3_m1; have uX3_m2 := Nat.le_trans uX3_m1 om2.size; have X4_m2 := CpNums.outS X4_m1 om2 (fun b hb => .inl (Nat.lt_of_lt_of_le hb.2 (Bx3.out))) uX4_m1; have uX4_m2 := Nat.le_trans uX4_m1 om2.size; have X5_m2 := CpTxts.outS X5_m1 om2 (fun b hb => .inl (Nat.lt_of_lt_of_le hb.2 ((Nat.le_trans Bx3.out Bx4.out)))) uX5_m1; have uX5_m2 := Nat.le_trans uX5_m1 om2.size; have G_m2 := StgOwn.out G_m1 om2 (fun b hb => Nat.lt_of_lt_of_le hb.2 ((Nat.le_trans (Nat.le_trans Bx3.out Bx4.out) Bx5.out))); clear Km1 X2_m1 uX2_m1 dA0 dA1 dA2 eX0 eX1 eX2 uX3_m1 X3_m1 uX4_m1 X4_m1 uX5_m1 X5_m1 G_m1; have dA0 := DA0 _ (good_below hb5 Km2); have dA1 := DA1 _ (good_below hb5 Km2); have dA2 := DA2 _ (good_below hb5 Km2))
                                                | (go_at_call 22; have hchk := om0; refine (ULayersMark (rm0) (by omega) (by omega) HLM1.out uX1_m0 X1_m0).mono ?_; rintro e wm1 ⟨⟨rm1, rfl, pm1, zm1⟩, om1⟩; have Km1 := Below.trans Km0 (OutS.below om1 (fun b hb => Nat.le_trans Lw1.out hb.1) Km0.size); have X2_m1 := CpBox.outS X2_m0 om1 (fun b hb => .inl (Nat.lt_of_lt_of_le hb.2 (Nat.le_refl _))) uX2_m0; have uX2_m1 := Nat.le_trans uX2_m0 om1.size; have X3_m1 := CpTxts.outS X3_m0 om1 (fun b hb => .inl (Nat.lt_of_lt_of_le hb.2 (Bx2.out))) uX3_m0; have uX3_m1 := Nat.le_trans uX3_m0 om1.size; have X4_m1 := CpNums.outS X4_m0 om1 (fun b hb => .inl (Nat.lt_of_lt_of_le hb.2 ((Nat.le_trans Bx2.out Bx3.out)))) uX4_m0; have uX4_m1 := Nat.le_trans uX4_m0 om1.size; have X5_m1 := CpTxts.outS X5_m0 om1 (fun b hb => .inl (Nat.lt_of_lt_of_le hb.2 ((Nat.le_trans (Nat.le_trans Bx2.out Bx3.out) Bx4.out)))) uX5_m0; have uX5_m1 := Nat.le_trans uX5_m0 om1.size; have G_m1 := StgOwn.out G_m0 om1 (fun b hb => Nat.lt_of_lt_of_le hb.2 ((Nat.le_trans (Nat.le_trans (Nat.le_trans Bx2.out Bx3.out) Bx4.out) Bx5.out))); clear Km0 X1_m0 uX1_m0 dA0 dA1 dA2 eX0 eX1 eX2 uX2_m0 X2_m0 uX3_m0 X3_m0 uX4_m0 X4_m0 uX5_m0 X5_m0 G_m0; have dA0 := DA0 _ (good_below hb5 Km1); have dA1 := DA1 _ (good_below hb5 Km1); have dA2 := DA2 _ (good_below hb5 Km1); have eX0 := CpBox.c0 X2_m1; have eX1 := CpBox.c1 X2_m1; have eX2 := CpBox.c2 X2_m1)
                                                | (go_at_call 21; have hchk := bh5; refine (URulesMark (1) (by omega) (by omega) HLM0.out uX0_h5 X0_h5).mono ?_; rintro e wm0 ⟨⟨rm0, rfl, pm0, zm0⟩, om0⟩; have Km0 := Below.trans Kh5 (OutS.below om0 (fun b hb => Nat.le_trans Lw0.out hb.1) Kh5.size); have X1_m0 := CpLayers.outS X1_h5 om0 (fun b hb => .inl (Nat.lt_of_lt_of_le hb.2 (Nat.le_refl _))) uX1_h5; have uX1_m0 := Nat.le_trans uX1_h5 om0.size; have X2_m0 := CpBox.outS X2_h5 om0 (fun b hb => .inl (Nat.lt_of_lt_of_le hb.2 (Bx1.out))) uX2_h5; have uX2_m0 := Nat.le_trans uX2_h5 om0.size; have X3_m0 := CpTxts.outS X3_h5 om0 (fun b hb => .inl (Nat.lt_of_lt_of_le hb.2 ((Nat.le_trans Bx1.out Bx2.out)))) uX3_h5; have uX3_m0 := Nat.le_trans uX3_h5 om0.size; have X4_m0 := CpNums.outS X4_h5 om0 (fun b hb => .inl (Nat.lt_of_lt_of_le hb.2 ((Nat.le_trans (Nat.le_trans Bx1.out Bx2.out) Bx3.out)))) uX4_h5; have uX4_m0 := Nat.le_trans uX4_h5 om0.size; have X5_m0 := CpTxts.outS X5_h5 om0 (fun b hb => .inl (Nat.lt_of_lt_of_le hb.2 ((Nat.le_trans (Nat.le_trans (Nat.le_trans Bx1.out Bx2.out) Bx3.out) Bx4.out)))) uX5_h5; have uX5_m0 := Nat.le_trans uX5_h5 om0.size; have G_m0 := StgOwn.out G_h5 om0 (fun b hb => Nat.lt_of_lt_of_le hb.2 ((Nat.le_trans (Nat.le_trans (Nat.le_trans (Nat.le_trans Bx1.out Bx2.out) Bx3.out) Bx4.out) Bx5.out))); clear Kh5 X0_h5 uX0_h5 dA0 dA1 dA2 eX0 eX1 eX2 uX1_h5 X1_h5 uX2_h5 X2_h5 uX3_h5 X3_h5 uX4_h5 X4_h5 uX5_h5 X5_h5 G_h5; have dA0 := DA0 _ (good_below hb5 Km0); have dA1 := DA1 _ (good_below hb5 Km0); have dA2 := DA2 _ (good_below hb5 Km0); have eX0 := CpBox.c0 X2_m0; have eX1 := CpBox.c1 X2_m0; have eX2 := CpBox.c2 X2_m0)
                                                | (go_at_call 19; have hchk := bf5; refine (eqStringS (fun b hb => Nat.lt_of_lt_of_le hb.2 uX5_f5) (fun b hb => hb.2) (CpTxts.at X5_f5) (CpTxts.at kf5)).mono ?_; rintro e wh5 ⟨rfl, bh5⟩; have Kh5 := good_below Kf5 bh5; have X0_h5 := CpRules.below X0_f5 bh5 uX0_f5; have uX0_h5 := Nat.le_trans uX0_f5 bh5.size; have X1_h5 := CpLayers.below X1_f5 bh5 uX1_f5; have uX1_h5 := Nat.le_trans uX1_f5 bh5.size; have X2_h5 := CpBox.below X2_f5 bh5 uX2_f5; have uX2_h5 := Nat.le_trans uX2_f5 bh5.size; have X3_h5 := CpTxts.below X3_f5 bh5 uX3_f5; have uX3_h5 := Nat.le_trans uX3_f5 bh5.size; have X4_h5 := CpNums.below X4_f5 bh5 uX4_f5; have uX4_h5 := Nat.le_trans uX4_f5 bh5.size; have X5_h5 := CpTxts.below X5_f5 bh5 uX5_f5; have uX5_h5 := Nat.le_trans uX5_f5 bh5.size; have G_h5 := StgOwn.below G_f5 bh5; clear Kf5 dA0 dA1 dA2 eX0 eX1 eX2 X0_f5 uX0_f5 X1_f5 uX1_f5 X2_f5 uX2_f5 X3_f5 uX3_f5 X4_f5 uX4_f5 X5_f5 uX5_f5 G_f5 kf5; have dA0 := DA0 _ (good_below hb5 Kh5); have dA1 := DA1 _ (good_below hb5 Kh5); have dA2 := DA2 _ (good_below hb5 Kh5); have eX0 := CpBox.c0 X2_h5; have eX1 := CpBox.c1 X2_h5; have eX2 := CpBox.c2 X2_h5)
                                                | (go_at_call 12; have hchk := bh4; refine (ct5 HLM5.out _ (good_below hb5 Kh4)).mono ?_; rintro e wf5 ⟨⟨yf5, rfl, kf5⟩, bf5⟩; have Kf5 := good_below Kh4 bf5; have X0_f5 := CpRules.below X0_h4 bf5 uX0_h4; have uX0_f5 := Nat.le_trans uX0_h4 bf5.size; have X1_f5 := CpLayers.below X1_h4 bf5 uX1_h4; have uX1_f5 := Nat.le_trans uX1_h4 bf5.size; have X2_f5 := CpBox.below X2_h4 bf5 uX2_h4; have uX2_f5 := Nat.le_trans uX2_h4 bf5.size; have X3_f5 := CpTxts.below X3_h4 bf5 uX3_h4; have uX3_f5 := Nat.le_trans uX3_h4 bf5.size; have X4_f5 := CpNums.below X4_h4 bf5 uX4_h4; have uX4_f5 := Nat.le_trans uX4_h4 bf5.size; have X5_f5 := CpTxts.below X5_h4 bf5 uX5_h4; have uX5_f5 := Nat.le_trans uX5_h4 bf5.size; have G_f5 := StgOwn.below G_h4 bf5; clear Kh4 dA0 dA1 dA2 eX0 eX1 eX2 X0_h4 uX0_h4 X1_h4 uX1_h4 X2_h4 uX2_h4 X3_h4 uX3_h4 X4_h4 uX4_h4 X5_h4 uX5_h4 G_h4; have dA0 := DA0 _ (good_below hb5 Kf5); have dA1 := DA1 _ (good_below hb5 Kf5); have dA2 := DA2 _ (good_below hb5 Kf5); have eX0 := CpBox.c0 X2_f5; have eX1 := CpBox.c1 X2_f5; have eX2 := CpBox.c2 X2_f5)
                                                | (go_at_call 20; have hchk := bf4; refine (eqIntS (fun b hb => Nat.lt_of_lt_of_le hb.2 uX4_f4) (fun b hb => hb.2) (CpNums.at X4_f4) (CpNums.at kf4)).mono ?_; rintro e wh4 ⟨rfl, bh4⟩; have Kh4 := good_below Kf4 bh4; have X0_h4 := CpRules.below X0_f4 bh4 uX0_f4; have uX0_h4 := Nat.le_trans uX0_f4 bh4.size; have X1_h4 := CpLayers.below X1_f4 bh4 uX1_f4; have uX1_h4 := Nat.le_trans uX1_f4 bh4.size; have X2_h4 := CpBox.below X2_f4 bh4 uX2_f4; have uX2_h4 := Nat.le_trans uX2_f4 bh4.size; have X3_h4 := CpTxts.below X3_f4 bh4 uX3_f4; have uX3_h4 := Nat.le_trans uX3_f4 bh4.size; have X4_h4 := CpNums.below X4_f4 bh4 uX4_f4; have uX4_h4 := Nat.le_trans uX4_f4 bh4.size; have X5_h4 := CpTxts.below X5_f4 bh4 uX5_f4; have uX5_h4 := Nat.le_trans uX5_f4 bh4.size; have G_h4 := StgOwn.below G_f4 bh4; clear Kf4 dA0 dA1 dA2 eX0 eX1 eX2 X0_f4 uX0_f4 X1_f4 uX1_f4 X2_f4 uX2_f4 X3_f4 uX3_f4 X4_f4 uX4_f4 X5_f4 uX5_f4 G_f4 kf4; have dA0 := DA0 _ (good_below hb5 Kh4); have dA1 := DA1 _ (good_below hb5 Kh4); have dA2 := DA2 _ (good_below hb5 Kh4); have eX0 := CpBox.c0 X2_h4; have eX1 := CpBox.c1 X2_h4; have eX2 := CpBox.c2 X2_h4)
                                                | (go_at_call 13; have hchk := bh3; refine (ct4 HLM4.out _ (good_below hb5 Kh3)).mono ?_; rintro e wf4 ⟨⟨yf4, rfl, kf4⟩, bf4⟩; have Kf4 := good_below Kh3 bf4; have X0_f4 := CpRules.below X0_h3 bf4 uX0_h3; have uX0_f4 := Nat.le_trans uX0_h3 bf4.size; have X1_f4 := CpLayers.below X1_h3 bf4 uX1_h3; have uX1_f4 := Nat.le_trans uX1_h3 bf4.size; have X2_f4 := CpBox.below X2_h3 bf4 uX2_h3; have uX2_f4 := Nat.le_trans uX2_h3 bf4.size; have X3_f4 := CpTxts.below X3_h3 bf4 uX3_h3; have uX3_f4 := Nat.le_trans uX3_h3 bf4.size; have X4_f4 := CpNums.below X4_h3 bf4 uX4_h3; have uX4_f4 := Nat.le_trans uX4_h3 bf4.size; have X5_f4 := CpTxts.below X5_h3 bf4 uX5_h3; have uX5_f4 := Nat.le_trans uX5_h3 bf4.size; have G_f4 := StgOwn.below G_h3 bf4; clear Kh3 dA0 dA1 dA2 eX0 eX1 eX2 X0_h3 uX0_h3 X1_h3 uX1_h3 X2_h3 uX2_h3 X3_h3 uX3_h3 X4_h3 uX4_h3 X5_h3 uX5_h3 G_h3; have dA0 := DA0 _ (good_below hb5 Kf4); have dA1 := DA1 _ (good_below hb5 Kf4); have dA2 := DA2 _ (good_below hb5 Kf4); have eX0 := CpBox.c0 X2_f4; have eX1 := CpBox.c1 X2_f4; have eX2 := CpBox.c2 X2_f4)
                                                | (go_at_call 19; have hchk := bf3; refine (eqStringS (fun b hb => Nat.lt_of_lt_of_le hb.2 uX3_f3) (fun b hb => hb.2) (CpTxts.at X3_f3) (CpTxts.at kf3)).mono ?_; rintro e wh3 ⟨rfl, bh3⟩; have Kh3 := good_below Kf3 bh3; have X0_h3 := CpRules.below X0_f3 bh3 uX0_f3; have uX0_h3 := Nat.le_trans uX0_f3 bh3.size; have X1_h3 := CpLayers.below X1_f3 bh3 uX1_f3; have uX1_h3 := Nat.le_trans uX1_f3 bh3.size; have X2_h3 := CpBox.below X2_f3 bh3 uX2_f3; have uX2_h3 := Nat.le_trans uX2_f3 bh3.size; have X3_h3 := CpTxts.below X3_f3 bh3 uX3_f3; have uX3_h3 := Nat.le_trans uX3_f3 bh3.size; have X4_h3 := CpNums.below X4_f3 bh3 uX4_f3; have uX4_h3 := Nat.le_trans uX4_f3 bh3.size; have X5_h3 := CpTxts.below X5_f3 bh3 uX5_f3; have uX5_h3 := Nat.le_trans uX5_f3 bh3.size; have G_h3 := StgOwn.below G_f3 bh3; clear Kf3 dA0 dA1 dA2 eX0 eX1 eX2 X0_f3 uX0_f3 X1_f3 uX1_f3 X2_f3 uX2_f3 X3_f3 uX3_f3 X4_f3 uX4_f3 X5_f3 uX5_f3 G_f3 kf3; have dA0 := DA0 _ (good_below hb5 Kh3); have dA1 := DA1 _ (good_below hb5 Kh3); have dA2 := DA2 _ (good_below hb5 Kh3); have eX0 := CpBox.c0 X2_h3; have eX1 := CpBox.c1 X2_h3; have eX2 := CpBox.c2 X2_h3)
                                                | (go_at_call 12; have hchk := bh2; refine (ct3 HLM3.out _ (good_below hb5 Kh2)).mono ?_; rintro e wf3 ⟨⟨yf3, rfl, kf3⟩, bf3⟩; have Kf3 := good_below Kh2 bf3; have X0_f3 := CpRules.below X0_h2 bf3 uX0_h2; have uX0_f3 := Nat.le_trans uX0_h2 bf3.size; have X1_f3 := CpLayers.below X1_h2 bf3 uX1_h2; have uX1_f3 := Nat.le_trans uX1_h2 bf3.size; have X2_f3 := CpBox.below X2_h2 bf3 uX2_h2; have uX2_f3 := Nat.le_trans uX2_h2 bf3.size; have X3_f3 := CpTxts.below X3_h2 bf3 uX3_h2; have uX3_f3 := Nat.le_trans uX3_h2 bf3.size; have X4_f3 := CpNums.below X4_h2 bf3 uX4_h2; have uX4_f3 := Nat.le_trans uX4_h2 bf3.size; have X5_f3 := CpTxts.below X5_h2 bf3 uX5_h2; have uX5_f3 := Nat.le_trans uX5_h2 bf3.size; have G_f3 := StgOwn.below G_h2 bf3; clear Kh2 dA0 dA1 dA2 eX0 eX1 eX2 X0_h2 uX0_h2 X1_h2 uX1_h2 X2_h2 uX2_h2 X3_h2 uX3_h2 X4_h2 uX4_h2 X5_h2 uX5_h2 G_h2; have dA0 := DA0 _ (good_below hb5 Kf3); have dA1 := DA1 _ (good_below hb5 Kf3); have dA2 := DA2 _ (good_below hb5 Kf3); have eX0 := CpBox.c0 X2_f3; have eX1 := CpBox.c1 X2_f3; have eX2 := CpBox.c2 X2_f3))
                      have HB22 : Hid (Below w0.heap.size w0 wp) := good_below hb5 Kp
                      have ow22 := StgOwn.below ow Kp
                      have dm22 := D_p
                      obtain ⟨w22, hw22⟩ : ∃ w22, w22 = wp := ⟨_, rfl⟩
                      subst hw22
                      go_cut [27, 28] from 176 to 192 (fun s27 s28 wx => s28 = .int .i64 P1 ∧ (∃ B, StgOwn B wx s27 P0) ∧ Below w22.heap.size w22 wx)
                      case first =>
                        have hbzd : Below w0.heap.size w0 w22.drew := HB22.out.drew
                        have hdz : Below w22.heap.size w22 w22.drew := (Below.refl _ _).drew
                        go_region_held3 (fun w' => w'.cell? ⟨w.heap.size, 0, none⟩ = some (.string l2.name) ∧ w'.cell? ⟨w.heap.size, 1, none⟩ = some (.int .i64 l2.rank) ∧ w'.cell? ⟨w.heap.size, 2, none⟩ = some (n2)) (first | exact KPA.out _ Bz | exact KPA.out _ Bz5 | exact KPA.out _ Bz4 | exact KPA.out _ Bz3 | exact KPA.out _ Bz2 | exact KPA.out _ Bz1 | exact KPA.out _ Bz0 | exact KPA.out _ hbzd) (first
                                                | (go_at_call 14; have hchk := bz5; refine (ci' (fun b => b < wz5.heap.size) _ _ _ _ _ _ _ Bz5 (fun b hb => hb) ((CpRules.at kz0_5).mono (S' := fun b => b < wz5.heap.size) (fun b hb => Nat.lt_of_lt_of_le hb.2 (uz0_5))) ((CpLayers.at kz1_5).mono (S' := fun b => b < wz5.heap.size) (fun b hb => Nat.lt_of_lt_of_le hb.2 (uz1_5))) ((CpOne.at kz2_5).mono (S' := fun b => b < wz5.heap.size) (fun b hb => Nat.lt_of_lt_of_le hb.2 (uz2_5))) ((CpTxts.zat kz3_5).mono (S' := fun b => b < wz5.heap.size) (fun b hb => Nat.lt_of_lt_of_le hb.2 (uz3_5))) ((CpNums.at kz4_5).mono (S' := fun b => b < wz5.heap.size) (fun b hb => Nat.lt_of_lt_of_le hb.2 (uz4_5))) ((CpTxts.at kz5).mono (S' := fun b => b < wz5.heap.size) (fun b hb => Nat.lt_of_lt_of_le hb.2 (Nat.le_refl _)))).mono ?_; rintro e wz ⟨⟨qz, rfl, oz⟩, bz⟩; have Bz := good_below Bz5 bz)
                                                | (go_at_call 12; have hchk := bz4; refine (ct5 HLM5.out _ Bz4).mono ?_; rintro e wz5 ⟨⟨yz5, rfl, kz5⟩, bz5⟩; have Bz5 := good_below Bz4 bz5; have kz0_5 := CpRules.below kz0_4 bz5 (uz0_4); have uz0_5 := Nat.le_trans (uz0_4) bz5.size; clear kz0_4; clear uz0_4; have kz1_5 := CpLayers.below kz1_4 bz5 (uz1_4); have uz1_5 := Nat.le_trans (uz1_4) bz5.size; clear kz1_4; clear uz1_4; have kz2_5 := CpOne.below kz2_4 bz5 (uz2_4); have uz2_5 := Nat.le_trans (uz2_4) bz5.size; clear kz2_4; clear uz2_4; have kz3_5 := CpTxts.below kz3_4 bz5 (uz3_4); have uz3_5 := Nat.le_trans (uz3_4) bz5.size; clear kz3_4; clear uz3_4; have kz4_5 := CpNums.below kz4 bz5 (Nat.le_refl _); have uz4_5 := Nat.le_trans (Nat.le_refl _) bz5.size; clear kz4)
                                                | (go_at_call 13; have hchk := bz3; refine (ct4 HLM4.out _ Bz3).mono ?_; rintro e wz4 ⟨⟨yz4, rfl, kz4⟩, bz4⟩; have Bz4 := good_below Bz3 bz4; have kz0_4 := CpRules.below kz0_3 bz4 (uz0_3); have uz0_4 := Nat.le_trans (uz0_3) bz4.size; clear kz0_3; clear uz0_3; have kz1_4 := CpLayers.below kz1_3 bz4 (uz1_3); have uz1_4 := Nat.le_trans (uz1_3) bz4.size; clear kz1_3; clear uz1_3; have kz2_4 := CpOne.below kz2_3 bz4 (uz2_3); have uz2_4 := Nat.le_trans (uz2_3) bz4.size; clear kz2_3; clear uz2_3; have kz3_4 := CpTxts.below kz3 bz4 (Nat.le_refl _); have uz3_4 := Nat.le_trans (Nat.le_refl _) bz4.size; clear kz3)
                                                | (go_at_call 12; have hchk := bz2; refine (ct3 HLM3.out _ Bz2).mono ?_; rintro e wz3 ⟨⟨yz3, rfl, kz3⟩, bz3⟩; have Bz3 := good_below Bz2 bz3; have kz0_3 := CpRules.below kz0_2 bz3 (uz0_2); have uz0_3 := Nat.le_trans (uz0_2) bz3.size; clear kz0_2; clear uz0_2; have kz1_3 := CpLayers.below kz1_2 bz3 (uz1_2); have uz1_3 := Nat.le_trans (uz1_2) bz3.size; clear kz1_2; clear uz1_2; have kz2_3 := CpOne.below kz2 bz3 (Nat.le_refl _); have uz2_3 := Nat.le_trans (Nat.le_refl _) bz3.size; clear kz2)
                                                | (go_at_call 11; have hchk := bz1; refine (ct2 HLM2.out _ Bz1).mono ?_; rintro e wz2 ⟨⟨yz2, rfl, kz2⟩, bz2⟩; have Bz2 := good_below Bz1 bz2; have kz0_2 := CpRules.below kz0_1 bz2 (uz0_1); have uz0_2 := Nat.le_trans (uz0_1) bz2.size; clear kz0_1; clear uz0_1; have kz1_2 := CpLayers.below kz1 bz2 (Nat.le_refl _); have uz1_2 := Nat.le_trans (Nat.le_refl _) bz2.size; clear kz1)
                                                | (go_at_call 10; have hchk := bz0; refine (ct1 HLM1.out _ Bz0).mono ?_; rintro e wz1 ⟨⟨yz1, rfl, kz1⟩, bz1⟩; have Bz1 := good_below Bz0 bz1; have kz0_1 := CpRules.below kz0 bz1 (Nat.le_refl _); have uz0_1 := Nat.le_trans (Nat.le_refl _) bz1.size; clear kz0)
                                                | (go_at_call 9; refine (ct0 HLM0.out _ hbzd).mono ?_; rintro e wz0 ⟨⟨yz0, rfl, kz0⟩, bz0⟩; have Bz0 := good_below hbzd bz0))
                        all_goals (go_wp2_with fail; go_meet; exact ⟨rfl, ⟨_, oz⟩, good_below (good_below hdz (good_below (good_below (good_below (good_below (good_below bz0 bz1) bz2) bz3) bz4) bz5)) bz⟩)
                      case rest =>
                        obtain ⟨rfl, ⟨Bh, oh⟩, bh⟩ := hcut
                        obtain ⟨ah, ch, hvh⟩ := StgOwn.shape oh
                        subst hvh
                        go_wp2_with (first
                                                    | (go_at_call 27; have hchk := bj; refine (StgHeld (StgMkd.below dm22 Kj)).mono ?_; rintro e wk ⟨rfl, bk⟩; have Kk := good_below Kj bk)
                                                    | (go_at_call 15; refine (StgEq oh (StgOwn.below ow22 bh)).mono ?_; rintro e wj ⟨rfl, bj⟩; have Kj := good_below bh bj))
                        go_ret
                        exact ⟨rfl, good_below h00.out (good_below HB22.out Kk)⟩
end Go.Proofs.YtcbabajfdihcdaaGreatDoor
