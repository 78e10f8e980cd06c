/-
  The law on SagaOK: its walk, over what both SagaOK answer. No statement of the seat is proved here.
-/
import Derived.Test.YtckbngffddfbnaaDoorG5
import Derived.Deep.Cut
namespace Go.Proofs.YtckbngffddfbnaaDoor
open Go.ChangeShapes Go.WideShapes Go.ChangeAt Go.RowKit
set_option linter.unusedVariables false
set_option linter.unusedSimpArgs false

/-- A copy, in blocks between L and U. -/
def CpSteps (L U : Nat) (w : World) (v : Value) (l : List Step) : Prop := L < U ∧ RowSteps L U w v l
theorem CpSteps.keepU {L U : Nat} {w w' : World} {v : Value} {l : List Step} (h : CpSteps L U w v l) (hk : ∀ b, L ≤ b → b < U → w'.heap[b]? = w.heap[b]?) : CpSteps L U w' v l := ⟨h.1, h.2.keep hk h.1⟩
theorem CpSteps.at {L U : Nat} {w : World} {v : Value} {l : List Step} (h : CpSteps L U w v l) : StepsAt (fun b => L ≤ b ∧ b < U) w v l := h.2.at h.1
theorem cpToSteps {S : Nat → Prop} {l : List Step} {v : Value} {w : World} (hS : ∀ b, S b → b < w.heap.size) (h : StepsAt S w v l) (hl : l.length ≤ 1048576) (hok : ∀ x ∈ l, StepsOK 1048576 x) :
    Calls Tryd.prog 6 #[v] w fun e w' => (∃ v', e = .returned v' ∧ CpSteps w.heap.size w'.heap.size w' v' l) ∧ Below w.heap.size w w' :=
  (toSagaStepS hS h hl (fun x hx => by have := (hok x hx).2.1; omega)).mono fun e w' ⟨⟨v', he, hr, hlt⟩, hb⟩ => ⟨⟨v', he, hlt, hr⟩, hb⟩
theorem CpSteps.below {B L U : Nat} {w w' : World} {v : Value} {l : List Step} (h : CpSteps L U w v l) (hb : Below B w w') (hU : U ≤ B) : CpSteps L U w' v l := h.keepU (fun b _ hb2 => hb.block b (Nat.lt_of_lt_of_le hb2 hU))
theorem CpSteps.outS {S : Nat → Prop} {L U : Nat} {w w' : World} {v : Value} {l : List Step} (h : CpSteps L U w v l) (ho : OutS S w w') (hS : ∀ b, S b → b < L ∨ U ≤ b) (hU : U ≤ w.heap.size) : CpSteps L U w' v l := h.keepU (fun b h1 h2 => ho.block b (Nat.lt_of_lt_of_le h2 hU) (fun hs => by have := hS b hs; omega))
/-- The slice has room for what it holds. -/
def FullCap (v : Value) : Prop := ∀ a n c, v = .slice a n c → n ≤ c
def StepsFull (w : World) (v : Value) (l : List Step) : Prop := FullCap v ∧ ∀ b off n c, v = .slice (some ⟨b, off, none⟩) n c → ∀ i, i < l.length → ∀ nv, w.cell? ⟨b, off + i * 4 + 1, none⟩ = some nv → FullCap nv
theorem CpSteps.full {L U : Nat} {w : World} {v : Value} {l : List Step} (h : CpSteps L U w v l) : StepsFull w v l := by
  obtain ⟨_, _, hv, cur, hb, _, hc⟩ := h
  refine ⟨fun a n c e => by rw [hv] at e; simp at e; omega, fun b off n c e i hi nv hn => ?_⟩
  rw [hv] at e
  simp at e
  obtain ⟨⟨rfl, rfl⟩, rfl, rfl⟩ := e
  obtain ⟨_, _, _, nv', g, q3, _, _, q6⟩ := hc i hi hi
  rw [Nat.zero_add, hb.cell, q3] at hn
  simp only [Option.some.injEq] at hn
  subst hn
  intro a n c e
  rw [q6.2.1] at e
  simp at e
  omega
/-- What a SagaOK answers, whatever it is. -/
def SagaOKC (f : Nat) (T : World → Prop) (C0 : (List Step) → Bool) : Prop := ∀ (S : Nat → Prop) (l0 : List Step) (v0 : Value) (w : World), (∀ b, S b → b < w.heap.size) → StepsAt S w v0 l0 → l0.length ≤ 1048576 → (∀ x ∈ l0, StepsOK 1048576 x) → StepsFull w v0 l0 → (∀ W, Below w.heap.size w W → T W) →
  Calls Tryd.prog f #[v0] w fun e w' => (e = .returned (.bool (C0 l0))) ∧ Below w.heap.size w w'

set_option maxRecDepth 100000 in
set_option maxHeartbeats 16000000 in
theorem sagaOKWalk {T : World → Prop} {C0 : (List Step) → Bool} (hSp : SagaOKC 5 T C0) (hIm : SagaOKC 7 T C0)
    (w : World) (v0 : Value) (l0 : List Step) (h0 : StepsAt (fun b => b < w.heap.size) w v0 l0) (hf0 : ∀ y ∈ l0, StepsFit y) (hT : ∀ W, Below w.heap.size w W → T W) :
    Calls Tryd.prog 3 #[v0] w fun e w' => e = .returned (.bool true) ∧ Below w.heap.size w w' := by
  have HT : Hid (∀ W, Below w.heap.size w W → T W) := hT
  have HR0 : Hid (StepsAt (fun b => b < w.heap.size) w v0 l0) := h0
  have HF0 : Hid (∀ y ∈ l0, StepsFit y) := hf0
  obtain ⟨a0, cap0, hv0⟩ := h0.shape
  subst hv0
  have cs := fun S v0 w => hSp S l0 v0 w
  have ci := fun S v0 w => hIm S l0 v0 w
  obtain ⟨P0, hPe0⟩ : ∃ P, C0 l0 = P := ⟨_, rfl⟩
  rw [hPe0] at cs ci
  clear hPe0
  clear hSp hIm hT h0 hf0
  have ct0 : l0.length ≤ 1048576 → (∀ x ∈ l0, StepsOK 1048576 x) → ∀ W, Below w.heap.size w W → Calls Tryd.prog 6 #[.slice a0 l0.length cap0] W fun e w' => (∃ v', e = .returned v' ∧ CpSteps W.heap.size w'.heap.size w' v' l0) ∧ Below W.heap.size W w' := fun h1 h2 W hW =>
    cpToSteps (S := fun b => b < w.heap.size) (fun b hb => Nat.lt_of_lt_of_le hb hW.size) (HR0.out.keep (cells_below (fun b hb => hb) hW)) h1 h2
  go_enter Tryd.func3, Tryd.ntmps3
  have hbq : Below w.heap.size w w := Below.refl _ w
  have hr1 : (1048576 : Int) ≤ 1048576 := by omega
  have hr0 : (0 : Int) ≤ 1048576 := by omega
  have cz0 := szSagaStepS (w := w) (fun b hb => Nat.lt_of_lt_of_le hb hbq.size) (HR0.out.keep (cells_below (fun b hb => hb) hbq)) HF0.out (1048576) hr0 hr1
  go_upto_region 2 with fail
  go_cut [3] from 7 (fun s3 wx => ∃ r : Int, s3 = .int .i64 r ∧ (r = -1 ∨ (0 ≤ r ∧ r ≤ 1048576 ∧ (l0.length : Int) ≤ 1048576 ∧ ∀ x ∈ l0, StepsOK (1048576) x)) ∧ Below w.heap.size w wx)
  case first =>
    go_wp2_with (go_at_call 4; go_must (refine cz0.mono ?_; rintro e w1 ⟨⟨r, rfl, hr⟩, hb1⟩))
    go_meet
    exact ⟨r, rfl, hr, good_below hbq hb1⟩
  case rest =>
    clear cz0
    obtain ⟨r0, rfl, hr, hbq0⟩ := hcut
    rcases hr with rfl | ⟨ha0, hc0, hll0, hok0⟩
    case inl =>
      go_wp2_with fail
      go_ret
      exact ⟨rfl, hbq0⟩
    have hok0' : ∀ x ∈ l0, StepsOK 1048576 x := fun x hx => (hok0 x hx).mono (by omega)
    have HOK0 : Hid (∀ x ∈ l0, StepsOK 1048576 x) := hok0'
    have hlc0 : l0.length ≤ 1048576 := by omega
    have hrn0 : ¬ (r0 < 0) := by omega
    clear hok0 hok0' hbq hr0 hr1
    obtain ⟨wq0, hwq0⟩ : ∃ wq, wq = wc := ⟨_, rfl⟩
    subst hwq0
    have hbq := hbq0
    have hr0 := ha0
    have hr1 : r0 ≤ 1048576 := by omega
    clear hbq0
    have cs' := fun S v0 W (hW : Below w.heap.size w W) hS h0 hq0 => cs S v0 W hS h0 hlc0 HOK0.out hq0 (fun W' hW' => HT.out W' (good_below hW hW'))
    have ci' := fun S v0 W (hW : Below w.heap.size w W) hS h0 hq0 => ci S v0 W hS h0 hlc0 HOK0.out hq0 (fun W' hW' => HT.out W' (good_below hW hW'))
    clear cs ci
    go_upto_region 5 with fail
    go_cut [4] from 7 (fun s4 wx => s4 = .bool P0 ∧ Below w.heap.size w wx)
    case first =>
      go_wp2_with (first
            | (go_at_call 5; have hchk := bs0; refine (cs' (fun b => b < ws0.heap.size) _ _ Bs0 (fun b hb => hb) ((ks0).at.mono (S' := fun b => b < ws0.heap.size) (fun b hb => Nat.lt_of_lt_of_le hb.2 (Nat.le_refl _))) (CpSteps.full ks0)).mono ?_; rintro e ws ⟨rfl, bs⟩; have Bs := good_below Bs0 bs)
            | (go_at_call 6; refine (ct0 hlc0 HOK0.out _ hbq).mono ?_; rintro e ws0 ⟨⟨ys0, rfl, ks0⟩, bs0⟩; have Bs0 := good_below hbq bs0))
      go_meet
      exact ⟨rfl, Bs⟩
    case rest =>
      obtain ⟨rfl, hb5⟩ := hcut
      clear cs' hbq
      obtain ⟨w5, hw5⟩ : ∃ w5, w5 = wc := ⟨_, rfl⟩
      subst hw5
      have K5 : Below w5.heap.size w5 w5 := Below.refl _ _
      go_wp2_with (first
                | (go_at_call 8; have hchk := bf0; refine (eqSagaStepS (fun b hb => Nat.lt_of_lt_of_le hb.2 uX0_f0) (fun b hb => hb.2) X0_f0.at kf0.at).mono ?_; rintro e wh0 ⟨rfl, bh0⟩; have Kh0 := good_below Kf0 bh0; have X0_h0 := CpSteps.below X0_f0 bh0 uX0_f0; have uX0_h0 := Nat.le_trans uX0_f0 bh0.size)
                | (go_at_call 6; have hchk := bg; refine (ct0 hlc0 HOK0.out _ (good_below hb5 Kg)).mono ?_; rintro e wf0 ⟨⟨yf0, rfl, kf0⟩, bf0⟩; have Kf0 := good_below Kg bf0; have X0_f0 := CpSteps.below X0_g bf0 uX0_g; have uX0_f0 := Nat.le_trans uX0_g bf0.size)
                | (go_at_call 7; have hchk := bx0; refine (ci' (fun b => b < wx0.heap.size) _ _ (good_below hb5 Kx0) (fun b hb => hb) (kx0.at.mono (S' := fun b => b < wx0.heap.size) (fun b hb => Nat.lt_of_lt_of_le hb.2 Ux0)) (CpSteps.full kx0)).mono ?_; rintro e wg ⟨rfl, bg⟩; have Kg := good_below Kx0 bg; have X0_g := CpSteps.below kx0 bg Ux0; have uX0_g := Nat.le_trans Ux0 bg.size; have HWX : Hid (w5.heap.size ≤ wx0.heap.size) := Kx0.size)
                | (go_at_call 6; refine (ct0 hlc0 HOK0.out _ (good_below hb5 K5)).mono ?_; rintro e wx0 ⟨⟨yx0, rfl, kx0⟩, bx0⟩; have Kx0 := good_below K5 bx0; have Ux0 : wx0.heap.size ≤ wx0.heap.size := Nat.le_refl _; have Lw0 : Hid (w5.heap.size ≤ w5.heap.size) := K5.size))
      go_ret
      exact ⟨rfl, good_below hb5 Kh0⟩
end Go.Proofs.YtckbngffddfbnaaDoor
