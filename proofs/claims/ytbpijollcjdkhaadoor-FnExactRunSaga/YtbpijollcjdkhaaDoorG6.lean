/-
  Copies of steps have room for what they hold; what a SagaOK answers. No statement of the seat is proved here.
-/
import Derived.Test.YtbpijollcjdkhaaDoorG5
import Derived.Deep.Cut
namespace Go.Proofs.YtbpijollcjdkhaaDoor
open Go.ChangeShapes Go.WideShapes Go.ChangeAt Go.RowKit
set_option linter.unusedVariables false
set_option linter.unusedSimpArgs false

/-- A copy, in blocks between L and U. -/
def CpSteps (L U : Nat) (w : World) (v : Value) (l : List Step) : Prop := L < U ∧ RowSteps L U w v l
theorem CpSteps.keepU {L U : Nat} {w w' : World} {v : Value} {l : List Step} (h : CpSteps L U w v l) (hk : ∀ b, L ≤ b → b < U → w'.heap[b]? = w.heap[b]?) : CpSteps L U w' v l := ⟨h.1, h.2.keep hk h.1⟩
theorem CpSteps.at {L U : Nat} {w : World} {v : Value} {l : List Step} (h : CpSteps L U w v l) : StepsAt (fun b => L ≤ b ∧ b < U) w v l := h.2.at h.1
theorem cpToSteps {S : Nat → Prop} {l : List Step} {v : Value} {w : World} (hS : ∀ b, S b → b < w.heap.size) (h : StepsAt S w v l) (hl : l.length ≤ 1048576) (hok : ∀ x ∈ l, StepsOK 1048576 x) :
    Calls Tryd.prog 7 #[v] w fun e w' => (∃ v', e = .returned v' ∧ CpSteps w.heap.size w'.heap.size w' v' l) ∧ Below w.heap.size w w' :=
  (toSagaStepS hS h hl (fun x hx => by have := (hok x hx).2.1; omega)).mono fun e w' ⟨⟨v', he, hr, hlt⟩, hb⟩ => ⟨⟨v', he, hlt, hr⟩, hb⟩
theorem cpMarkSteps {L U : Nat} {l : List Step} {v : Value} {w : World} (s : Nat) (hs0 : 0 < s) (hs1 : s ≤ 10000000000000) (hl : l.length ≤ 1048576) (hok : ∀ x ∈ l, StepsOK 1048576 x) (hUw : U ≤ w.heap.size) (h : CpSteps L U w v l) :
    Calls Tryd.prog 13 #[v, .int .i64 s] w fun e w' => (∃ r : Nat, e = .returned (.int .i64 (r : Int)) ∧ 0 < r ∧ r ≤ s + 2300000000000) ∧ OutS (fun b => L ≤ b ∧ b < U) w w' := by
  refine (markSagaStepS s hs0 hs1 (by simpa using hl) (fun m hm => by
    obtain ⟨x, hx, rfl⟩ := List.mem_map.1 hm
    have := (hok x hx).2.1
    omega) h.1 hUw h.2.sh).mono ?_
  rintro e w' ⟨⟨r, he, h1, h2⟩, ho⟩
  simp only [List.length_map] at h2
  exact ⟨⟨r, he, h1, by omega⟩, ho⟩
theorem CpSteps.below {B L U : Nat} {w w' : World} {v : Value} {l : List Step} (h : CpSteps L U w v l) (hb : Below B w w') (hU : U ≤ B) : CpSteps L U w' v l := h.keepU (fun b _ hb2 => hb.block b (Nat.lt_of_lt_of_le hb2 hU))
theorem CpSteps.outS {S : Nat → Prop} {L U : Nat} {w w' : World} {v : Value} {l : List Step} (h : CpSteps L U w v l) (ho : OutS S w w') (hS : ∀ b, S b → b < L ∨ U ≤ b) (hU : U ≤ w.heap.size) : CpSteps L U w' v l := h.keepU (fun b h1 h2 => ho.block b (Nat.lt_of_lt_of_le h2 hU) (fun hs => by have := hS b hs; omega))
/-- The slice has room for what it holds. -/
def FullCap (v : Value) : Prop := ∀ a n c, v = .slice a n c → n ≤ c
def StepsFull (w : World) (v : Value) (l : List Step) : Prop := FullCap v ∧ ∀ b off n c, v = .slice (some ⟨b, off, none⟩) n c → ∀ i, i < l.length → ∀ nv, w.cell? ⟨b, off + i * 4 + 1, none⟩ = some nv → FullCap nv
theorem CpSteps.full {L U : Nat} {w : World} {v : Value} {l : List Step} (h : CpSteps L U w v l) : StepsFull w v l := by
  obtain ⟨_, _, hv, cur, hb, _, hc⟩ := h
  refine ⟨fun a n c e => by rw [hv] at e; simp at e; omega, fun b off n c e i hi nv hn => ?_⟩
  rw [hv] at e
  simp at e
  obtain ⟨⟨rfl, rfl⟩, rfl, rfl⟩ := e
  obtain ⟨_, _, _, nv', g, q3, _, _, q6⟩ := hc i hi hi
  rw [Nat.zero_add, hb.cell, q3] at hn
  simp only [Option.some.injEq] at hn
  subst hn
  intro a n c e
  rw [q6.2.1] at e
  simp at e
  omega
/-- What a SagaOK answers, whatever it is. -/
def SagaOKC (f : Nat) (T : World → Prop) (C0 : (List Step) → Bool) : Prop := ∀ (S : Nat → Prop) (l0 : List Step) (v0 : Value) (w : World), (∀ b, S b → b < w.heap.size) → StepsAt S w v0 l0 → l0.length ≤ 1048576 → (∀ x ∈ l0, StepsOK 1048576 x) → StepsFull w v0 l0 → (∀ W, Below w.heap.size w W → T W) →
  Calls Tryd.prog f #[v0] w fun e w' => (e = .returned (.bool (C0 l0))) ∧ Below w.heap.size w w'
end Go.Proofs.YtbpijollcjdkhaaDoor
