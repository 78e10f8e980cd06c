/-
  'm[k]++' where the key's entry is taken first: what the entry and the store into it leave is what a plain store leaves. No statement of the seat is proved here.
-/
import Derived.Test.YtmgboljcdhegiaaDoorCnt
namespace Go.Proofs.YtmgboljcdhegiaaDoor
open Go.ChangeShapes Go.WideShapes Go.ChangeAt Go.RowKit Go.Maps
open Go.ChangeMaps (setBlock)
open Go.WideElems (Fit entry_then_store)
set_option linter.unusedVariables false

theorem setBlock_twice (w : World) (b : Nat) (x y : Obj) : setBlock (setBlock w b x) b y = setBlock w b y := by
  simp [setBlock]

section
variable {H : Type} {P : Program} {w : World} {t k e : TypeId} {R : Value → Option (DataW H × List MemPlace)} {b : Nat} {es : Array MapEntry} {clock : Nat}

theorem entry_run (K : WideMaps.KeyLaw P k) (ht : P.underlying t = some (.map k e)) {z : Value} (hz : ∀ u : World, (zeroValue e).run P u = .ok z u) (hb : w.heap[b]? = some (.map es clock)) (F : Fit P k R es clock)
    {key : Value} {kl : Lit} (hkey : keyOf P k key = some kl) {v : Value} (hl : (Instr.lookup t (.map (some b)) key false).run P w = .ok v w) :
    ∃ (st : Nat) (W1 : World), (Instr.mapEntry t (.map (some b)) key).run P w = .ok (.tuple #[v, goInt st]) W1 ∧ (Instr.mapUpdate t (.map (some b)) key v).run P w = .ok () W1 ∧
      ∀ val, ∃ W2, (Instr.entryStore t (.map (some b)) (goInt st) val).run P W1 = .ok () W2 ∧ (Instr.mapUpdate t (.map (some b)) key val).run P w = .ok () W2 := by
  obtain ⟨v0, st, es1, clock1, hrun, hv0, hst⟩ := entry_then_store K ht hz hb F hkey
  have hb1 : (setBlock w b (.map es1 clock1)).heap[b]? = some (.map es1 clock1) := ChangeMaps.heap_setBlock_same hb _
  have key1 : v0 = v ∧ (Instr.mapUpdate t (.map (some b)) key v0).run P w = .ok () (setBlock w b (.map es1 clock1)) := by
    rcases K.find w hkey es.toList F.keys with ⟨h1, h2⟩ | ⟨j, e0, h1, h2, h3⟩
    · simp [Instr.mapEntry, run_underlying ht, MapKept.run_getObj_map hb, K.check w false hkey, h1, hz, MapKept.run_setObj_map _ hb, Result.andThen] at hrun
      simp [Instr.lookup, run_underlying ht, MapKept.run_getObj_map hb, K.check w es.isEmpty hkey, h1, hz, Result.andThen] at hl
      obtain ⟨⟨rfl, _⟩, hw⟩ := hrun
      refine ⟨hl, ?_⟩
      rw [← hw]
      simp [Instr.mapUpdate, run_underlying ht, MapKept.run_getObj_map hb, K.check w false hkey, h1, MapKept.run_setObj_map _ hb, Result.andThen]
    · have hj : es[j]? = some e0 := by simpa using h2
      have hmm : es.modify j (fun e => { key := key, val := e0.val, born := e.born }) = es.modify j (fun e => { key := key, val := e.val, born := e.born }) := by
        apply Array.ext'
        rw [Array.toList_modify, Array.toList_modify, ChangeMaps.modify_eq_set _ _ _ _ h2, ChangeMaps.modify_eq_set _ _ _ _ h2]
      simp [Instr.mapEntry, run_underlying ht, MapKept.run_getObj_map hb, K.check w false hkey, h1, hj, h3, K.stays w hkey, MapKept.run_setObj_map _ hb, Result.andThen] at hrun
      simp [Instr.lookup, run_underlying ht, MapKept.run_getObj_map hb, K.check w es.isEmpty hkey, h1, Result.andThen] at hl
      obtain ⟨⟨rfl, _⟩, hw⟩ := hrun
      refine ⟨hl, ?_⟩
      rw [← hw]
      simp [Instr.mapUpdate, run_underlying ht, MapKept.run_getObj_map hb, K.check w false hkey, h1, hj, h3, K.stays w hkey, MapKept.run_setObj_map _ hb, Result.andThen]
      rw [hmm]
  obtain ⟨rfl, hup⟩ := key1
  refine ⟨st, _, hrun, hup, fun val => ?_⟩
  obtain ⟨es', clock', h1, h2⟩ := hst _ val hb1
  exact ⟨_, h1, by rw [setBlock_twice]; exact h2⟩
end

theorem Counts.entry {w : World} {B n : Nat} {f : Lit → Int} (h : Counts w 44 B n f) (hn : n < maxLen) {key : Value} {kl : Lit} (hk : keyOf Tryd.prog 44 key = some kl) {c : Int} (hc : (Lit.int .i64 c).wf = true) :
    ∃ (st : Nat) (W1 W2 : World), (Instr.mapEntry 41 (.map (some B)) key).run Tryd.prog w = .ok (.tuple #[.int .i64 (f kl), .int .i64 (st : Int)]) W1 ∧
      (Instr.lookup 41 (.map (some B)) key false).run Tryd.prog W1 = .ok (.int .i64 (f kl)) W1 ∧
      (Instr.entryStore 41 (.map (some B)) (.int .i64 (st : Int)) (.int .i64 c)).run Tryd.prog W1 = .ok () W2 ∧ Counts W2 44 B (n + 1) (upd f kl c) ∧ w.grownBy W2 (some B) := by
  have hlk := h.look law44 Tryd.underlying41 hk
  obtain ⟨W0, hu0, hC0, _⟩ := h.store law44 Tryd.underlying41 hn hk hlk.2
  obtain ⟨W2', hu2, hC2, hg2⟩ := h.store law44 Tryd.underlying41 hn hk hc
  obtain ⟨D, ⟨es, clock, hbk, F, hs, hD⟩, hf⟩ := h
  obtain ⟨st, W1, h1, h2, h3⟩ := entry_run law44' Tryd.underlying41 (fun u => zero3 u) hbk F hk hlk.1
  obtain ⟨W2, h4, h5⟩ := h3 (.int .i64 c)
  rw [hu0] at h2
  cases h2
  rw [hu2] at h5
  cases h5
  have hlk1 := (hC0.look law44 Tryd.underlying41 hk).1
  rw [upd_same (law44.key hk)] at hlk1
  exact ⟨st, _, _, h1, hlk1, h4, hC2, hg2⟩
end Go.Proofs.YtmgboljcdhegiaaDoor
