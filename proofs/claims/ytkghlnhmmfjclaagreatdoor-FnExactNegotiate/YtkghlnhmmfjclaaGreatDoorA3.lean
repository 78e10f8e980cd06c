/-
  What impl asks of asks and offers, piece by piece. No statement of the seat is proved here.
-/
import Derived.Test.YtkghlnhmmfjclaaGreatDoorA2
import Derived.Laws.ResultCell
import Derived.Deep.CutRange
namespace Go.Proofs.YtkghlnhmmfjclaaGreatDoor
open Go.ChangeShapes Go.WideShapes Go.ChangeAt Go.RowKit Go.Maps
open Go.ChangeMaps (setBlock)
open Go.WideElems (Fit entry_then_store)
set_option linter.unusedVariables false

/-! Keys: a name and a version. -/
theorem laidOut : laidOutB Tryz.prog = true := by kernel_rfl
theorem row44 : (56 : TypeId) < Tryz.prog.types.size := of_decide_eq_true (by kernel_rfl)
theorem wide44 : (match Tryz.prog.underlying 56 with | some (.array _ _) | some (.struct _) => true | _ => false) = true := by kernel_rfl
set_option maxRecDepth 100000 in
theorem law44' : WideMaps.KeyLaw Tryz.prog 56 := deep_law_laid laidOut (m := 3) (by omega) row44 (by kernel_rfl) wide44
theorem law44 : Keyed Tryz.prog 56 := Keyed.of_law law44'
def pickVal (s : ByteArray) (v : Int) : Value := .agg #[.string s, .int .i64 v]
theorem key44 {s : ByteArray} {v : Int} (h : s.size ≤ maxLen) (hv : (Lit.int .i64 v).wf = true) : ∃ kl, keyOf Tryz.prog 56 (pickVal s v) = some kl := by
  have h1 : Tryz.prog.keyType 56 = true := by kernel_rfl
  have h2 : Tryz.prog.cellsOf 56 = 2 := by kernel_rfl
  have h3 : Tryz.prog.cellsOf 9 = 1 := by kernel_rfl
  have h4 : Tryz.prog.cellsOf 3 = 1 := by kernel_rfl
  have h5 : Tryz.prog.types.size + 1 = 153 + 1 + 1 := by kernel_rfl
  have e9 : ∀ d, Tryz.prog.keyLits (d + 1) 9 [.string s] = some [.string s.data.toList] := fun d => by
    simp only [Program.keyLits, Tryz.underlying9, h, if_true]
  have e3 : ∀ d, Tryz.prog.keyLits (d + 1) 3 [.int .i64 v] = some [.int .i64 v] := fun d => by
    simp only [Program.keyLits, Tryz.underlying3, hv, and_self, if_true]
  have e44 : ∀ d, Tryz.prog.keyLits (d + 1 + 1) 56 [.string s, .int .i64 v] = some [.string s.data.toList, .int .i64 v] := fun d => by
    unfold Program.keyLits
    rw [Tryz.underlying56]
    dsimp only
    rw [h2, if_pos ⟨rfl, by simp⟩]
    simp [h3, h4, e9, e3]
  unfold keyOf
  rw [Tryz.underlying56]
  dsimp only
  have hf : (pickVal s v).formed Tryz.prog 56 = true := by
    unfold pickVal Value.formed
    rw [Tryz.underlying56, h2]
    rfl
  rw [h1, hf, Bool.and_self, if_pos rfl, h5]
  have hc : (pickVal s v).cells.toList = [.string s, .int .i64 v] := rfl
  rw [hc, e44 153]
  exact ⟨_, rfl⟩
theorem key44_inj {s s' : ByteArray} {v v' : Int} {kl : Lit} (h : keyOf Tryz.prog 56 (pickVal s v) = some kl) (h' : keyOf Tryz.prog 56 (pickVal s' v') = some kl) : s = s' ∧ v = v' := by
  have := law44.inj h h'
  simp [pickVal] at this
  exact this
theorem setBlock_twice (w : World) (b : Nat) (x y : Obj) : setBlock (setBlock w b x) b y = setBlock w b y := by
  simp [setBlock]

section
variable {H : Type} {P : Program} {w : World} {t k e : TypeId} {R : Value → Option (DataW H × List MemPlace)} {b : Nat} {es : Array MapEntry} {clock : Nat}

theorem entry_run (K : WideMaps.KeyLaw P k) (ht : P.underlying t = some (.map k e)) {z : Value} (hz : ∀ u : World, (zeroValue e).run P u = .ok z u) (hb : w.heap[b]? = some (.map es clock)) (F : Fit P k R es clock)
    {key : Value} {kl : Lit} (hkey : keyOf P k key = some kl) {v : Value} (hl : (Instr.lookup t (.map (some b)) key false).run P w = .ok v w) :
    ∃ (st : Nat) (W1 : World), (Instr.mapEntry t (.map (some b)) key).run P w = .ok (.tuple #[v, goInt st]) W1 ∧ (Instr.mapUpdate t (.map (some b)) key v).run P w = .ok () W1 ∧
      ∀ val, ∃ W2, (Instr.entryStore t (.map (some b)) (goInt st) val).run P W1 = .ok () W2 ∧ (Instr.mapUpdate t (.map (some b)) key val).run P w = .ok () W2 := by
  obtain ⟨v0, st, es1, clock1, hrun, hv0, hst⟩ := entry_then_store K ht hz hb F hkey
  have hb1 : (setBlock w b (.map es1 clock1)).heap[b]? = some (.map es1 clock1) := ChangeMaps.heap_setBlock_same hb _
  have key1 : v0 = v ∧ (Instr.mapUpdate t (.map (some b)) key v0).run P w = .ok () (setBlock w b (.map es1 clock1)) := by
    rcases K.find w hkey es.toList F.keys with ⟨h1, h2⟩ | ⟨j, e0, h1, h2, h3⟩
    · simp [Instr.mapEntry, run_underlying ht, MapKept.run_getObj_map hb, K.check w false hkey, h1, hz, MapKept.run_setObj_map _ hb, Result.andThen] at hrun
      simp [Instr.lookup, run_underlying ht, MapKept.run_getObj_map hb, K.check w es.isEmpty hkey, h1, hz, Result.andThen] at hl
      obtain ⟨⟨rfl, _⟩, hw⟩ := hrun
      refine ⟨hl, ?_⟩
      rw [← hw]
      simp [Instr.mapUpdate, run_underlying ht, MapKept.run_getObj_map hb, K.check w false hkey, h1, MapKept.run_setObj_map _ hb, Result.andThen]
    · have hj : es[j]? = some e0 := by simpa using h2
      have hmm : es.modify j (fun e => { key := key, val := e0.val, born := e.born }) = es.modify j (fun e => { key := key, val := e.val, born := e.born }) := by
        apply Array.ext'
        rw [Array.toList_modify, Array.toList_modify, ChangeMaps.modify_eq_set _ _ _ _ h2, ChangeMaps.modify_eq_set _ _ _ _ h2]
      simp [Instr.mapEntry, run_underlying ht, MapKept.run_getObj_map hb, K.check w false hkey, h1, hj, h3, K.stays w hkey, MapKept.run_setObj_map _ hb, Result.andThen] at hrun
      simp [Instr.lookup, run_underlying ht, MapKept.run_getObj_map hb, K.check w es.isEmpty hkey, h1, Result.andThen] at hl
      obtain ⟨⟨rfl, _⟩, hw⟩ := hrun
      refine ⟨hl, ?_⟩
      rw [← hw]
      simp [Instr.mapUpdate, run_underlying ht, MapKept.run_getObj_map hb, K.check w false hkey, h1, hj, h3, K.stays w hkey, MapKept.run_setObj_map _ hb, Result.andThen]
      rw [hmm]
  obtain ⟨rfl, hup⟩ := key1
  refine ⟨st, _, hrun, hup, fun val => ?_⟩
  obtain ⟨es', clock', h1, h2⟩ := hst _ val hb1
  exact ⟨_, h1, by rw [setBlock_twice]; exact h2⟩
end

theorem Counts.entry {w : World} {B n : Nat} {f : Lit → Int} (h : Counts w 56 B n f) (hn : n < maxLen) {key : Value} {kl : Lit} (hk : keyOf Tryz.prog 56 key = some kl) {c : Int} (hc : (Lit.int .i64 c).wf = true) :
    ∃ (st : Nat) (W1 W2 : World), (Instr.mapEntry 100 (.map (some B)) key).run Tryz.prog w = .ok (.tuple #[.int .i64 (f kl), .int .i64 (st : Int)]) W1 ∧
      (Instr.lookup 100 (.map (some B)) key false).run Tryz.prog W1 = .ok (.int .i64 (f kl)) W1 ∧
      (Instr.entryStore 100 (.map (some B)) (.int .i64 (st : Int)) (.int .i64 c)).run Tryz.prog W1 = .ok () W2 ∧ Counts W2 56 B (n + 1) (upd f kl c) ∧ w.grownBy W2 (some B) := by
  have hlk := h.look law44 Tryz.underlying100 hk
  obtain ⟨W0, hu0, hC0, _⟩ := h.store law44 Tryz.underlying100 hn hk hlk.2
  obtain ⟨W2', hu2, hC2, hg2⟩ := h.store law44 Tryz.underlying100 hn hk hc
  obtain ⟨D, ⟨es, clock, hbk, F, hs, hD⟩, hf⟩ := h
  obtain ⟨st, W1, h1, h2, h3⟩ := entry_run law44' Tryz.underlying100 (fun u => zero3 u) hbk F hk hlk.1
  obtain ⟨W2, h4, h5⟩ := h3 (.int .i64 c)
  rw [hu0] at h2
  cases h2
  rw [hu2] at h5
  cases h5
  have hlk1 := (hC0.look law44 Tryz.underlying100 hk).1
  rw [upd_same (law44.key hk)] at hlk1
  exact ⟨st, _, _, h1, hlk1, h4, hC2, hg2⟩

/-- f holds 1 of each of these, 0 of all others. -/
def SeenK (f : Lit → Int) (pre : List Pk) : Prop := ∀ (nm : ByteArray) (ve : Int) (kl : Lit), keyOf Tryz.prog 56 (pickVal nm ve) = some kl → f kl = if pre.any (fun q => sameK q ⟨nm, ve⟩) then 1 else 0
theorem SeenK.put {f : Lit → Int} {pre : List Pk} (h : SeenK f pre) {x : Pk} {kx : Lit} (hk : keyOf Tryz.prog 56 (pickVal x.name x.ver) = some kx) : SeenK (upd f kx 1) (pre ++ [x]) := by
  intro nm ve kl hkl
  have ha : (pre ++ [x]).any (fun q => sameK q ⟨nm, ve⟩) = (pre.any (fun q => sameK q ⟨nm, ve⟩) || (x.name.toList == nm.toList && x.ver == ve)) := by
    rw [List.any_append]; simp [sameK]
  by_cases e : kl = kx
  · subst e
    obtain ⟨h1, h2⟩ := key44_inj hk hkl
    rw [upd_same (law44.key hk), ha, h1, h2]
    simp
  · rw [upd_other e, h nm ve kl hkl, ha]
    have hne : (x.name.toList == nm.toList && x.ver == ve) = false := by
      rw [beq_bytes]
      cases hd : (decide (x.name = nm) && x.ver == ve)
      · rfl
      · simp at hd
        rw [hd.1, hd.2, hkl] at hk
        exact absurd (Option.some.inj hk) e
    rw [hne, Bool.or_false]
def Kept (l : List Pk) : Prop := ∀ x ∈ l, x.name.size ≤ 1048576 ∧ (Lit.int .i64 x.ver).wf = true
set_option maxRecDepth 100000 in
set_option maxHeartbeats 4000000 in
theorem implTwiceK {S : Nat → Prop} {l : List Pk} {v : Value} {w : World} (hS : ∀ b, S b → b < w.heap.size) (h : PksAt S w v l) (hl : l.length ≤ 1000000) (hz : Kept l) :
    Calls Tryz.prog 60 #[v] w fun e w' => (∃ a b, e = .returned (.tuple #[.agg #[.string a, .int .i64 b], .bool (dupK l [])])) ∧ Below w.heap.size w w' := by
  have hmm := @run_makeMap Tryz.prog
  obtain ⟨hlm, a, cap, rfl, hc⟩ := h
  have HC : Hid _ := hc
  have hlen' : (l.length : Int) ≤ 1000000 := by omega
  have HZ : Hid (Kept l) := hz
  clear hc hz hlm
  obtain ⟨F, hF⟩ : ∃ F, dupK l [] = F := ⟨_, rfl⟩
  rw [hF]
  have HF : Hid (dupK l [] = F) := hF
  clear hF
  have HM : Hid (Counts ((w.alloc (.cells #[.string ⟨#[]⟩, .int .i64 0] 56)).alloc (.map #[] 0)) 56 (w.heap.size + 1) 0 (fun _ => 0)) := by
    have := Counts.made (w.alloc (.cells #[.string ⟨#[]⟩, .int .i64 0] 56)) 56
    rwa [World.size_alloc] at this
  have HRB : Hid (Blk ((w.alloc (.cells #[.string ⟨#[]⟩, .int .i64 0] 56)).alloc (.map #[] 0)) w.heap.size 56 #[.string ⟨#[]⟩, .int .i64 0]) := Blk.below (heap_alloc_last w _) ((Below.refl _ _).alloc (Nat.le_refl _) _)
  go_enter Tryz.func60, Tryz.ntmps60
  go_wp2_with fail
  go_loopw [11] (fun i11 wr => ∃ (k : Nat) (f : Lit → Int), i11 = .int .i64 (k : Int) ∧ k ≤ l.length ∧ Counts wr 56 (w.heap.size + 1) k f ∧ SeenK f (l.take k) ∧ dupK (l.drop k) (l.take k) = F ∧ Blk wr w.heap.size 56 #[.string ⟨#[]⟩, .int .i64 0] ∧ Below w.heap.size w wr) (fun i11 _ => l.length - (intOf i11).toNat)
  case atStart => exact ⟨0, _, rfl, by omega, HM.out, fun nm ve kl hk => by simp, by simpa using HF.out, HRB.out, ((Below.refl _ w).alloc (Nat.le_refl _) _).alloc (by simp) _⟩
  case round =>
    obtain ⟨k, f, rfl, hk, hcn, hse, hfr, hrb, hb⟩ := hrel
    have HCN : Hid (Counts wr 56 (w.heap.size + 1) k f) := hcn
    have HSE : Hid (SeenK f (l.take k)) := hse
    have HFR : Hid (dupK (l.drop k) (l.take k) = F) := hfr
    have HRB2 : Hid (Blk wr w.heap.size 56 #[.string ⟨#[]⟩, .int .i64 0]) := hrb
    have hlt := hcn.lt
    have hbs := hb.size
    clear hcn hse hfr hrb
    by_cases hkn : k < l.length
    · have hkn' : (k : Int) < (l.length : Int) := by omega
      obtain ⟨b, off, rfl, hbB, hcell⟩ := HC.out (by omega)
      obtain ⟨x1, x2⟩ := hcell k hkn
      have hbw := hS b hbB
      have d1 := (hb.cell (p := ⟨b, off + k * 2, none⟩) hbw).trans x1
      have d2 := (hb.cell (p := ⟨b, off + k * 2 + 1, none⟩) hbw).trans x2
      have hfr := HFR.out
      rw [List.drop_eq_getElem_cons hkn] at hfr
      have hz := HZ.out l[k] (List.getElem_mem hkn)
      have htk : l.take (k + 1) = l.take k ++ [l[k]] := List.take_succ_eq_append_getElem hkn
      obtain ⟨x, hx⟩ : ∃ x, l[k] = x := ⟨_, rfl⟩
      rw [hx] at d1 d2 hfr hz htk
      clear hx hcell x1 x2
      obtain ⟨nm, ve⟩ := x
      dsimp only at d1 d2 hz
      simp only [dupK] at hfr
      have HTK : Hid (l.take (k + 1) = l.take k ++ [⟨nm, ve⟩]) := htk
      clear htk HFR
      obtain ⟨kl, hkl⟩ := key44 (s := nm) (v := ve) (by have := hz.1; simp [maxLen]; omega) hz.2
      have HKL : Hid (keyOf Tryz.prog 56 (pickVal nm ve) = some kl) := hkl
      clear hkl hz
      have hfk := HSE.out nm ve kl HKL.out
      obtain ⟨P1, hP1⟩ : ∃ P1, ((l.take k).any fun q => sameK q ⟨nm, ve⟩) = P1 := ⟨_, rfl⟩
      rw [hP1] at hfk hfr
      have HP1 : Hid _ := hP1
      clear hP1
      have hbA : Below w.heap.size w (wr.alloc (.cells #[.string nm, .int .i64 ve] 56)) := hb.alloc hbs _
      have hcA : Counts (wr.alloc (.cells #[.string nm, .int .i64 ve] 56)).drew 56 (w.heap.size + 1) k f := Counts.alloc HCN.out _
      have hbk : Blk (wr.alloc (.cells #[.string nm, .int .i64 ve] 56)).drew wr.heap.size 56 #[.string nm, .int .i64 ve] := heap_alloc_last wr _
      have hrA : Blk (wr.alloc (.cells #[.string nm, .int .i64 ve] 56)).drew w.heap.size 56 #[.string ⟨#[]⟩, .int .i64 0] := HRB2.out.below ((Below.refl _ wr).alloc (Nat.le_refl _) _).drew
      have hlk := (hcA.look law44 Tryz.underlying100 HKL.out).1
      have q0 := hbk.cell 0
      have q1 := hbk.cell 1
      simp at q0 q1
      go_upto_region 5 with fail
      cases P1
      · rw [if_neg (by simp)] at hfk
        obtain ⟨st, W1, W2, g1, g2, g3, g4, g5⟩ := hcA.entry (by simp [maxLen]; omega) HKL.out (c := 1) (by decide)
        rw [hfk] at g1 g2 hlk
        unfold pickVal at g1 g2 hlk
        rw [if_neg (by simp)] at hfr
        have HC2 : Hid (Counts W2 56 (w.heap.size + 1) (k + 1) (upd f kl 1)) := g4
        have hkb : Blk W2 wr.heap.size 56 #[.string nm, .int .i64 ve] := (g5.block wr.heap.size (by show wr.heap.size < (wr.alloc _).heap.size; simp only [World.size_alloc]; omega) (by simp; omega)).trans hbk
        have hrB : Blk W2 w.heap.size 56 #[.string ⟨#[]⟩, .int .i64 0] := (g5.block w.heap.size (by show w.heap.size < (wr.alloc _).heap.size; simp only [World.size_alloc]; omega) (by simp)).trans hrA
        have hbB2 : Below w.heap.size w W2 := hbA.drew.grown g5 (by show w.heap.size ≤ (wr.alloc _).heap.size; simp only [World.size_alloc]; omega) (fun j hj => by cases hj; omega)
        have hl2 := (Counts.look HC2.out law44 Tryz.underlying100 HKL.out).1
        rw [upd_same (law44.key HKL.out)] at hl2
        unfold pickVal at hl2
        have k0 := hkb.cell 0
        have k1 := hkb.cell 1
        simp at k0 k1
        have HRB3 : Hid (Blk W2 w.heap.size 56 #[.string ⟨#[]⟩, .int .i64 0]) := hrB
        clear hfk g4 g5 hcA hkb hrA hrB hbk
        go_cut [11] from 15 to 26 (fun s11 wx => s11 = .int .i64 (k : Int) ∧ wx = W2)
        case first =>
          go_region
          all_goals
            go_wp2_with fail
            go_meet
            exact ⟨rfl, rfl⟩
        case rest =>
          obtain ⟨rfl, rfl⟩ := hcut
          clear g1 g2 g3 hlk q0 q1
          go_wp2_with fail
          refine ⟨⟨k + 1, _, by go_num, by omega, HC2.out, ?_, ?_, HRB3.out, hbB2⟩, by simp [intOf]; omega⟩
          · rw [HTK.out]; exact SeenK.put HSE.out (x := ⟨nm, ve⟩) HKL.out
          · rw [HTK.out]; exact hfr
      · rw [if_pos rfl] at hfk
        obtain ⟨st, W1, W2, g1, g2, g3, g4, g5⟩ := hcA.entry (by simp [maxLen]; omega) HKL.out (c := 2) (by decide)
        rw [hfk] at g1 g2 hlk
        unfold pickVal at g1 g2 hlk
        rw [if_pos rfl] at hfr
        have HC2 : Hid (Counts W2 56 (w.heap.size + 1) (k + 1) (upd f kl 2)) := g4
        have hkb : Blk W2 wr.heap.size 56 #[.string nm, .int .i64 ve] := (g5.block wr.heap.size (by show wr.heap.size < (wr.alloc _).heap.size; simp only [World.size_alloc]; omega) (by simp; omega)).trans hbk
        have hrB : Blk W2 w.heap.size 56 #[.string ⟨#[]⟩, .int .i64 0] := (g5.block w.heap.size (by show w.heap.size < (wr.alloc _).heap.size; simp only [World.size_alloc]; omega) (by simp)).trans hrA
        have hbB2 : Below w.heap.size w W2 := hbA.drew.grown g5 (by show w.heap.size ≤ (wr.alloc _).heap.size; simp only [World.size_alloc]; omega) (fun j hj => by cases hj; omega)
        have hl2 := (Counts.look HC2.out law44 Tryz.underlying100 HKL.out).1
        rw [upd_same (law44.key HKL.out)] at hl2
        unfold pickVal at hl2
        have k0 := hkb.cell 0
        have k1 := hkb.cell 1
        simp at k0 k1
        have HRB3 : Hid (Blk W2 w.heap.size 56 #[.string ⟨#[]⟩, .int .i64 0]) := hrB
        clear hfk g4 g5 hcA hkb hrA hrB hbk
        go_cut [11] from 15 to 26 (fun s11 wx => s11 = .int .i64 (k : Int) ∧ wx = W2)
        case first =>
          go_region
          all_goals
            go_wp2_with fail
            go_meet
            exact ⟨rfl, rfl⟩
        case rest =>
          obtain ⟨rfl, rfl⟩ := hcut
          clear g1 g2 g3 hlk q0 q1
          subst hfr
          have f0 := HRB3.out.fro 0
          have f1 := HRB3.out.fro 1
          have c0 := HRB3.out.cell 0
          have c1 := HRB3.out.cell 1
          have hs := ((HRB3.out.set 0 (.string nm)).set 1 (.int .i64 ve))
          have t0 := hs.cell 0
          have t1 := hs.cell 1
          simp at t0 t1 c0 c1
          clear hs
          go_wp2_with fail
          refine bodyPost_ret (v := .tuple #[.agg #[.string nm, .int .i64 ve], .bool true]) (by rw [results_cell_tmp Tryz.results60]; simp [go_sem, t0, t1]) rfl ⟨⟨_, _, rfl⟩, (hbB2.setCell (Nat.le_refl _) _).setCell (Nat.le_refl _) _⟩
    · have hkn' : ¬ ((k : Int) < (l.length : Int)) := by omega
      have hfr := HFR.out
      rw [List.drop_eq_nil_of_le (by omega)] at hfr
      simp only [dupK] at hfr
      subst hfr
      have hrb := HRB2.out.below ((Below.refl _ wr).alloc (Nat.le_refl _) (.cells #[.string ⟨#[]⟩, .int .i64 0] 56))
      have f0 := hrb.fro 0
      have f1 := hrb.fro 1
      have c0 := hrb.cell 0
      have c1 := hrb.cell 1
      have n0 : Blk (wr.alloc (.cells #[.string ⟨#[]⟩, .int .i64 0] 56)) wr.heap.size 56 #[.string ⟨#[]⟩, .int .i64 0] := heap_alloc_last wr _
      have e0 := n0.cell 0
      have e1 := n0.cell 1
      simp at c0 c1 e0 e1
      have hs := ((hrb.set 0 (.string ⟨#[]⟩)).set 1 (.int .i64 0))
      have t0 := hs.cell 0
      have t1 := hs.cell 1
      simp at t0 t1
      have hbZ : Below w.heap.size w (wr.alloc (.cells #[.string ⟨#[]⟩, .int .i64 0] 56)) := hb.alloc hbs _
      clear hrb n0 hs
      go_wp2_with fail
      refine bodyPost_ret (v := .tuple #[.agg #[.string ⟨#[]⟩, .int .i64 0], .bool false]) (by rw [results_cell_tmp Tryz.results60]; simp [go_sem, t0, t1]) rfl ⟨⟨_, _, rfl⟩, (hbZ.setCell (Nat.le_refl _) _).setCell (Nat.le_refl _) _⟩
set_option maxRecDepth 100000 in
theorem implSingleK {S : Nat → Prop} {l : List Pk} {v : Value} {w : World} (hS : ∀ b, S b → b < w.heap.size) (h : PksAt S w v l) (hl : l.length ≤ 1000000) (hz : Kept l) :
    Calls Tryz.prog 44 #[v] w fun e w' => e = .returned (.bool (!dupK l [])) ∧ Below w.heap.size w w' := by
  have c := implTwiceK hS h hl hz
  obtain ⟨a, cap, rfl⟩ := h.shape
  obtain ⟨b, hb⟩ : ∃ b, dupK l [] = b := ⟨_, rfl⟩
  rw [hb] at c ⊢
  clear hb h hz
  go_enter Tryz.func44, Tryz.ntmps44
  go_wp2_with (go_at_call 60; go_must (refine c.mono ?_; rintro e w1 ⟨⟨ta, tb, rfl⟩, hb1⟩))
  go_ret
  exact ⟨by simp, hb1.alloc hb1.size _⟩
set_option maxRecDepth 100000 in
theorem implSingle (ss : List ByteArray) (a : Option Addr) (cap : Nat) (w : World) (hlen : ss.length ≤ 1000000) (hz : ∀ s ∈ ss, s.size ≤ 1048576) (hc : 0 < ss.length → ∃ g, a = some ⟨g, 0, none⟩ ∧ g < w.heap.size ∧ ∀ j (hj : j < ss.length), w.cell? ⟨g, j, none⟩ = some (.string ss[j])) :
    Calls Tryz.prog 46 #[.slice a ss.length cap] w fun e w' => e = .returned (.bool (!dupFrom ss [])) ∧ Below w.heap.size w w' := by
  have c := implTwice ss a cap w hlen hz hc
  obtain ⟨b, hb⟩ : ∃ b, dupFrom ss [] = b := ⟨_, rfl⟩
  rw [hb] at c ⊢
  clear hb hc hz
  go_enter Tryz.func46, Tryz.ntmps46
  go_wp2_with (go_at_call 61; go_must (refine c.mono ?_; rintro e w1 ⟨⟨t, rfl⟩, hb1⟩))
  go_ret
  exact ⟨by simp, hb1⟩
set_option maxRecDepth 100000 in
theorem implMax2 (a b : Int) (g : Nat) (w : World) (h0 : w.cell? ⟨g, 0, none⟩ = some (.int .i64 a)) (h1 : w.cell? ⟨g, 1, none⟩ = some (.int .i64 b)) : Calls Tryz.prog 41 #[.slice (some ⟨g, 0, none⟩) 2 2] w fun e w' => (∃ m : Int, e = .returned (.int .i64 m) ∧ decide (4096 < m) = (decide (4096 < a) || decide (4096 < b))) ∧ w' = w := by
  go_enter Tryz.func41, Tryz.ntmps41
  go_wp2
  refine wp_loop_rounds 2 ?_
  rw [rounds_succ]
  go_wp2
  rw [rounds_succ]
  go_wp2
  go_ret
  refine ⟨⟨_, rfl, ?_⟩, rfl⟩
  rw [Bool.eq_iff_iff]
  simp only [decide_eq_true_eq, Bool.or_eq_true]
  omega
set_option maxRecDepth 100000 in
theorem implLong2 (a b : Int) (g : Nat) (w : World) (h0 : w.cell? ⟨g, 0, none⟩ = some (.int .i64 a)) (h1 : w.cell? ⟨g, 1, none⟩ = some (.int .i64 b)) : Calls Tryz.prog 28 #[.slice (some ⟨g, 0, none⟩) 2 2] w fun e w' => e = .returned (.bool (decide (4096 < a) || decide (4096 < b))) ∧ w' = w := by
  have cm := implMax2 a b g w h0 h1
  go_enter Tryz.func28, Tryz.ntmps28
  go_wp2_with (go_at_call 41; go_must (refine cm.mono ?_; rintro e w1 ⟨⟨m, rfl, hm⟩, rfl⟩))
  go_ret
  exact ⟨rfl, rfl⟩
theorem two_newI (w : World) (a b : Int) (g : Nat) (hg : g = w.heap.size) : (w.alloc (.cells #[.int .i64 a, .int .i64 b] 3)).cell? ⟨g, 0, none⟩ = some (.int .i64 a) ∧ (w.alloc (.cells #[.int .i64 a, .int .i64 b] 3)).cell? ⟨g, 1, none⟩ = some (.int .i64 b) := by
  subst hg
  have h : Blk (w.alloc (.cells #[.int .i64 a, .int .i64 b] 3)) w.heap.size 3 #[.int .i64 a, .int .i64 b] := heap_alloc_last w _
  exact ⟨h.cell 0, h.cell 1⟩
end Go.Proofs.YtkghlnhmmfjclaaGreatDoor
