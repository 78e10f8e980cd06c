/-
  impl's reach: its walk. 'm[k]++' where the key's entry is taken first: what the entry and the store into it leave is what a plain store leaves. A map from releases to rows of needs; a shelf: releases, their needs, wishes. impl's steps: what the needs of a release reach. What a search holds: its row of strides, the places it has come to. What a search enters: its walk. impl's search: its walk; rows. impl's rows: how each reached release was come to; copies of texts and of releases. spec.l04Over: the least need that is passed. spec.l04Choose: what it answers, as a function of the store and the wishes. No statement of the seat is proved here.
-/
import Derived.Test.YteokcdobapkkhaaGreatDoorCj2
import Derived.Deep.RegionHeld3
namespace Go.Proofs.YteokcdobapkkhaaGreatDoor
open Go.ChangeShapes Go.WideShapes Go.ChangeAt Go.RowKit
set_option linter.unusedVariables false

set_option maxRecDepth 100000 in
set_option maxHeartbeats 4000000 in
theorem implReach {S : Nat → Prop} {B : Nat} {w : World} {rv mv wv u : Value} {R : List Pk} {ns : List Imp} (hS : ∀ b, S b → b < w.heap.size) (hR : OwnP B w rv R) (hRl : R.length ≤ 1000000) (hRs : R.Pairwise fun x y => pkLess y x = false) (hI : ImpsAt S w u ns) (hns : ns.length ≤ 100000) (hmv : ∃ mb, mv = .map mb) (hwv : ∃ a n c, wv = .slice a n c) :
    Calls Tryz.prog 52 #[.agg #[rv, mv, wv], u] w fun e w' => (∃ p q f, e = .returned (.tuple #[p, q]) ∧ Sorted (foundOf R ns) f ∧ OwnP w.heap.size w' p f ∧ OwnS w.heap.size w' q (missOf R ns)) ∧ Below w.heap.size w w' := by
  obtain ⟨mb, rfl⟩ := hmv
  obtain ⟨wa, wn, wc, rfl⟩ := hwv
  have HR : Hid (OwnP B w rv R) := hR
  have HI : Hid (ImpsAt S w u ns) := hI
  have HS : Hid _ := hS
  have HRS : Hid _ := hRs
  obtain ⟨ra, rc, hrv, hrc⟩ := hR.value
  obtain ⟨ua, uc, huv⟩ := hI.shape
  subst hrv huv
  have HRC : Hid _ := hrc
  clear hR hI hS hRs hrc
  have hns' : (ns.length : Int) ≤ 100000 := by omega
  have hRl' : (R.length : Int) ≤ 1000000 := by omega
  have hbk0 : Blk (w.alloc (.cells #[.slice ra R.length rc, .map mb, .slice wa wn wc] 55)) w.heap.size 55 #[.slice ra R.length rc, .map mb, .slice wa wn wc] := heap_alloc_last w _
  have HB0 : Hid _ := hbk0
  have hb0 : Below w.heap.size w (w.alloc (.cells #[.slice ra R.length rc, .map mb, .slice wa wn wc] 55)) := (Below.refl _ w).alloc (Nat.le_refl _) _
  clear hbk0
  go_enter Tryz.func52, Tryz.ntmps52
  go_wp2_with (go_at_call 68; go_must (refine (implByTwo _).mono ?_; rintro e w1 ⟨⟨g1, g2, rfl, has, hg1, hg2⟩, hb1⟩))
  have HAS : Hid (Asks w1 g1 g2) := has
  have hbw1 := good_below hb0 hb1
  have HBX : Hid (Blk w1 w.heap.size 55 #[.slice ra R.length rc, .map mb, .slice wa wn wc]) := Blk.below HB0.out hb1
  clear has
  go_loopw [6, 7, 16] (fun i6 i7 i16 wr => ∃ (k : Nat), i16 = .int .i64 (k : Int) ∧ k ≤ ns.length ∧ OwnP w1.heap.size wr i6 (foundOf R (ns.take k)) ∧ OwnS w1.heap.size wr i7 (missOf R (ns.take k)) ∧ Below w1.heap.size w1 wr) (fun _ _ i16 _ => ns.length - (intOf i16).toNat)
  case atStart => exact ⟨0, rfl, by omega, ⟨rfl, .inl ⟨rfl, rfl⟩⟩, ⟨rfl, .inl ⟨rfl, rfl⟩⟩, Below.refl _ _⟩
  case round =>
    obtain ⟨k, rfl, hk, hop, hos, hb⟩ := hrel
    have hbW := good_below hbw1 hb
    have HOP : Hid (OwnP w1.heap.size wr u6 (foundOf R (ns.take k))) := hop
    have HOS : Hid (OwnS w1.heap.size wr u7 (missOf R (ns.take k))) := hos
    clear hop hos
    by_cases hkn : k < ns.length
    · have hkn' : (k : Int) < (ns.length : Int) := by omega
      obtain ⟨_, na, nc, hnv, hnc⟩ := (show ImpsAt S w (.slice ua ns.length uc) ns from HI.out)
      simp only [Value.slice.injEq] at hnv
      obtain ⟨rfl, _, rfl⟩ := hnv
      obtain ⟨b, off, rfl, hbS, hcell⟩ := hnc (by omega)
      obtain ⟨x1, x2, x3⟩ := hcell k hkn
      have hbw := HS.out b hbS
      have d1 := (hbW.cell (p := ⟨b, off + k * 3, none⟩) hbw).trans x1
      have d2 := (hbW.cell (p := ⟨b, off + k * 3 + 1, none⟩) hbw).trans x2
      have d3 := (hbW.cell (p := ⟨b, off + k * 3 + 2, none⟩) hbw).trans x3
      obtain ⟨x, hx⟩ : ∃ x, ns[k] = x := ⟨_, rfl⟩
      have HX : Hid (ns[k] = x) := hx
      rw [hx] at d1 d2 d3
      clear hx x1 x2 x3 hcell hnc
      obtain ⟨nm, mn, mx⟩ := x
      dsimp only at d1 d2 d3
      have hbA : Below wr.heap.size wr (wr.alloc (.cells #[.string nm, .int .i64 mn, .int .i64 mx] 34)) := (Below.refl _ wr).alloc (Nat.le_refl _) _
      have hbx : Blk (wr.alloc (.cells #[.string nm, .int .i64 mn, .int .i64 mx] 34)) w.heap.size 55 #[.slice ra R.length rc, .map mb, .slice wa wn wc] := (Blk.below HBX.out hb).below hbA
      have e0 := hbx.cell 0
      simp at e0
      have cf := implFind (OwnP.below HR.out (good_below hbW hbA)) hRl HRS.out ⟨nm, mn⟩ (Asks.below (Asks.below HAS.out hb) hbA)
      dsimp only at cf
      unfold cmpFn at cf
      have HBXA : Hid _ := hbx
      clear hbx
      go_upto_region 8 with (go_at_call 73; go_must (refine cf.mono ?_; rintro e w3 ⟨⟨q, bq, rfl, hcut⟩, hb3⟩))
      have hb3A := hbA.trans (hb3.mono (by simp))
      have hb3' := good_below hb hb3A
      have HOP3 : Hid (OwnP w1.heap.size w3 u6 (foundOf R (ns.take k))) := OwnP.below HOP.out hb3A
      have HOS3 : Hid (OwnS w1.heap.size w3 u7 (missOf R (ns.take k))) := OwnS.below HOS.out hb3A
      have bx3 : Blk w3 w.heap.size 55 #[.slice ra R.length rc, .map mb, .slice wa wn wc] := Blk.below HBXA.out hb3
      have by3 : Blk w3 wr.heap.size 34 #[.string nm, .int .i64 mn, .int .i64 mx] := Blk.below (heap_alloc_last wr _) hb3
      have f0 := bx3.cell 0
      have y0 := by3.cell 0
      simp at f0 y0
      have hb3W := good_below hbW hb3A
      clear bx3 by3 cf HOP HOS HBXA e0
      have HCUT : Hid (Cut R ⟨nm, mn⟩ q) := hcut
      clear hcut
      obtain ⟨ti, hti, ht0, ht1, ht2⟩ := info9
      by_cases hq : q < R.length
      · have hq' : (q : Int) < (R.length : Int) := by omega
        obtain ⟨g, rfl, hrc⟩ := HRC.out (by omega)
        obtain ⟨r1, r2⟩ := hrc q hq
        have hgw := cell_lt' r1
        have s1 := (hb3W.cell (p := ⟨g, q * 2, none⟩) hgw).trans r1
        have s2 := (hb3W.cell (p := ⟨g, q * 2 + 1, none⟩) hgw).trans r2
        have hrp := reach_in (m := ⟨nm, mn, mx⟩) HCUT.out hq
        obtain ⟨y, hy⟩ : ∃ y, R[q] = y := ⟨_, rfl⟩
        rw [hy] at s1 s2 hrp
        clear hy r1 r2 hrc
        obtain ⟨yn, yv⟩ := y
        dsimp only at s1 s2 hrp
        cases hne : yn.toList == nm.toList
        · rw [hne, if_neg (by simp)] at hrp
          have HRP : Hid (reachP R ns[k] = none) := (show reachP R ns[k] = none from by rw [HX.out]; exact hrp)
          clear hrp
          go_quiet (fail)
          go_wp2_with (at_builtin; go_must (refine wpList_appendS rfl (.tmp 56) (.tmp 59) 28 rfl Tryz.underlying28 ti hti ht0 ht1 ht2 w1.heap.size u7 (missOf R (ns.take k)) rfl (OwnS.below HOS3.out (((bel_drewN (Below.refl _ w3) nq)).alloc (by simp [World.drewN]) _)) ⟨w3.heap.size, 0, none⟩ 1 nm rfl (new_cell (w3.drewN nq) nm) (by have := miss_len R (ns.take k); simp at this; omega) (by have := hb3'.size; simp only [World.size_alloc]; exact Nat.le_trans this (Nat.le_succ _)) ?_; intro v4 w4 hown4 hB4 hgr4))
          have hbQ : Below w1.heap.size w1 ((w3.drewN nq).alloc (.cells #[.string nm] 9)) := (bel_drewN hb3' nq).alloc (by simpa [World.drewN] using hb3'.size) _
          have o1 : OwnP w1.heap.size ((w3.drewN nq).alloc (.cells #[.string nm] 9)) u6 (foundOf R (ns.take k)) := OwnP.below HOP3.out ((bel_drewN (Below.refl _ w3) nq).alloc (by simp [World.drewN]) _)
          have o2 : OwnS w1.heap.size ((w3.drewN nq).alloc (.cells #[.string nm] 9)) u7 (missOf R (ns.take k)) := OwnS.below HOS3.out ((bel_drewN (Below.refl _ w3) nq).alloc (by simp [World.drewN]) _)
          have hfm := found_miss (R := R) hkn HRP.out
          rw [HX.out] at hfm
          refine ⟨⟨k + 1, rfl, by omega, ?_, ?_, hbQ.trans hB4⟩, by simp [intOf]; omega⟩
          · rw [hfm.1]; exact o1.kept hgr4 (rows_apart (by decide) o1 o2)
          · rw [hfm.2]; exact hown4
        · rw [hne, if_pos rfl] at hrp
          have HRP : Hid (reachP R ns[k] = some ⟨yn, yv⟩) := (show reachP R ns[k] = some ⟨yn, yv⟩ from by rw [HX.out]; exact hrp)
          clear hrp
          go_quiet (fail)
          go_wp2_with (at_builtin; go_must (refine wpList_appendP rfl (.tmp 48) (.tmp 54) rfl w1.heap.size u6 (foundOf R (ns.take k)) rfl (OwnP.below HOP3.out ((bel_drewN (Below.refl _ w3) nq).alloc (by simp [World.drewN]) _)) ⟨w3.heap.size, 0, none⟩ ⟨yn, yv⟩ rfl (pk_new (w3.drewN nq) yn yv) (by have := found_len R (ns.take k); simp at this; omega) (by have := hb3'.size; simp only [World.size_alloc]; exact Nat.le_trans this (Nat.le_succ _)) ?_; intro v4 w4 hown4 hB4 hgr4))
          have hbQ : Below w1.heap.size w1 ((w3.drewN nq).alloc (.cells #[.string yn, .int .i64 yv] 41)) := (bel_drewN hb3' nq).alloc (by simpa [World.drewN] using hb3'.size) _
          have o1 : OwnP w1.heap.size ((w3.drewN nq).alloc (.cells #[.string yn, .int .i64 yv] 41)) u6 (foundOf R (ns.take k)) := OwnP.below HOP3.out ((bel_drewN (Below.refl _ w3) nq).alloc (by simp [World.drewN]) _)
          have o2 : OwnS w1.heap.size ((w3.drewN nq).alloc (.cells #[.string yn, .int .i64 yv] 41)) u7 (missOf R (ns.take k)) := OwnS.below HOS3.out ((bel_drewN (Below.refl _ w3) nq).alloc (by simp [World.drewN]) _)
          have hfm := found_hit (R := R) hkn HRP.out
          refine ⟨⟨k + 1, rfl, by omega, ?_, ?_, hbQ.trans hB4⟩, by simp [intOf]; omega⟩
          · rw [hfm.1]; exact hown4
          · rw [hfm.2]; exact o2.kept' hgr4 (rows_apart (by decide) o2 o1)
      · have hq' : ¬ ((q : Int) < (R.length : Int)) := by omega
        have hrp := reach_out (m := ⟨nm, mn, mx⟩) HCUT.out hq
        have HRP : Hid (reachP R ns[k] = none) := (show reachP R ns[k] = none from by rw [HX.out]; exact hrp)
        clear hrp
        go_quiet (fail)
        go_wp2_with (at_builtin; go_must (refine wpList_appendS rfl (.tmp 56) (.tmp 59) 28 rfl Tryz.underlying28 ti hti ht0 ht1 ht2 w1.heap.size u7 (missOf R (ns.take k)) rfl (OwnS.below HOS3.out (((bel_drewN (Below.refl _ w3) nq)).alloc (by simp [World.drewN]) _)) ⟨w3.heap.size, 0, none⟩ 1 nm rfl (new_cell (w3.drewN nq) nm) (by have := miss_len R (ns.take k); simp at this; omega) (by have := hb3'.size; simp only [World.size_alloc]; exact Nat.le_trans this (Nat.le_succ _)) ?_; intro v4 w4 hown4 hB4 hgr4))
        have hbQ : Below w1.heap.size w1 ((w3.drewN nq).alloc (.cells #[.string nm] 9)) := (bel_drewN hb3' nq).alloc (by simpa [World.drewN] using hb3'.size) _
        have o1 : OwnP w1.heap.size ((w3.drewN nq).alloc (.cells #[.string nm] 9)) u6 (foundOf R (ns.take k)) := OwnP.below HOP3.out ((bel_drewN (Below.refl _ w3) nq).alloc (by simp [World.drewN]) _)
        have o2 : OwnS w1.heap.size ((w3.drewN nq).alloc (.cells #[.string nm] 9)) u7 (missOf R (ns.take k)) := OwnS.below HOS3.out ((bel_drewN (Below.refl _ w3) nq).alloc (by simp [World.drewN]) _)
        have hfm := found_miss (R := R) hkn HRP.out
        rw [HX.out] at hfm
        refine ⟨⟨k + 1, rfl, by omega, ?_, ?_, hbQ.trans hB4⟩, by simp [intOf]; omega⟩
        · rw [hfm.1]; exact o1.kept hgr4 (rows_apart (by decide) o1 o2)
        · rw [hfm.2]; exact hown4
    · obtain rfl : k = ns.length := by omega
      have hkn' : ¬ ((ns.length : Int) < (ns.length : Int)) := by omega
      have hop := HOP.out
      have hos := HOS.out
      rw [List.take_length] at hop hos
      have cs := implSortP hop (by have := found_len R ns; omega) (Asks.below HAS.out hb)
      obtain ⟨a6, c6, hv6, _⟩ := hop.value
      obtain ⟨a7, c7, hv7, _⟩ := hos.value
      have HOP2 : Hid (OwnP w1.heap.size wr u6 (foundOf R ns)) := hop
      have HOS2 : Hid (OwnS w1.heap.size wr u7 (missOf R ns)) := hos
      clear hop hos
      subst hv6 hv7
      unfold cmpFn at cs ⊢
      go_wp2_with (go_at_call 67; go_must (refine cs.mono ?_; rintro e w5 ⟨rfl, f, hso, hof, hgr⟩))
      have hb5 : Below w1.heap.size w1 w5 := hb.grown hgr hb.size (OwnP.block HOP2.out)
      go_ret2
      exact ⟨⟨_, _, f, rfl, hso, OwnP.mono hof hbw1.size, OwnS.mono (OwnS.kept' HOS2.out hgr (rows_apart (by decide) HOS2.out HOP2.out)) hbw1.size⟩, good_below hbw1 hb5⟩
end Go.Proofs.YteokcdobapkkhaaGreatDoor

namespace Go.Proofs.YteokcdobapkkhaaGreatDoor
open Go.ChangeShapes Go.WideShapes Go.ChangeAt Go.RowKit Go.Maps
open Go.ChangeMaps (setBlock)
open Go.WideElems (Fit entry_then_store)
set_option linter.unusedVariables false

theorem setBlock_twice (w : World) (b : Nat) (x y : Obj) : setBlock (setBlock w b x) b y = setBlock w b y := by
  simp [setBlock]

section
variable {H : Type} {P : Program} {w : World} {t k e : TypeId} {R : Value → Option (DataW H × List MemPlace)} {b : Nat} {es : Array MapEntry} {clock : Nat}

theorem entry_run (K : WideMaps.KeyLaw P k) (ht : P.underlying t = some (.map k e)) {z : Value} (hz : ∀ u : World, (zeroValue e).run P u = .ok z u) (hb : w.heap[b]? = some (.map es clock)) (F : Fit P k R es clock)
    {key : Value} {kl : Lit} (hkey : keyOf P k key = some kl) {v : Value} (hl : (Instr.lookup t (.map (some b)) key false).run P w = .ok v w) :
    ∃ (st : Nat) (W1 : World), (Instr.mapEntry t (.map (some b)) key).run P w = .ok (.tuple #[v, goInt st]) W1 ∧ (Instr.mapUpdate t (.map (some b)) key v).run P w = .ok () W1 ∧
      ∀ val, ∃ W2, (Instr.entryStore t (.map (some b)) (goInt st) val).run P W1 = .ok () W2 ∧ (Instr.mapUpdate t (.map (some b)) key val).run P w = .ok () W2 := by
  obtain ⟨v0, st, es1, clock1, hrun, hv0, hst⟩ := entry_then_store K ht hz hb F hkey
  have hb1 : (setBlock w b (.map es1 clock1)).heap[b]? = some (.map es1 clock1) := ChangeMaps.heap_setBlock_same hb _
  have key1 : v0 = v ∧ (Instr.mapUpdate t (.map (some b)) key v0).run P w = .ok () (setBlock w b (.map es1 clock1)) := by
    rcases K.find w hkey es.toList F.keys with ⟨h1, h2⟩ | ⟨j, e0, h1, h2, h3⟩
    · simp [Instr.mapEntry, run_underlying ht, MapKept.run_getObj_map hb, K.check w false hkey, h1, hz, MapKept.run_setObj_map _ hb, Result.andThen] at hrun
      simp [Instr.lookup, run_underlying ht, MapKept.run_getObj_map hb, K.check w es.isEmpty hkey, h1, hz, Result.andThen] at hl
      obtain ⟨⟨rfl, _⟩, hw⟩ := hrun
      refine ⟨hl, ?_⟩
      rw [← hw]
      simp [Instr.mapUpdate, run_underlying ht, MapKept.run_getObj_map hb, K.check w false hkey, h1, MapKept.run_setObj_map _ hb, Result.andThen]
    · have hj : es[j]? = some e0 := by simpa using h2
      have hmm : es.modify j (fun e => { key := key, val := e0.val, born := e.born }) = es.modify j (fun e => { key := key, val := e.val, born := e.born }) := by
        apply Array.ext'
        rw [Array.toList_modify, Array.toList_modify, ChangeMaps.modify_eq_set _ _ _ _ h2, ChangeMaps.modify_eq_set _ _ _ _ h2]
      simp [Instr.mapEntry, run_underlying ht, MapKept.run_getObj_map hb, K.check w false hkey, h1, hj, h3, K.stays w hkey, MapKept.run_setObj_map _ hb, Result.andThen] at hrun
      simp [Instr.lookup, run_underlying ht, MapKept.run_getObj_map hb, K.check w es.isEmpty hkey, h1, Result.andThen] at hl
      obtain ⟨⟨rfl, _⟩, hw⟩ := hrun
      refine ⟨hl, ?_⟩
      rw [← hw]
      simp [Instr.mapUpdate, run_underlying ht, MapKept.run_getObj_map hb, K.check w false hkey, h1, hj, h3, K.stays w hkey, MapKept.run_setObj_map _ hb, Result.andThen]
      rw [hmm]
  obtain ⟨rfl, hup⟩ := key1
  refine ⟨st, _, hrun, hup, fun val => ?_⟩
  obtain ⟨es', clock', h1, h2⟩ := hst _ val hb1
  exact ⟨_, h1, by rw [setBlock_twice]; exact h2⟩
end

theorem Counts.entry {w : World} {B n : Nat} {f : Lit → Int} (h : Counts w 41 B n f) (hn : n < maxLen) {key : Value} {kl : Lit} (hk : keyOf Tryz.prog 41 key = some kl) {c : Int} (hc : (Lit.int .i64 c).wf = true) :
    ∃ (st : Nat) (W1 W2 : World), (Instr.mapEntry 111 (.map (some B)) key).run Tryz.prog w = .ok (.tuple #[.int .i64 (f kl), .int .i64 (st : Int)]) W1 ∧
      (Instr.lookup 111 (.map (some B)) key false).run Tryz.prog W1 = .ok (.int .i64 (f kl)) W1 ∧
      (Instr.entryStore 111 (.map (some B)) (.int .i64 (st : Int)) (.int .i64 c)).run Tryz.prog W1 = .ok () W2 ∧ Counts W2 41 B (n + 1) (upd f kl c) ∧ w.grownBy W2 (some B) := by
  have hlk := h.look law44 Tryz.underlying111 hk
  obtain ⟨W0, hu0, hC0, _⟩ := h.store law44 Tryz.underlying111 hn hk hlk.2
  obtain ⟨W2', hu2, hC2, hg2⟩ := h.store law44 Tryz.underlying111 hn hk hc
  obtain ⟨D, ⟨es, clock, hbk, F, hs, hD⟩, hf⟩ := h
  obtain ⟨st, W1, h1, h2, h3⟩ := entry_run law44' Tryz.underlying111 (fun u => zero3 u) hbk F hk hlk.1
  obtain ⟨W2, h4, h5⟩ := h3 (.int .i64 c)
  rw [hu0] at h2
  cases h2
  rw [hu2] at h5
  cases h5
  have hlk1 := (hC0.look law44 Tryz.underlying111 hk).1
  rw [upd_same (law44.key hk)] at hlk1
  exact ⟨st, _, _, h1, hlk1, h4, hC2, hg2⟩
end Go.Proofs.YteokcdobapkkhaaGreatDoor

namespace Go.Proofs.YteokcdobapkkhaaGreatDoor
open Go.ChangeShapes Go.WideShapes Go.ChangeAt Go.RowKit Go.Maps
set_option linter.unusedVariables false

/-- An element of a map, held as it is. -/
def heldE (v : Value) : Option (DataW Value × List MemPlace) := some (.held v, [])
/-- The map in block B, of at most n entries, holds f of each key, a nil slice where there is none. -/
def NeedsAt (w : World) (B n : Nat) (f : Lit → Value) : Prop :=
  ∃ D : DataW Value, w.ownsMap Tryz.prog 41 heldE B n D ∧ ∀ kl, D.atKey kl (.held (.slice none 0 0)) = .held (f kl)
theorem zero32 (w : World) : (zeroValue 24).run Tryz.prog w = .ok (.slice none 0 0) w := by kernel_rfl
theorem NeedsAt.made (w : World) : NeedsAt (w.alloc (.map #[] 0)) w.heap.size 0 (fun _ => .slice none 0 0) :=
  ⟨.map [], World.ownsMap_made _ _ _ _, fun kl => rfl⟩
theorem NeedsAt.lt {w : World} {B n : Nat} {f : Lit → Value} (h : NeedsAt w B n f) : B < w.heap.size := by
  obtain ⟨D, h, _⟩ := h; exact h.lt
theorem NeedsAt.below {w w' : World} {B n : Nat} {f : Lit → Value} (h : NeedsAt w B n f) (hb : Below w.heap.size w w') : NeedsAt w' B n f := by
  have hl := h.lt
  obtain ⟨D, ⟨es, clock, hbk, F, hs, hD⟩, hf⟩ := h
  exact ⟨D, ⟨es, clock, (hb.block B hl).trans hbk, F, hs, hD⟩, hf⟩
theorem NeedsAt.kept {w w' : World} {B n : Nat} {f : Lit → Value} {row : Option Nat} (h : NeedsAt w B n f) (hg : w.grownBy w' row) (hne : some B ≠ row) : NeedsAt w' B n f := by
  obtain ⟨D, h, hf⟩ := h; exact ⟨D, h.kept hg hne, hf⟩
theorem NeedsAt.look {w : World} {B n : Nat} {f : Lit → Value} (h : NeedsAt w B n f) {key : Value} {kl : Lit} (hk : keyOf Tryz.prog 41 key = some kl) : (Instr.lookup 53 (.map (some B)) key false).run Tryz.prog w = .ok (f kl) w := by
  obtain ⟨D, h, hf⟩ := h
  obtain ⟨v, ps, hr, hv⟩ := h.lookup law44 Tryz.underlying53 (zero32 w) (zd := .held (.slice none 0 0)) (zp := []) rfl hk
  rw [hf] at hv
  simp only [heldE, Option.some.injEq, Prod.mk.injEq, DataW.held.injEq] at hv
  rw [hr, hv.1]
def updV (f : Lit → Value) (kl : Lit) (v : Value) : Lit → Value := fun k' => if k'.sameKey kl then v else f k'
theorem updV_same {f : Lit → Value} {kl : Lit} {v : Value} (h : WideAt.IsKeyLit kl) : updV f kl v kl = v := by simp [updV, WideAt.sameKey_self h]
theorem updV_other {f : Lit → Value} {kl k' : Lit} {v : Value} (h : k' ≠ kl) : updV f kl v k' = f k' := by simp [updV, sameKey_ne h]
theorem NeedsAt.store {w : World} {B n : Nat} {f : Lit → Value} (h : NeedsAt w B n f) (hn : n < maxLen) {key : Value} {kl : Lit} (hk : keyOf Tryz.prog 41 key = some kl) (v : Value) :
    ∃ w', (Instr.mapUpdate 53 (.map (some B)) key v).run Tryz.prog w = .ok () w' ∧ NeedsAt w' B (n + 1) (updV f kl v) ∧ w.grownBy w' (some B) := by
  obtain ⟨D, h, hf⟩ := h
  obtain ⟨w', hr, ho, hg⟩ := h.update law44 Tryz.underlying53 hn hk (val := v) (d := .held v) (ps := []) rfl
  refine ⟨w', hr, ⟨_, ho, fun k' => ?_⟩, hg⟩
  by_cases e : k' = kl
  · subst e; rw [updV_same (law44.key hk), atKey_put_same h.isMap (law44.key hk)]
  · rw [updV_other e, atKey_put_other e, hf]
theorem wpList_storeN (w : World) {ops : Array Oper} {rest : List Oper} {o : Oper} {a : Act} {Q : Exit → Act → World → Prop}
    (hg : o.guard = none) (m x v : Operand) (hop : o.op = Op.mapUpdate 53 m x v) (B n : Nat) (f : Lit → Value)
    (hm : a.eval m = .map (some B)) (h : NeedsAt w B n f) (hn : n < maxLen) (key c : Value) (kl : Lit) (hx : a.eval x = key) (hv : a.eval v = c) (hk : keyOf Tryz.prog 41 key = some kl)
    (hK : ∀ w', NeedsAt w' B (n + 1) (updV f kl c) → w.grownBy w' (some B) → wpList Tryz.prog ops Q rest (a.put o.dst undef) w') : wpList Tryz.prog ops Q (o :: rest) a w := by
  refine wpList_plain hg fun K' hK' => ?_
  obtain ⟨w', hr, h1, h2⟩ := h.store hn hk c
  unfold Oper.wp
  simp [execOp, hop, hm, hx, hv, hr, Result.andThen]
  exact hK' _ _ (hK w' h1 h2)

def pkVal (p : Pk) : Value := .agg #[.string p.name, .int .i64 p.ver]
/-- The releases R, their needs nf, and wishes, as a shelf has them. -/
def ShelfAt (S : Nat → Prop) (B : Nat) (w : World) (sv : Value) (R : List Pk) (nf : Pk → List Imp) (ws : List Imp) : Prop :=
  ∃ rv mb wv f n, sv = .agg #[rv, .map (some mb), wv] ∧ OwnP B w rv R ∧ NeedsAt w mb n f ∧ ImpsAt S w wv ws ∧ ∀ p ∈ R, ∃ kl, keyOf Tryz.prog 41 (pkVal p) = some kl ∧ ImpsAt S w (f kl) (nf p)
theorem ShelfAt.below {S : Nat → Prop} {B : Nat} {w w' : World} {sv : Value} {R : List Pk} {nf : Pk → List Imp} {ws : List Imp} (h : ShelfAt S B w sv R nf ws) (hS : ∀ b, S b → b < w.heap.size) (hb : Below w.heap.size w w') : ShelfAt S B w' sv R nf ws := by
  obtain ⟨rv, mb, wv, f, n, h1, h2, h3, h4, h5⟩ := h
  refine ⟨rv, mb, wv, f, n, h1, h2.below hb, h3.below hb, h4.keep (cells_below hS hb), fun p hp => ?_⟩
  obtain ⟨kl, k1, k2⟩ := h5 p hp
  exact ⟨kl, k1, k2.keep (cells_below hS hb)⟩
/-- What is right of a shelf, of itself. -/
structure Good (R : List Pk) (nf : Pk → List Imp) (ws : List Imp) : Prop where
  len : R.length ≤ 200
  sort : R.Pairwise fun x y => pkLess y x = false
  needs : ∀ p ∈ R, (nf p).length ≤ 20
  wish : ws.length ≤ 21
end Go.Proofs.YteokcdobapkkhaaGreatDoor

namespace Go.Proofs.YteokcdobapkkhaaGreatDoor
open Go.ChangeShapes Go.WideShapes Go.ChangeAt Go.RowKit
set_option linter.unusedVariables false

theorem two_boxes (w : World) (xs ys : Array Value) (e e' : TypeId) : ∀ w', Below ((w.alloc (.cells xs e)).alloc (.cells ys e')).heap.size ((w.alloc (.cells xs e)).alloc (.cells ys e')).drew w' → Blk w' w.heap.size e xs ∧ Blk w' (w.heap.size + 1) e' ys := by
  intro w' hb
  have b1 : Blk ((w.alloc (.cells xs e)).alloc (.cells ys e')) w.heap.size e xs := Blk.below (show Blk (w.alloc (.cells xs e)) w.heap.size e xs from heap_alloc_last w _) ((Below.refl _ _).alloc (Nat.le_refl _) _)
  have b2 : Blk ((w.alloc (.cells xs e)).alloc (.cells ys e')) (w.heap.size + 1) e' ys := by
    have := heap_alloc_last (w.alloc (.cells xs e)) (.cells ys e')
    rwa [World.size_alloc] at this
  have c1 : Blk ((w.alloc (.cells xs e)).alloc (.cells ys e')).drew w.heap.size e xs := b1
  have c2 : Blk ((w.alloc (.cells xs e)).alloc (.cells ys e')).drew (w.heap.size + 1) e' ys := b2
  exact ⟨c1.below hb, c2.below hb⟩
set_option maxRecDepth 100000 in
set_option maxHeartbeats 4000000 in
theorem implSteps {S : Nat → Prop} {B : Nat} {w : World} {sv : Value} {R : List Pk} {nf : Pk → List Imp} {ws : List Imp} (hS : ∀ b, S b → b < w.heap.size) (h : ShelfAt S B w sv R nf ws) (hg : Good R nf ws) (p : Pk) (hp : p ∈ R) :
    Calls Tryz.prog 54 #[sv, pkVal p] w fun e w' => (∃ q f, e = .returned q ∧ Sorted (foundOf R (nf p)) f ∧ OwnP w.heap.size w' q f) ∧ Below w.heap.size w w' := by
  obtain ⟨rv, mb, wv, f, n, rfl, h2, h3, h4, h5⟩ := h
  obtain ⟨kl, hk, hI⟩ := h5 p hp
  obtain ⟨ra, rc, hrv, _⟩ := h2.value
  obtain ⟨wa, wc, hwv⟩ := h4.shape
  subst hrv hwv
  obtain ⟨na, nc, hnv⟩ := hI.shape
  obtain ⟨pn, pv⟩ := p
  unfold pkVal at hk ⊢
  dsimp only at hk ⊢
  have hbA : Below w.heap.size w ((w.alloc (.cells #[.slice ra R.length rc, .map (some mb), .slice wa ws.length wc] 55)).alloc (.cells #[.string pn, .int .i64 pv] 41)).drew := (((Below.refl _ w).alloc (Nat.le_refl _) _).alloc (by simp) _).drew
  have hlk := (h3.below hbA).look hk
  have cr := implReach (mv := .map (some mb)) (wv := .slice wa ws.length wc) (fun b hb => Nat.lt_of_lt_of_le (hS b hb) hbA.size) (h2.below hbA) (by have := hg.len; omega) hg.sort (hI.keep (cells_below hS hbA)) (by have := hg.needs _ hp; omega) ⟨_, rfl⟩ ⟨_, _, _, rfl⟩
  rw [hnv] at hlk cr
  have HG : Hid (foundOf R (nf ⟨pn, pv⟩) = foundOf R (nf ⟨pn, pv⟩)) := rfl
  clear h2 h3 h4 h5 hI hnv hS hk
  obtain ⟨F, hF⟩ : ∃ F, foundOf R (nf ⟨pn, pv⟩) = F := ⟨_, rfl⟩
  rw [hF] at cr ⊢
  obtain ⟨M, hM⟩ : ∃ M, missOf R (nf ⟨pn, pv⟩) = M := ⟨_, rfl⟩
  rw [hM] at cr
  obtain ⟨NL, hNL⟩ : ∃ NL, (nf ⟨pn, pv⟩).length = NL := ⟨_, rfl⟩
  rw [hNL] at cr hlk
  clear hF hM hNL HG hp
  have kp : ∀ w', Below ((w.alloc (.cells #[.slice ra R.length rc, .map (some mb), .slice wa ws.length wc] 55)).alloc (.cells #[.string pn, .int .i64 pv] 41)).heap.size ((w.alloc (.cells #[.slice ra R.length rc, .map (some mb), .slice wa ws.length wc] 55)).alloc (.cells #[.string pn, .int .i64 pv] 41)).drew w' → w'.cell? ⟨w.heap.size, 0, none⟩ = some (.slice ra R.length rc) ∧ w'.cell? ⟨w.heap.size, 1, none⟩ = some (.map (some mb)) ∧ w'.cell? ⟨w.heap.size, 2, none⟩ = some (.slice wa ws.length wc) ∧ w'.cell? ⟨w.heap.size + 1, 0, none⟩ = some (.string pn) ∧ w'.cell? ⟨w.heap.size + 1, 1, none⟩ = some (.int .i64 pv) := fun w' hb => by
    obtain ⟨b1, b2⟩ := two_boxes w _ _ _ _ w' hb
    exact ⟨b1.cell 0, b1.cell 1, b1.cell 2, b2.cell 0, b2.cell 1⟩
  have KP : Hid _ := kp
  clear kp
  go_enter Tryz.func54, Tryz.ntmps54
  go_wp2_with fail
  go_region_held3 (fun w' => w'.cell? ⟨w.heap.size, 0, none⟩ = some (.slice ra R.length rc) ∧ w'.cell? ⟨w.heap.size, 1, none⟩ = some (.map (some mb)) ∧ w'.cell? ⟨w.heap.size, 2, none⟩ = some (.slice wa ws.length wc) ∧ w'.cell? ⟨w.heap.size + 1, 0, none⟩ = some (.string pn) ∧ w'.cell? ⟨w.heap.size + 1, 1, none⟩ = some (.int .i64 pv)) (first | go_keep | exact KP.out _ hb5) (first | (go_at_call 52; refine cr.mono ?_; rintro e w5 ⟨⟨q1, q2, ff, rfl, hso, hop, hos⟩, hb5⟩))
  all_goals go_wp2_with fail
  all_goals go_ret
  all_goals exact ⟨⟨q1, ff, rfl, hso, OwnP.mono hop hbA.size⟩, good_below hbA hb5⟩
end Go.Proofs.YteokcdobapkkhaaGreatDoor

namespace Go.Proofs.YteokcdobapkkhaaGreatDoor
open Go.ChangeShapes Go.WideShapes Go.ChangeAt Go.RowKit Go.Maps
set_option linter.unusedVariables false

/-- An item that a search has come to, and the place from which it did. -/
structure Sd where
  item : Pk
  from' : Int
def Sd.cells (x : Sd) : List Value := [.string x.item.name, .int .i64 x.item.ver, .int .i64 x.from']
def sdCells (l : List Sd) : List Value := l.flatMap Sd.cells
instance : Inhabited Sd := ⟨⟨default, 0⟩⟩
theorem sdCells_length (l : List Sd) : (sdCells l).length = l.length * 3 := flat_len (enc := Sd.cells) (k := 3) (fun _ => rfl) l
theorem sdCells_append (l k : List Sd) : sdCells (l ++ k) = sdCells l ++ sdCells k := by simp [sdCells]
def OwnT (B : Nat) (w : World) (v : Value) (l : List Sd) : Prop := w.ownsRow B 71 3 v l.length (sdCells l)
theorem OwnT.below {B : Nat} {w w' : World} {v : Value} {l : List Sd} (h : OwnT B w v l) (hb : Below w.heap.size w w') : OwnT B w' v l := by
  obtain ⟨hl, h⟩ := h
  refine ⟨hl, ?_⟩
  rcases h with h | ⟨g, cap, cur, hv, hB, hg, h1, h2, h3, h4⟩
  · exact .inl h
  · refine .inr ⟨g, cap, cur, hv, hB, ?_, h1, h2, h3, h4⟩
    rw [hb.block g (Array.getElem?_eq_some_iff.1 hg).1]; exact hg
theorem OwnT.block {B : Nat} {w : World} {v : Value} {l : List Sd} (h : OwnT B w v l) : ∀ k, v.ownBlock = some k → B ≤ k := by
  intro k hk
  rcases h.2 with ⟨rfl, _⟩ | ⟨g, cap, cur, rfl, hB, _⟩
  · simp [Value.ownBlock] at hk
  · simp [Value.ownBlock] at hk; omega
theorem OwnT.kept {B : Nat} {w w' : World} {v : Value} {l : List Sd} {row : Option Nat} (h : OwnT B w v l) (hg : w.grownBy w' row) (hne : v.ownBlock = none ∨ v.ownBlock ≠ row) : OwnT B w' v l := World.ownsRow.kept h hg hne
theorem OwnT.mono {B B' : Nat} {w : World} {v : Value} {l : List Sd} (h : OwnT B w v l) (hB : B' ≤ B) : OwnT B' w v l := by
  obtain ⟨hl, h⟩ := h
  refine ⟨hl, ?_⟩
  rcases h with h | ⟨g, cap, cur, hv, hg, h⟩
  · exact .inl h
  · exact .inr ⟨g, cap, cur, hv, Nat.le_trans hB hg, h⟩
theorem OwnT.value {B : Nat} {w : World} {v : Value} {l : List Sd} (h : OwnT B w v l) :
    ∃ a cap, v = .slice a l.length cap ∧ (0 < l.length → ∃ g, a = some ⟨g, 0, none⟩ ∧ B ≤ g ∧ g < w.heap.size ∧ ∀ j (hj : j < l.length), w.cell? ⟨g, j * 3, none⟩ = some (.string l[j].item.name) ∧ w.cell? ⟨g, j * 3 + 1, none⟩ = some (.int .i64 l[j].item.ver) ∧ w.cell? ⟨g, j * 3 + 2, none⟩ = some (.int .i64 l[j].from')) := by
  rcases h.2 with ⟨rfl, h0⟩ | ⟨g, cap, cur, rfl, hB, hg, h1, h2, h3, h4⟩
  · exact ⟨none, 0, by rw [h0], fun h => by omega⟩
  · refine ⟨_, cap, rfl, fun _ => ⟨g, rfl, hB, (Array.getElem?_eq_some_iff.1 hg).1, fun j hj => ?_⟩⟩
    have hget : ∀ q, q < 3 → cur[j * 3 + q]? = (Sd.cells l[j])[q]? := fun q hq => by
      have hlt : j * 3 + q < l.length * 3 := by omega
      have e := flat_get (enc := Sd.cells) (k := 3) (fun _ => rfl) (by omega) l (j * 3 + q) hlt
      have e1 : (j * 3 + q) / 3 = j := by omega
      have e2 : (j * 3 + q) % 3 = q := by omega
      simp only [e1, e2] at e
      rw [show l.flatMap Sd.cells = sdCells l from rfl, ← h4, List.getElem?_take, if_pos hlt, Array.getElem?_toList] at e
      exact e
    have q0 := hget 0 (by omega)
    have q1 := hget 1 (by omega)
    have q2 := hget 2 (by omega)
    simp only [World.cell?, hg]
    simp [Sd.cells] at q0 q1 q2 ⊢
    exact ⟨q0, q1, q2⟩
def zeroSd : Value := .agg #[.string ⟨#[]⟩, .int .i64 0, .int .i64 0]
theorem info108 : ∃ i, Tryz.prog.info? 71 = some i ∧ i.zero = some zeroSd ∧ i.size = 3 ∧ i.bytes = 32 := by
  have hi : (Tryz.prog.info? 71).map (fun i => (i.zero, i.size, i.bytes)) = some (some zeroSd, 3, 32) := by kernel_rfl
  cases h : Tryz.prog.info? 71 with
  | none => rw [h] at hi; simp at hi
  | some i =>
    rw [h] at hi
    simp only [Option.map_some, Option.some.injEq, Prod.mk.injEq] at hi
    exact ⟨i, rfl, hi.1, hi.2.1, hi.2.2⟩
theorem wpList_appendT {ops : Array Oper} {rest : List Oper} {o : Oper} {a : Act} {w : World} {Q : Exit → Act → World → Prop} (hgd : o.guard = none) (s x : Operand)
    (ho : o.op = .call { callee := .builtin .append, args := #[s, x], argTypes := #[67, 67] })
    (B : Nat) (v : Value) (l : List Sd) (hs : a.eval s = v) (hown : OwnT B w v l) (ad : Addr) (t : Sd) (hx : a.eval x = .slice (some ad) 1 1) (hnews : ∀ (j : Nat) u, t.cells[j]? = some u → w.cell? (ad.add j) = some u)
    (hsz : l.length ≤ 1000000) (hB : B ≤ w.heap.size)
    (h : ∀ va vn vc w', OwnT B w' (.slice va vn vc) (l ++ [t]) → Below B w w' → w.grownBy w' v.ownBlock → wpList Tryz.prog ops Q rest (a.put o.dst (.slice va vn vc)) w') : wpList Tryz.prog ops Q (o :: rest) a w := by
  obtain ⟨i, hii, hz0, hz1, hz2⟩ := info108
  refine wpList_append_own w hgd s x 67 ho B 71 i zeroSd 3 32 Tryz.underlying67 hii hz0 hz1 hz2 rfl (by decide) v l.length (sdCells l) hs hown ad 1 1 (sdCells [t]) hx (by rw [sdCells_length]; rfl) ?_ ?_ ?_ ?_ hB ?_
  · intro j u hj
    exact hnews j u (by simpa [sdCells] using hj)
  · intro u hu
    simp only [sdCells, List.flatMap_cons, List.flatMap_nil, List.append_nil, Sd.cells, List.mem_cons, List.mem_nil_iff, or_false] at hu
    rcases hu with rfl | rfl | rfl <;> rfl
  · unfold maxLen; omega
  · omega
  · intro v' w' h1 h2 h3
    have h4 : OwnT B w' v' (l ++ [t]) := by
      unfold OwnT
      rw [sdCells_append, List.length_append]
      exact h1
    have h5 := (Below.refl _ w).grown h2 hB (OwnT.block hown)
    rcases h4.2 with ⟨rfl, _⟩ | ⟨g, cap, cur, rfl, _⟩
    · exact h _ _ _ w' h4 h5 h2
    · exact h _ _ _ w' h4 h5 h2
theorem sd_new (w : World) (nm : ByteArray) (ve fr : Int) (j : Nat) (u : Value) (hj : (Sd.cells ⟨⟨nm, ve⟩, fr⟩)[j]? = some u) : (w.alloc (.cells #[.string nm, .int .i64 ve, .int .i64 fr] 71)).cell? ((⟨w.heap.size, 0, none⟩ : Addr).add j) = some u := by
  rw [addr_at]
  simp only [World.cell?, heap_alloc_last, Nat.zero_add]
  simpa [Sd.cells] using hj

/-- The map in block B has the releases of l, and no others. -/
def Places (w : World) (B n : Nat) (l : List Pk) : Prop :=
  ∃ D : DataW Unit, w.ownsMap Tryz.prog 41 (plainElem Tryz.prog 3) B n D ∧ ∀ p kl, keyOf Tryz.prog 41 (pkVal p) = some kl → (Maps.has D kl = true ↔ p ∈ l)
theorem Places.made (w : World) : Places (w.alloc (.map #[] 0)) w.heap.size 0 [] :=
  ⟨.map [], World.ownsMap_made _ _ _ _, fun p kl _ => by simp [Maps.has]⟩
theorem Places.lt {w : World} {B n : Nat} {l : List Pk} (h : Places w B n l) : B < w.heap.size := by
  obtain ⟨D, h, _⟩ := h; exact h.lt
theorem Places.below {w w' : World} {B n : Nat} {l : List Pk} (h : Places w B n l) (hb : Below w.heap.size w w') : Places w' B n l := by
  have hl := h.lt
  obtain ⟨D, ⟨es, clock, hbk, F, hs, hD⟩, hf⟩ := h
  exact ⟨D, ⟨es, clock, (hb.block B hl).trans hbk, F, hs, hD⟩, hf⟩
theorem Places.kept {w w' : World} {B n : Nat} {l : List Pk} {row : Option Nat} (h : Places w B n l) (hg : w.grownBy w' row) (hne : some B ≠ row) : Places w' B n l := by
  obtain ⟨D, h, hf⟩ := h; exact ⟨D, h.kept hg hne, hf⟩
/-- A map's block is no row's. -/
theorem map_apart {B g n k m : Nat} {w : World} {v : Value} {e : TypeId} {xs : List Value} {l : List Pk} (h : Places w g n l) (ho : w.ownsRow B e k v m xs) : some g ≠ v.ownBlock := by
  obtain ⟨D, ⟨es, clock, hbk, _⟩, _⟩ := h
  rcases ho.2 with ⟨rfl, _⟩ | ⟨g', cap, cur, rfl, _, hg, _⟩
  · simp [Value.ownBlock]
  · simp only [Value.ownBlock, ne_eq, Option.some.injEq]
    intro e1
    subst e1
    rw [hbk] at hg
    cases hg
theorem map_blk {g g' n : Nat} {w : World} {e : TypeId} {cs : Array Value} {l : List Pk} (h : Places w g n l) (hb : Blk w g' e cs) : g ≠ g' := by
  intro e1
  subst e1
  obtain ⟨D, ⟨es, clock, hbk, _⟩, _⟩ := h
  rw [show w.heap[g]? = _ from hb] at hbk
  cases hbk
theorem wpList_lookPl (w : World) {ops : Array Oper} {rest : List Oper} {o : Oper} {a : Act} {Q : Exit → Act → World → Prop}
    (hg : o.guard = none) (m x : Operand) (hop : o.op = Op.lookup 111 m x true) (B n : Nat) (l : List Pk)
    (hm : a.eval m = .map (some B)) (h : Places w B n l) (p : Pk) (kl : Lit) (hx : a.eval x = pkVal p) (hk : keyOf Tryz.prog 41 (pkVal p) = some kl)
    (hK : ∀ (c : Int) (b : Bool), (b = true ↔ p ∈ l) → wpList Tryz.prog ops Q rest (a.put o.dst (.tuple #[.int .i64 c, .bool b])) w) : wpList Tryz.prog ops Q (o :: rest) a w := by
  obtain ⟨D, h, hf⟩ := h
  exact wpList_lookup_own_ok_int (w := w) hg m x 111 hop 41 3 .i64 law44 Tryz.underlying111 Tryz.underlying3 (zero3 w) B n D hm h (pkVal p) kl hx hk (fun c _ _ => hK c _ (hf p kl hk))
theorem wpList_storePl (w : World) {ops : Array Oper} {rest : List Oper} {o : Oper} {a : Act} {Q : Exit → Act → World → Prop}
    (hg : o.guard = none) (m x v : Operand) (hop : o.op = Op.mapUpdate 111 m x v) (B n : Nat) (l : List Pk)
    (hm : a.eval m = .map (some B)) (h : Places w B n l) (hn : n < maxLen) (p : Pk) (c : Int) (kl : Lit) (hx : a.eval x = pkVal p) (hv : a.eval v = .int .i64 c) (hk : keyOf Tryz.prog 41 (pkVal p) = some kl) (hc : (Lit.int .i64 c).wf = true)
    (hK : ∀ w', Places w' B (n + 1) (l ++ [p]) → w.grownBy w' (some B) → wpList Tryz.prog ops Q rest (a.put o.dst undef) w') : wpList Tryz.prog ops Q (o :: rest) a w := by
  obtain ⟨D, h, hf⟩ := h
  refine wpList_mapUpdate_own w hg m x v 111 hop 41 3 law44 Tryz.underlying111 _ B n D hm h hn (pkVal p) _ kl hx hv hk _ [] (plainElem_int Tryz.underlying3 hc) (fun w' ho hgr => hK w' ⟨_, ho, fun q kq hq => ?_⟩ hgr)
  by_cases e : kq = kl
  · subst e
    have := law44.inj hk hq
    have hpq : p = q := by
      cases p; cases q
      simp [pkVal] at this
      simp [this.1, this.2]
    rw [has_put_same h.isMap (law44.key hk)]
    simp [hpq]
  · rw [has_put_other e, hf q kq hq]
    have hne : q ≠ p := fun e1 => by subst e1; rw [hk] at hq; exact e (Option.some.inj hq).symm
    simp [hne]

open Classical in
/-- What is entered: each item that is not there yet, once. -/
noncomputable def enterF (T : List Sd) : List Pk → Int → List Sd
  | [], _ => T
  | x :: r, fr => if x ∈ T.map Sd.item then enterF T r fr else enterF (T ++ [⟨x, fr⟩]) r fr
end Go.Proofs.YteokcdobapkkhaaGreatDoor

namespace Go.Proofs.YteokcdobapkkhaaGreatDoor
open Go.ChangeShapes Go.WideShapes Go.ChangeAt Go.RowKit
set_option linter.unusedVariables false

theorem enter_old {T : List Sd} {items : List Pk} {fr : Int} {x : Pk} (h : x ∈ T.map Sd.item) : enterF T (x :: items) fr = enterF T items fr := by
  conv => lhs; unfold enterF
  rw [if_pos h]
theorem enter_new {T : List Sd} {items : List Pk} {fr : Int} {x : Pk} (h : x ∉ T.map Sd.item) : enterF T (x :: items) fr = enterF (T ++ [⟨x, fr⟩]) items fr := by
  conv => lhs; unfold enterF
  rw [if_neg h]
/-- What a search holds in memory: the box of its row, the box of its map, both. -/
structure Held (B : Nat) (w : World) (lb pb mb : Nat) (T : List Sd) (lv : Value) (n : Nat) : Prop where
  row : Blk w lb 67 #[lv]
  own : OwnT B w lv T
  box : Blk w pb 111 #[.map (some mb)]
  map : Places w mb n (T.map Sd.item)
  cnt : n = T.length
  lbB : B ≤ lb
  mbB : B ≤ mb
theorem Held.below {B : Nat} {w w' : World} {lb pb mb : Nat} {T : List Sd} {lv : Value} {n : Nat} (h : Held B w lb pb mb T lv n) (hb : Below w.heap.size w w') : Held B w' lb pb mb T lv n :=
  ⟨h.row.below hb, h.own.below hb, h.box.below hb, h.map.below hb, h.cnt, h.lbB, h.mbB⟩

set_option maxRecDepth 100000 in
set_option maxHeartbeats 4000000 in
theorem implEnter {B Bi : Nat} {w : World} {lb pb mb : Nat} {T : List Sd} {lv iv : Value} {n : Nat} {items : List Pk} (fr : Int) (h : Held B w lb pb mb T lv n) (hI : OwnP Bi w iv items) (hBw : B ≤ w.heap.size) (hk : ∀ p ∈ items, ∃ kl, keyOf Tryz.prog 41 (pkVal p) = some kl) (hT : T.length + items.length ≤ 100000) :
    Calls Tryz.prog 74 #[iv, .int .i64 fr, .pointer (some ⟨pb, 0, none⟩), .pointer (some ⟨lb, 0, none⟩)] w fun e w' => e = .returned (.tuple #[]) ∧ (∃ lv' n', Held B w' lb pb mb (enterF T items fr) lv' n') ∧ Below B w w' := by
  obtain ⟨ia, ic, hiv, hic⟩ := hI.value
  subst hiv
  have HI : Hid (OwnP Bi w (.slice ia items.length ic) items) := hI
  have HH : Hid (Held B w lb pb mb T lv n) := h
  have HK : Hid _ := hk
  clear hI h hk hic
  have hil' : (items.length : Int) ≤ 100000 := by omega
  obtain ⟨F, hF⟩ : ∃ F, enterF T items fr = F := ⟨_, rfl⟩
  have HF : Hid (enterF T items fr = F) := hF
  rw [hF]
  clear hF
  go_enter Tryz.func74, Tryz.ntmps74
  go_wp2_with fail
  go_loopw [12] (fun i12 wr => ∃ (k : Nat) (T' : List Sd) (lv' : Value) (n' : Nat), i12 = .int .i64 (k : Int) ∧ k ≤ items.length ∧ Held B wr lb pb mb T' lv' n' ∧ OwnP Bi wr (.slice ia items.length ic) items ∧ enterF T' (items.drop k) fr = F ∧ T'.length ≤ T.length + k ∧ Below B w wr) (fun i12 _ => items.length - (intOf i12).toNat)
  case atStart => exact ⟨0, T, lv, n, rfl, by omega, HH.out, HI.out, HF.out, by omega, Below.refl _ _⟩
  case round =>
    obtain ⟨k, T', lv', n', rfl, hk, hhe, hoi, hef, htl, hb⟩ := hrel
    have hBr : B ≤ wr.heap.size := Nat.le_trans hBw hb.size
    by_cases hkn : k < items.length
    · have hkn' : (k : Int) < (items.length : Int) := by omega
      obtain ⟨ia', ic', hv', hc'⟩ := hoi.value
      simp only [Value.slice.injEq, true_and] at hv'
      obtain ⟨rfl, rfl⟩ := hv'
      obtain ⟨g, rfl, hcell⟩ := hc' (by omega)
      obtain ⟨x1, x2⟩ := hcell k hkn
      obtain ⟨kl, hkl⟩ := HK.out items[k] (List.getElem_mem hkn)
      rw [List.drop_eq_getElem_cons hkn] at hef
      obtain ⟨x, hx⟩ : ∃ x, items[k] = x := ⟨_, rfl⟩
      rw [hx] at x1 x2 hkl hef
      clear hx hcell hc'
      obtain ⟨xn, xv⟩ := x
      dsimp only at x1 x2
      have hbA : Below wr.heap.size wr (wr.alloc (.cells #[.string xn, .int .i64 xv] 41)) := (Below.refl _ wr).alloc (Nat.le_refl _) _
      have hhA := hhe.below hbA
      obtain ⟨la, lc, hlv, _⟩ := hhA.own.value
      subst hlv
      have p0 := hhA.box.cell 0
      have l0 := hhA.row.cell 0
      simp at p0 l0
      have HA : Hid (Held B (wr.alloc (.cells #[.string xn, .int .i64 xv] 41)) lb pb mb T' (.slice la T'.length lc) n') := hhA
      have HKL : Hid (keyOf Tryz.prog 41 (pkVal ⟨xn, xv⟩) = some kl) := hkl
      have HEF : Hid _ := hef
      have HOI : Hid (OwnP Bi (wr.alloc (.cells #[.string xn, .int .i64 xv] 41)) (.slice (some ⟨g, 0, none⟩) items.length ic) items) := OwnP.below hoi hbA
      have hbAB : Below B w (wr.alloc (.cells #[.string xn, .int .i64 xv] 41)) := hb.trans (hbA.mono hBr)
      clear hhA hhe hkl hef hoi
      go_upto_region 4 with (at_lookup; go_must (refine wpList_lookPl _ rfl _ _ rfl mb n' (T'.map Sd.item) rfl HA.out.map ⟨xn, xv⟩ kl rfl HKL.out ?_; intro cc bb hbb))
      have HBB : Hid _ := hbb
      clear hbb
      cases bb
      · have hbI : Blk (wr.alloc (.cells #[.string xn, .int .i64 xv] 41)) wr.heap.size 41 #[.string xn, .int .i64 xv] := heap_alloc_last wr _
        have HBI : Hid _ := hbI
        clear hbI
        have hcn := HA.out.cnt
        have nlb : some lb ≠ some mb := fun e => (map_blk HA.out.map HA.out.row) (Option.some.inj e).symm
        have npb : some pb ≠ some mb := fun e => (map_blk HA.out.map HA.out.box) (Option.some.inj e).symm
        have nib : some wr.heap.size ≠ some mb := fun e => (map_blk HA.out.map HBI.out) (Option.some.inj e).symm
        go_wp2_with (first
          | (at_mapUpdate; go_must (refine wpList_storePl _ rfl _ _ _ rfl mb n' (T'.map Sd.item) rfl HA.out.map (by simp [maxLen]; omega) ⟨xn, xv⟩ (T'.length : Int) kl rfl rfl HKL.out (WalkArith.wf_i64 (by omega)) ?_; intro w6 hpl6 hgr6; have r6 := Blk.kept HA.out.row hgr6 nlb; have i6 := Blk.kept HBI.out hgr6 nib; have l6 := r6.cell 0; have y60 := i6.cell 0; have y61 := i6.cell 1; simp at l6 y60 y61; have R6 : Hid _ := r6; have PL6 : Hid _ := hpl6; have GR6 : Hid _ := hgr6; have OT6 : Hid (OwnT B w6 (.slice la T'.length lc) T') := OwnT.kept HA.out.own hgr6 (by
              rcases h : (Value.slice la T'.length lc).ownBlock with _ | z
              · exact .inl rfl
              · exact .inr (fun e => map_apart HA.out.map HA.out.own (by rw [h]; exact e.symm))); have S6 := hgr6.size; clear r6 i6 hpl6 hgr6))
          | (at_builtin; go_must (refine wpList_appendT rfl (.tmp 28) (.tmp 32) rfl B (.slice la T'.length lc) T' rfl (OwnT.below OT6.out ((Below.refl _ w6).alloc (Nat.le_refl _) _)) ⟨w6.heap.size, 0, none⟩ ⟨⟨xn, xv⟩, fr⟩ rfl (sd_new w6 xn xv fr) (by omega) (by simp only [World.size_alloc] at S6 ⊢; omega) ?_; intro va vn vc w8 hown8 hB8 hgr8; have r8 := (Blk.below R6.out ((Below.refl _ w6).alloc (Nat.le_refl _) (.cells #[.string xn, .int .i64 xv, .int .i64 fr] 71))).kept hgr8 (row_blk (by decide) (OwnT.below OT6.out ((Below.refl _ w6).alloc (Nat.le_refl _) (.cells #[.string xn, .int .i64 xv, .int .i64 fr] 71))) (Blk.below R6.out ((Below.refl _ w6).alloc (Nat.le_refl _) (.cells #[.string xn, .int .i64 xv, .int .i64 fr] 71)))); have l8 := r8.cell 0; have f8 := r8.fro 0; simp at l8; have R8 : Hid _ := r8; have O8 : Hid (OwnT B w8 (.slice va vn vc) (T' ++ [⟨⟨xn, xv⟩, fr⟩])) := hown8; clear r8 hown8)))
        have hnin : (⟨xn, xv⟩ : Pk) ∉ T'.map Sd.item := fun hm => by have := HBB.out.2 hm; cases this
        have he := HEF.out
        rw [enter_new hnin] at he
        have hBA : B ≤ (wr.alloc (.cells #[.string xn, .int .i64 xv] 41)).heap.size := Nat.le_trans hBr hbA.size
        have b6 : Below B w w6 := hbAB.grown GR6.out hBA (fun j hj => by cases hj; exact HA.out.mbB)
        have hB6 : B ≤ w6.heap.size := Nat.le_trans hBA S6
        have bA : Below w6.heap.size w6 (w6.alloc (.cells #[.string xn, .int .i64 xv, .int .i64 fr] 71)) := (Below.refl _ w6).alloc (Nat.le_refl _) _
        have b8 : Below B w w8 := (b6.trans (bA.mono hB6)).trans hB8
        have t6 := (OwnT.below OT6.out bA)
        have x6 : Blk w6 pb 111 #[.map (some mb)] := Blk.kept HA.out.box GR6.out npb
        have x8 : Blk w8 pb 111 #[.map (some mb)] := (x6.below bA).kept hgr8 (row_blk (by decide) t6 (x6.below bA))
        have m8 : Places w8 mb (n' + 1) (T'.map Sd.item ++ [⟨xn, xv⟩]) := (Places.below PL6.out bA).kept hgr8 (map_apart (Places.below PL6.out bA) t6)
        have g8 := set_grown w8 lb 0 (.slice va vn vc)
        have p6 : OwnP Bi w6 (.slice (some ⟨g, 0, none⟩) items.length ic) items := OwnP.kept HOI.out GR6.out (.inr (fun e => map_apart HA.out.map HOI.out e.symm))
        have p8 : OwnP Bi w8 (.slice (some ⟨g, 0, none⟩) items.length ic) items := (p6.below bA).kept hgr8 (rows_apart (by decide) (p6.below bA) t6)
        have p9 := p8.kept g8 (.inr (fun e => row_blk (by decide) p8 R8.out e.symm))
        have hlen : (T' ++ [(⟨⟨xn, xv⟩, fr⟩ : Sd)]).length = T'.length + 1 := by simp
        have hh : Held B (w8.setCell ⟨lb, 0, none⟩ (.slice va vn vc)) lb pb mb (T' ++ [⟨⟨xn, xv⟩, fr⟩]) (.slice va vn vc) (n' + 1) := by
          refine ⟨Blk.set R8.out 0 _, OwnT.kept O8.out g8 (.inr (fun e => row_blk (by decide) O8.out R8.out e.symm)), x8.kept g8 (fun e => ?_), ?_, by rw [hlen, hcn], HA.out.lbB, HA.out.mbB⟩
          · have e1 : pb = lb := Option.some.inj e
            subst e1
            have h1 : Blk w8 pb 67 _ := R8.out
            unfold Blk at h1 x8
            rw [x8] at h1
            cases h1
          · rw [List.map_append]
            exact m8.kept g8 (fun e => map_blk m8 R8.out (Option.some.inj e))
        exact ⟨⟨k + 1, _, _, _, rfl, by omega, hh, p9, he, by rw [hlen]; omega, b8.setCell HA.out.lbB _⟩, by simp [intOf]; omega⟩
      · go_wp2_with fail
        have hin : (⟨xn, xv⟩ : Pk) ∈ T'.map Sd.item := HBB.out.1 rfl
        have he := HEF.out
        rw [enter_old hin] at he
        exact ⟨⟨k + 1, T', _, n', rfl, by omega, HA.out, HOI.out, he, by omega, hbAB⟩, by simp [intOf]; omega⟩
    · obtain rfl : k = items.length := by omega
      have hkn' : ¬ ((items.length : Int) < (items.length : Int)) := by omega
      rw [List.drop_length] at hef
      unfold enterF at hef
      subst hef
      go_wp2_with fail
      go_end0
      exact ⟨rfl, ⟨lv', n', hhe⟩, hb⟩
end Go.Proofs.YteokcdobapkkhaaGreatDoor

namespace Go.Proofs.YteokcdobapkkhaaGreatDoor
open Go.ChangeShapes Go.WideShapes Go.ChangeAt Go.RowKit
set_option linter.unusedVariables false

theorem sorted_unique {l a b : List Pk} (ha : Sorted l a) (hb : Sorted l b) : a = b := by
  refine List.Perm.eq_of_pairwise (le := fun x y => pkLess y x = false) (fun x y _ _ h1 h2 => ?_) ha.rises hb.rises (ha.perm.trans hb.perm.symm)
  by_cases e : x = y
  · exact e
  · rcases pkLess_total e with q | q
    · rw [q] at h2; cases h2
    · rw [q] at h1; cases h1
open Classical in
/-- The releases in their order. -/
noncomputable def sortP (l : List Pk) : List Pk := if h : ∃ f, Sorted l f then Classical.choose h else l
theorem sortP_eq {l f : List Pk} (h : Sorted l f) : sortP l = f := by
  unfold sortP
  rw [dif_pos ⟨f, h⟩]
  exact sorted_unique (Classical.choose_spec (⟨f, h⟩ : ∃ f, Sorted l f)) h
theorem nodup_le {α : Type} : ∀ (l R : List α), l.Nodup → (∀ x ∈ l, x ∈ R) → l.length ≤ R.length
  | [], _, _, _ => by simp
  | x :: l, R, hn, hs => by
    obtain ⟨h1, h2⟩ := List.nodup_cons.1 hn
    obtain ⟨s, t, rfl⟩ := List.append_of_mem (hs x (by simp))
    have := nodup_le l (s ++ t) h2 (fun y hy => by
      have := hs y (by simp [hy])
      simp only [List.mem_append, List.mem_cons] at this ⊢
      rcases this with q | q | q
      · exact .inl q
      · subst q; exact absurd hy h1
      · exact .inr q)
    simp only [List.length_append, List.length_cons] at this ⊢
    omega
theorem enter_keep {R : List Pk} : ∀ (items : List Pk) (T : List Sd) (fr : Int), (∀ x ∈ items, x ∈ R) → (∀ x ∈ T, x.item ∈ R) → (T.map Sd.item).Nodup → (∀ x ∈ enterF T items fr, x.item ∈ R) ∧ ((enterF T items fr).map Sd.item).Nodup
  | [], T, fr, _, h2, h3 => by unfold enterF; exact ⟨h2, h3⟩
  | x :: r, T, fr, h1, h2, h3 => by
    by_cases hx : x ∈ T.map Sd.item
    · rw [enter_old hx]
      exact enter_keep r T fr (fun y hy => h1 y (by simp [hy])) h2 h3
    · rw [enter_new hx]
      refine enter_keep r _ fr (fun y hy => h1 y (by simp [hy])) (fun y hy => ?_) ?_
      · rcases List.mem_append.1 hy with q | q
        · exact h2 y q
        · simp at q; subst q; exact h1 x (by simp)
      · rw [List.map_append, List.nodup_append]
        refine ⟨h3, by simp, fun a ha b hb => ?_⟩
        simp at hb
        subst hb
        exact fun e => hx (e ▸ ha)
theorem enter_len : ∀ (items : List Pk) (T : List Sd) (fr : Int), T.length ≤ (enterF T items fr).length
  | [], T, fr => by unfold enterF; exact Nat.le_refl _
  | x :: r, T, fr => by
    by_cases hx : x ∈ T.map Sd.item
    · rw [enter_old hx]
      exact enter_len r T fr
    · rw [enter_new hx]
      have := enter_len r (T ++ [⟨x, fr⟩]) fr
      simp only [List.length_append, List.length_cons, List.length_nil] at this
      omega
/-- The states of a search. -/
inductive SI (nx : Pk → List Pk) (starts : List Pk) : List Sd → Nat → Prop
  | start : SI nx starts (enterF [] starts (-1)) 0
  | step {T : List Sd} {k : Nat} (h : SI nx starts T k) (hk : k < T.length) : SI nx starts (enterF T (nx T[k].item) (k : Int)) (k + 1)
theorem reachP_mem {R : List Pk} {m : Imp} {p : Pk} (h : reachP R m = some p) : p ∈ R := by
  unfold reachP at h
  cases hd : R.dropWhile fun x => pkLess x ⟨m.name, m.mn⟩ with
  | nil => rw [hd] at h; simp at h
  | cons a r =>
    rw [hd] at h
    dsimp only at h
    split at h
    · simp only [Option.some.injEq] at h
      subst h
      have : a ∈ R.dropWhile fun x => pkLess x ⟨m.name, m.mn⟩ := by rw [hd]; simp
      exact (List.dropWhile_sublist _).subset this
    · cases h
theorem found_mem {R : List Pk} {ns : List Imp} {p : Pk} (h : p ∈ foundOf R ns) : p ∈ R := by
  unfold foundOf at h
  obtain ⟨m, _, hm⟩ := List.mem_filterMap.1 h
  exact reachP_mem hm
def stepsOf (R : List Pk) (nf : Pk → List Imp) (p : Pk) : List Pk := foundOf R (nf p)

set_option maxRecDepth 100000 in
set_option maxHeartbeats 4000000 in
theorem implSearch {S : Nat → Prop} {B Bs : Nat} {w : World} {sv stv : Value} {R : List Pk} {nf : Pk → List Imp} {ws : List Imp} {starts : List Pk} (hS : ∀ b, S b → b < w.heap.size) (h : ShelfAt S B w sv R nf ws) (hg : Good R nf ws) (hst : OwnP Bs w stv starts) (hsR : ∀ p ∈ starts, p ∈ R) (hsl : starts.length ≤ 1000) :
    Calls Tryz.prog 53 #[stv, .func (.func 54) #[sv] #[]] w fun e w' => (∃ lv T, e = .returned lv ∧ SI (fun p => sortP (foundOf R (nf p))) starts T T.length ∧ (∀ x ∈ T, x.item ∈ R) ∧ (T.map Sd.item).Nodup ∧ OwnT w.heap.size w' lv T) ∧ Below w.heap.size w w' := by
  have hmm := @run_makeMap Tryz.prog
  have hmf : ∀ (fn : Fn) (first cap : Array Value) (w : World), (Instr.makeFunc fn first cap).run Tryz.prog w = .ok (.func fn first cap) w := fun _ _ _ _ => rfl
  have hkey : ∀ p ∈ R, ∃ kl, keyOf Tryz.prog 41 (pkVal p) = some kl := by
    obtain ⟨rv, mb, wv, f, n, _, _, _, _, h5⟩ := h
    exact fun p hp => by obtain ⟨kl, k1, _⟩ := h5 p hp; exact ⟨kl, k1⟩
  have c62 := fun (W : World) (hW : Below w.heap.size w W) (p : Pk) (hp : p ∈ R) => implSteps (w := W) (fun b hb => Nat.lt_of_lt_of_le (hS b hb) hW.size) (h.below hS hW) hg p hp
  have HC : Hid _ := c62
  have HKY : Hid _ := hkey
  have HSR : Hid _ := hsR
  have hRl := hg.len
  have HGN : Hid (∀ p ∈ R, (nf p).length ≤ 20) := hg.needs
  have HST : Hid (OwnP Bs w stv starts) := hst
  obtain ⟨sa, sc, hsv, _⟩ := hst.value
  subst hsv
  obtain ⟨rv, mb0, wv, f0, n0, hsvv, _⟩ := h
  subst hsvv
  clear c62 hkey hsR hst hg hS
  go_enter Tryz.func53, Tryz.ntmps53
  go_upto_region 4 with fail
  have bA : Below w.heap.size w (w.alloc (.cells #[.slice none 0 0] 67)) := (Below.refl _ w).alloc (Nat.le_refl _) _
  have bM : Below (w.heap.size + 1) (w.alloc (.cells #[.slice none 0 0] 67)) ((w.alloc (.cells #[.slice none 0 0] 67)).alloc (.map #[] 0)) := by
    have := (Below.refl _ (w.alloc (.cells #[.slice none 0 0] 67))).alloc (Nat.le_refl _) (.map #[] 0)
    rwa [World.size_alloc] at this
  have bP : Below (w.heap.size + 1 + 1) ((w.alloc (.cells #[.slice none 0 0] 67)).alloc (.map #[] 0)) (((w.alloc (.cells #[.slice none 0 0] 67)).alloc (.map #[] 0)).alloc (.cells #[.map (some (w.heap.size + 1))] 111)) := by
    have := (Below.refl _ ((w.alloc (.cells #[.slice none 0 0] 67)).alloc (.map #[] 0))).alloc (Nat.le_refl _) (.cells #[.map (some (w.heap.size + 1))] 111)
    rwa [World.size_alloc, World.size_alloc] at this
  have s1 : (w.alloc (.cells #[.slice none 0 0] 67)).heap.size = w.heap.size + 1 := World.size_alloc _ _
  have s2 : ((w.alloc (.cells #[.slice none 0 0] 67)).alloc (.map #[] 0)).heap.size = w.heap.size + 1 + 1 := by rw [World.size_alloc, s1]
  have bW : Below w.heap.size w (((w.alloc (.cells #[.slice none 0 0] 67)).alloc (.map #[] 0)).alloc (.cells #[.map (some (w.heap.size + 1))] 111)) := (bA.trans (bM.mono (by omega))).trans (bP.mono (by omega))
  have h0 : Held w.heap.size (((w.alloc (.cells #[.slice none 0 0] 67)).alloc (.map #[] 0)).alloc (.cells #[.map (some (w.heap.size + 1))] 111)) w.heap.size (w.heap.size + 1 + 1) (w.heap.size + 1) [] (.slice none 0 0) 0 := by
    refine ⟨?_, ⟨rfl, .inl ⟨rfl, rfl⟩⟩, ?_, ?_, rfl, Nat.le_refl _, by omega⟩
    · exact Blk.below (Blk.below (show Blk (w.alloc (.cells #[.slice none 0 0] 67)) w.heap.size 67 _ from heap_alloc_last w _) (s1 ▸ bM)) (s2 ▸ bP)
    · have := heap_alloc_last ((w.alloc (.cells #[.slice none 0 0] 67)).alloc (.map #[] 0)) (.cells #[.map (some (w.heap.size + 1))] 111)
      rw [s2] at this
      exact this
    · have := Places.made (w.alloc (.cells #[.slice none 0 0] 67))
      rw [s1] at this
      exact this.below (s2 ▸ bP)
  have ce := implEnter (-1) h0 (OwnP.below HST.out bW) bW.size (fun p hp => HKY.out p (HSR.out p hp)) (by simp; omega)
  have HW : Hid _ := bW
  clear bA bM bP s1 s2 h0
  have ek := enter_keep starts [] (-1) HSR.out (by simp) (by simp)
  have HEK : Hid _ := ek
  clear ek
  go_wp2_with (go_at_call 74; go_must (refine ce.mono ?_; rintro e w1 ⟨rfl, ⟨lv1, n1, hh1⟩, hb1⟩))
  have HH1 : Hid (Held w.heap.size w1 w.heap.size (w.heap.size + 1 + 1) (w.heap.size + 1) (enterF [] starts (-1)) lv1 n1) := hh1
  have hbw1 := HW.out.trans hb1
  clear hh1 ce bW
  go_loopw [8] (fun i8 wr => ∃ (k : Nat) (T : List Sd) (lv : Value) (n : Nat), i8 = .int .i64 (k : Int) ∧ k ≤ T.length ∧ Held w.heap.size wr w.heap.size (w.heap.size + 1 + 1) (w.heap.size + 1) T lv n ∧ SI (fun p => sortP (foundOf R (nf p))) starts T k ∧ (∀ x ∈ T, x.item ∈ R) ∧ (T.map Sd.item).Nodup ∧ Below w.heap.size w wr) (fun i8 _ => 1000 - (intOf i8).toNat)
  case atStart => exact ⟨0, _, lv1, n1, rfl, Nat.zero_le _, HH1.out, .start, HEK.out.1, HEK.out.2, hbw1⟩
  case round =>
    obtain ⟨k, T, lv, n, rfl, hk, hhe, hsi, hTR, hTn, hb⟩ := hrel
    have hTl : T.length ≤ R.length := by
      have := nodup_le _ R hTn (fun x hx => by obtain ⟨y, hy, rfl⟩ := List.mem_map.1 hx; exact hTR y hy)
      simpa using this
    obtain ⟨la, lc, hlv, hlc⟩ := hhe.own.value
    subst hlv
    have l0 := hhe.row.cell 0
    simp at l0
    have HHE : Hid (Held w.heap.size wr w.heap.size (w.heap.size + 1 + 1) (w.heap.size + 1) T (.slice la T.length lc) n) := hhe
    have HSI : Hid _ := hsi
    have HTR : Hid _ := hTR
    have HTN : Hid _ := hTn
    clear hhe hsi hTR hTn
    by_cases hkn : k < T.length
    · have hkn' : (k : Int) < (T.length : Int) := by omega
      obtain ⟨g, rfl, _, hgw, hcell⟩ := hlc (by omega)
      obtain ⟨x1, x2, _⟩ := hcell k hkn
      have hiR := HTR.out T[k] (List.getElem_mem hkn)
      have hst := SI.step HSI.out hkn
      obtain ⟨x, hx⟩ : ∃ x, T[k].item = x := ⟨_, rfl⟩
      rw [hx] at x1 x2 hiR hst
      have HSTP : Hid _ := hst
      clear hx hcell hlc hst
      have cn := HC.out wr hb x hiR
      obtain ⟨xn, xv⟩ := x
      unfold pkVal at cn
      dsimp only at x1 x2 cn
      go_wp2_with (first
        | (go_at_call 54; go_must (refine cn.mono ?_; rintro e w2 ⟨⟨q2, f2, rfl, hso2, hop2⟩, hb2⟩; have ce2 := implEnter (k : Int) (HHE.out.below hb2) hop2 (Nat.le_trans hb.size hb2.size) (fun p hp => HKY.out p (found_mem (hso2.perm.mem_iff.1 hp))) (by have h1 := hso2.perm.length_eq; have h2 := found_len R (nf ⟨xn, xv⟩); have h3 := HGN.out _ hiR; omega); have HSO : Hid _ := hso2; clear hso2))
        | (go_at_call 74; go_must (refine ce2.mono ?_; rintro e w3 ⟨rfl, ⟨lv3, n3, hh3⟩, hb3⟩)))
      have hf2 : sortP (foundOf R (nf ⟨xn, xv⟩)) = f2 := sortP_eq HSO.out
      have hst := HSTP.out
      rw [hf2] at hst
      have ek := enter_keep f2 T (k : Int) (fun p hp => found_mem (HSO.out.perm.mem_iff.1 hp)) HTR.out HTN.out
      have hel := enter_len f2 T (k : Int)
      exact ⟨⟨k + 1, _, lv3, n3, rfl, by omega, hh3, hst, ek.1, ek.2, (hb.trans (hb2.mono hb.size)).trans hb3⟩, by simp [intOf]; omega⟩
    · obtain rfl : k = T.length := by omega
      have hkn' : ¬ ((T.length : Int) < (T.length : Int)) := by omega
      go_wp2_with fail
      go_ret
      exact ⟨⟨_, rfl, T, HSI.out, HTR.out, HTN.out, HHE.out.own⟩, hb⟩
end Go.Proofs.YteokcdobapkkhaaGreatDoor

namespace Go.Proofs.YteokcdobapkkhaaGreatDoor
open Go.ChangeShapes Go.WideShapes Go.ChangeAt Go.RowKit
set_option linter.unusedVariables false

/-- The end of the search. -/
structure Rows' (R : List Pk) (nf : Pk → List Imp) (ws : List Imp) (T : List Sd) : Prop where
  run : SI (fun p => sortP (foundOf R (nf p))) (sortP (foundOf R ws)) T T.length
  mem : ∀ x ∈ T, x.item ∈ R
  once : (T.map Sd.item).Nodup

set_option maxRecDepth 100000 in
set_option maxHeartbeats 4000000 in
theorem implRows {S : Nat → Prop} {B : Nat} {w : World} {sv : Value} {R : List Pk} {nf : Pk → List Imp} {ws : List Imp} (hS : ∀ b, S b → b < w.heap.size) (h : ShelfAt S B w sv R nf ws) (hg : Good R nf ws) :
    Calls Tryz.prog 24 #[sv] w fun e w' => (∃ lv T, e = .returned lv ∧ Rows' R nf ws T ∧ OwnT w.heap.size w' lv T) ∧ Below w.heap.size w w' := by
  have hmf : ∀ (fn : Fn) (first cap : Array Value) (w : World), (Instr.makeFunc fn first cap).run Tryz.prog w = .ok (.func fn first cap) w := fun _ _ _ _ => rfl
  have h0 := h
  obtain ⟨rv, mb, wv, f, n, rfl, h2, h3, h4, h5⟩ := h
  obtain ⟨ra, rc, hrv, _⟩ := h2.value
  obtain ⟨wa, wc, hwv⟩ := h4.shape
  subst hrv hwv
  have hbA : Below w.heap.size w (w.alloc (.cells #[.slice ra R.length rc, .map (some mb), .slice wa ws.length wc] 55)) := (Below.refl _ w).alloc (Nat.le_refl _) _
  have cr := implReach (mv := .map (some mb)) (wv := .slice wa ws.length wc) (fun b hb => Nat.lt_of_lt_of_le (hS b hb) hbA.size) (h2.below hbA) (by have := hg.len; omega) hg.sort (h4.keep (cells_below hS hbA)) (by have := hg.wish; omega) ⟨_, rfl⟩ ⟨_, _, _, rfl⟩
  have HS : Hid _ := hS
  have H0 : Hid (ShelfAt S B w (.agg #[.slice ra R.length rc, .map (some mb), .slice wa ws.length wc]) R nf ws) := h0
  have HG : Hid (Good R nf ws) := hg
  have hwl := hg.wish
  clear h0 h2 h3 h4 h5 hS hg
  go_enter Tryz.func24, Tryz.ntmps24
  go_wp2_with (first
    | (go_at_call 52; go_must (refine cr.mono ?_; rintro e w1 ⟨⟨p1, q1, f1, rfl, hso, hop, hos⟩, hb1⟩; have hbw1 := good_below hbA hb1; have hbk : Blk w1 w.heap.size 55 #[.slice ra R.length rc, .map (some mb), .slice wa ws.length wc] := Blk.below (heap_alloc_last w _) hb1; have k0 := hbk.cell 0; have k1 := hbk.cell 1; have k2 := hbk.cell 2; simp at k0 k1 k2; have HSO : Hid _ := hso; have cs := implSearch (w := w1) (fun b hb => Nat.lt_of_lt_of_le (HS.out b hb) hbw1.size) (ShelfAt.below H0.out HS.out hbw1) HG.out hop (fun p hp => found_mem (hso.perm.mem_iff.1 hp)) (by have h1 := hso.perm.length_eq; have h2 := found_len R ws; omega); clear hso hbk))
    | (go_at_call 53; go_must (refine cs.mono ?_; rintro e w2 ⟨⟨lv, T, rfl, hsi, hmem, hnd, hot⟩, hb2⟩)))
  go_ret
  have hf : sortP (foundOf R ws) = f1 := sortP_eq HSO.out
  have hrow : Rows' R nf ws T := ⟨by rw [hf]; exact hsi, hmem, hnd⟩
  exact ⟨⟨lv, T, rfl, hrow, OwnT.mono hot hbw1.size⟩, good_below hbw1 hb2⟩
end Go.Proofs.YteokcdobapkkhaaGreatDoor

namespace Go.Proofs.YteokcdobapkkhaaGreatDoor
open Go.ChangeShapes Go.WideShapes Go.ChangeAt Go.RowKit
set_option linter.unusedVariables false

def overL (P : List Pk) (ns : List Imp) : List ByteArray := (ns.filter (aboveB P)).map Imp.name
/-- The least name that is passed, if there is one. -/
def overB (P : List Pk) (ns : List Imp) : Option ByteArray := (sortB (overL P ns)).head?
def textOf : Option ByteArray → ByteArray
  | none => ⟨#[]⟩
  | some x => x
theorem overL_snoc (P : List Pk) (ns : List Imp) (k : Nat) (hk : k < ns.length) : overL P (ns.take (k + 1)) = if aboveB P ns[k] then overL P (ns.take k) ++ [ns[k].name] else overL P (ns.take k) := by
  unfold overL
  rw [List.take_succ_eq_append_getElem hk, List.filter_append, List.map_append]
  cases h : aboveB P ns[k] <;> simp [h]
theorem overL_le (P : List Pk) (ns : List Imp) : (overL P ns).length ≤ ns.length := by
  unfold overL
  rw [List.length_map]
  exact List.length_filter_le _ _

set_option maxRecDepth 100000 in
set_option maxHeartbeats 2000000 in
theorem specOver {S : Nat → Prop} {B : Nat} {P : List Pk} {ns : List Imp} {v u : Value} {w : World} (hS : ∀ b, S b → b < w.heap.size) (h : OwnP B w v P) (hl : P.length ≤ 1000000) (h2 : ImpsAt S w u ns) (hn : ns.length ≤ 100000) :
    Calls Tryz.prog 38 #[v, u] w fun e w' => e = .returned (.tuple #[.string (textOf (overB P ns)), .bool (overB P ns).isSome]) ∧ Below w.heap.size w w' := by
  obtain ⟨_, a, cap, rfl, hc⟩ := h2
  have HC : Hid _ := hc
  have HP : Hid (OwnP B w v P) := h
  obtain ⟨ap, cpp, hv, _⟩ := h.value
  subst hv
  clear hc h
  unfold overB
  obtain ⟨R, hR⟩ : ∃ R, sortB (overL P ns) = R := ⟨_, rfl⟩
  rw [hR]
  have HR : Hid (sortB (overL P ns) = R) := hR
  clear hR
  go_enter Tryz.func38, Tryz.ntmps38
  go_wp2_with fail
  go_loopw [6, 7] (fun i6 i7 wr => ∃ (k : Nat), i7 = .int .i64 (k : Int) ∧ k ≤ ns.length ∧ OwnS w.heap.size wr i6 (overL P (ns.take k)) ∧ Below w.heap.size w wr) (fun _ i7 _ => ns.length - (intOf i7).toNat)
  case atStart => exact ⟨0, rfl, by omega, ⟨rfl, .inr ⟨w.heap.size, 0, #[], rfl, Nat.le_refl _, heap_alloc_last w _, Nat.le_refl _, Nat.zero_le _, rfl, rfl⟩⟩, (Below.refl _ w).alloc (Nat.le_refl _) _⟩
  case round =>
    obtain ⟨k, rfl, hk, hown, hb⟩ := hrel
    have HOW : Hid (OwnS w.heap.size wr _ (overL P (ns.take k))) := hown
    clear hown
    by_cases hkn : k < ns.length
    · have hkn' : (k : Int) < (ns.length : Int) := by omega
      obtain ⟨b, off, rfl, hbB, hcell⟩ := HC.out (by omega)
      obtain ⟨x1, x2, x3⟩ := hcell k hkn
      have hbw := hS b hbB
      have hsn := overL_snoc P ns k hkn
      have hLl : (overL P (ns.take k)).length ≤ 100000 := by have := overL_le P (ns.take k); rw [List.length_take] at this; omega
      obtain ⟨L, hL⟩ : ∃ L, overL P (ns.take k) = L := ⟨_, rfl⟩
      rw [hL] at HOW hsn hLl
      obtain ⟨x, hx⟩ : ∃ x, ns[k] = x := ⟨_, rfl⟩
      rw [hx] at x1 x2 x3 hsn
      clear hx hcell hL
      obtain ⟨nm, mn, mx⟩ := x
      dsimp only at x1 x2 x3 hsn
      have d1 := (hb.cell (p := ⟨b, off + k * 3, none⟩) hbw).trans x1
      have d2 := (hb.cell (p := ⟨b, off + k * 3 + 1, none⟩) hbw).trans x2
      have d3 := (hb.cell (p := ⟨b, off + k * 3 + 2, none⟩) hbw).trans x3
      have ca := specAbove nm mn mx (HP.out.below hb) hl
      obtain ⟨G, hG⟩ : ∃ G, aboveB P ⟨nm, mn, mx⟩ = G := ⟨_, rfl⟩
      rw [hG] at ca hsn
      have HSN : Hid _ := hsn
      clear hG hsn
      obtain ⟨a3, c3, hv3, _⟩ := HOW.out.value
      subst hv3
      cases G
      · go_wp2_with (go_at_call 63; go_must (refine ca.mono ?_; rintro e w1 ⟨rfl, hb1⟩))
        exact ⟨⟨k + 1, rfl, by omega, by rw [HSN.out]; exact HOW.out.below hb1, good_below hb hb1⟩, by simp [intOf]; omega⟩
      · obtain ⟨ti, hti, ht0, ht1, ht2⟩ := info9
        go_wp2_with (first
          | (go_at_call 63; go_must (refine ca.mono ?_; rintro e w1 ⟨rfl, hb1⟩; have e1 := (hb1.cell (p := ⟨b, off + k * 3, none⟩) (Nat.lt_of_lt_of_le hbw hb.size)).trans d1))
          | (at_builtin; go_must (refine wpList_appendS rfl (.tmp 21) (.tmp 27) 28 rfl Tryz.underlying28 ti hti ht0 ht1 ht2 w.heap.size (.slice a3 L.length c3) L rfl (HOW.out.below (hb1.alloc hb1.size _)) ⟨w1.heap.size, 0, none⟩ 1 nm rfl (new_cell w1 nm) (by omega) (by have := hb.size; have := hb1.size; simp only [World.size_alloc]; omega) ?_; intro v4 w4 hown4 hB4 hgr4)))
        have hbb := good_below hb hb1
        exact ⟨⟨k + 1, rfl, by omega, by rw [HSN.out]; exact hown4, (hbb.alloc hbb.size _).trans hB4⟩, by simp [intOf]; omega⟩
    · have hkn' : ¬ ((k : Int) < (ns.length : Int)) := by omega
      obtain rfl : k = ns.length := by omega
      have hown := HOW.out
      rw [List.take_of_length_le (Nat.le_refl _)] at hown
      have cs := specSort hown (by have := overL_le P ns; omega)
      rw [HR.out] at cs
      clear hown
      cases R with
      | nil =>
        go_wp2_with (go_at_call 62; go_must (refine cs.mono ?_; rintro e w1 ⟨⟨p, rfl, ho1⟩, hb1⟩; obtain ⟨a5, c5, hv5, _⟩ := ho1.value; subst hv5))
        go_ret2
        exact ⟨rfl, good_below hb hb1⟩
      | cons y r =>
        have hrl : ((y :: r).length : Int) ≠ 0 := by simp; omega
        go_wp2_with (go_at_call 62; go_must (refine cs.mono ?_; rintro e w1 ⟨⟨p, rfl, ho1⟩, hb1⟩; obtain ⟨a5, c5, hv5, hc5⟩ := ho1.value; subst hv5; obtain ⟨g5, rfl, hc6⟩ := hc5 (by simp); have h0 := hc6 0 (by simp); simp at h0))
        go_ret2
        exact ⟨rfl, good_below hb hb1⟩
end Go.Proofs.YteokcdobapkkhaaGreatDoor

namespace Go.Proofs.YteokcdobapkkhaaGreatDoor
open Go.ChangeShapes Go.WideShapes Go.ChangeAt Go.RowKit
set_option linter.unusedVariables false

/-- The marks of the reached. -/
noncomputable def marksOf (l : List Rel) (ws : List Imp) : List Bool := (List.range l.length).map fun i => @decide (Rch l ws i) (Classical.propDecidable _)
theorem marks_eq {l : List Rel} {ws : List Imp} {bs : List Bool} (hlen : bs.length = l.length) (h : ∀ i, bs[i]? = some true ↔ Rch l ws i) : bs = marksOf l ws := by
  apply List.ext_getElem?
  intro i
  unfold marksOf
  rw [List.getElem?_map]
  by_cases hi : i < l.length
  · rw [List.getElem?_range hi]
    simp only [Option.map_some]
    by_cases hr : Rch l ws i
    · rw [(h i).2 hr]; simp [hr]
    · have hne : bs[i]? ≠ some true := fun e => hr ((h i).1 e)
      rw [List.getElem?_eq_getElem (by omega)] at hne ⊢
      simp only [hr, decide_false]
      cases hb : bs[i]
      · rfl
      · exact absurd (by rw [hb]) hne
  · rw [List.getElem?_eq_none (by omega), List.getElem?_eq_none (by simp; omega)]
    rfl
/-- A name of a need that counts and reaches nothing. -/
def LostName (l : List Rel) (ws : List Imp) (t : ByteArray) : Prop := ∃ m, Asked l ws m ∧ reachB l m = none ∧ m.name = t
open Classical in
/-- The names of needs that reach nothing, in their order. -/
noncomputable def lostOf (l : List Rel) (ws : List Imp) : List ByteArray := if h : ∃ L : List ByteArray, ∀ t, t ∈ L ↔ LostName l ws t then sortB (Classical.choose h) else []
theorem lost_eq {l : List Rel} {ws : List Imp} {L : List ByteArray} (h : ∀ t, t ∈ L ↔ LostName l ws t) : sortB L = lostOf l ws := by
  unfold lostOf
  have hex : ∃ L : List ByteArray, ∀ t, t ∈ L ↔ LostName l ws t := ⟨L, h⟩
  rw [dif_pos hex]
  exact sortB_eq (fun x => by rw [h x, Classical.choose_spec hex x])
noncomputable def pickedOf (l : List Rel) (ws : List Imp) : List Nat := (sortB (namesUp l (marksOf l ws) l.length)).map (bestN l (marksOf l ws))
/-- Of the releases at the places ns the first one a need of which is passed. -/
def firstOver (l : List Rel) (P : List Pk) : List Nat → Option (ByteArray × ByteArray)
  | [] => none
  | n :: r => match l[n]? with
    | none => firstOver l P r
    | some x => match overB P x.needs with
      | some t => some (x.name, t)
      | none => firstOver l P r
def finish (l : List Rel) (ws : List Imp) (L : List ByteArray) (NS : List Nat) (P : List Pk) : List Nat × Int × List ByteArray :=
  if L ≠ [] then ([], 7, L) else
  match overB P ws with
  | some t => ([], 9, [⟨#[]⟩, t])
  | none => match firstOver l P NS with
    | some (a, t) => ([], 9, [a, t])
    | none => (NS, 0, [])
noncomputable def choiceOf (l : List Rel) (ws : List Imp) : List Nat × Int × List ByteArray := finish l ws (lostOf l ws) (pickedOf l ws) (picksOf l (pickedOf l ws))

theorem store_needs {nameB : ByteArray → Bool} {l : List Rel} (h : storeB nameB l = true) : l.length ≤ 200 ∧ ∀ r ∈ l, r.needs.length ≤ 20 := by
  unfold storeB at h
  simp only [Bool.and_eq_true, decide_eq_true_eq, List.all_eq_true] at h
  refine ⟨h.1, fun r hr => ?_⟩
  obtain ⟨i, hi, rfl⟩ := List.getElem_of_mem hr
  have := h.2 i (by simpa using hi)
  rw [List.getElem?_eq_getElem hi] at this
  simp only [relB, Bool.and_eq_true] at this
  have hw := this.1.1.2
  unfold wishesB at hw
  split at hw
  · simp at hw
  · omega
theorem best_lt {l : List Rel} {bs : List Bool} (hlen : bs.length = l.length) : ∀ n ∈ (sortB (namesUp l bs l.length)).map (bestN l bs), n < l.length := by
  intro n hn
  obtain ⟨t, ht, rfl⟩ := List.mem_map.1 hn
  rw [sortB_mem] at ht
  obtain ⟨i, hi, hil⟩ := (names_mem hlen t).1 ht
  obtain ⟨j, hj, hjl, _⟩ := bestUp_some l.length i hil hil hi
  unfold bestN bestB
  rw [hj]
  exact hjl
theorem marks_len (l : List Rel) (ws : List Imp) : (marksOf l ws).length = l.length := by simp [marksOf]
theorem picked_len (l : List Rel) (bs : List Bool) : ((sortB (namesUp l bs l.length)).map (bestN l bs)).length ≤ l.length := by
  rw [List.length_map]
  refine Nat.le_trans (sortB_len _) ?_
  unfold namesUp
  rw [List.length_map]
  exact Nat.le_trans (List.length_filter_le _ _) (by simp; omega)
theorem firstOver_drop {l : List Rel} {P : List Pk} {ns : List Nat} {k : Nat} (hk : k < ns.length) {x : Rel} (hx : l[ns[k]]? = some x) : firstOver l P (ns.drop k) = match overB P x.needs with
    | some t => some (x.name, t)
    | none => firstOver l P (ns.drop (k + 1)) := by
  rw [List.drop_eq_getElem_cons hk]
  conv => lhs; unfold firstOver
  rw [hx]

theorem empty_own (B : Nat) (w : World) (hB : B ≤ w.heap.size) : OwnS B (w.alloc (.cells #[] 9)) (.slice (some ⟨w.heap.size, 0, none⟩) 0 0) [] :=
  ⟨rfl, .inr ⟨w.heap.size, 0, #[], rfl, hB, heap_alloc_last w _, Nat.le_refl _, Nat.zero_le _, rfl, rfl⟩⟩
theorem empty_num (B : Nat) (w : World) (hB : B ≤ w.heap.size) : OwnN B (w.alloc (.cells #[] 3)) (.slice (some ⟨w.heap.size, 0, none⟩) 0 0) [] :=
  ⟨rfl, .inr ⟨w.heap.size, 0, #[], rfl, hB, heap_alloc_last w _, Nat.le_refl _, Nat.zero_le _, rfl, rfl⟩⟩
theorem two_own (B : Nat) (w : World) (hB : B ≤ w.heap.size) (x y : ByteArray) : OwnS B (w.alloc (.cells #[.string x, .string y] 9)) (.slice (some ⟨w.heap.size, 0, none⟩) 2 2) [x, y] :=
  ⟨rfl, .inr ⟨w.heap.size, 2, #[.string x, .string y], rfl, hB, heap_alloc_last w _, Nat.le_refl _, by decide, rfl, rfl⟩⟩

set_option maxRecDepth 100000 in
set_option maxHeartbeats 4000000 in
theorem specChoice (nameB : ByteArray → Bool) : ChoiceC 16 nameB choiceOf := by
  intro S l ws v u w hS hR hI hst hws
  obtain ⟨hl, hn⟩ := store_needs hst
  have HR : Hid (RelsAt S w v l) := hR
  have HI : Hid (ImpsAt S w u ws) := hI
  have HS : Hid _ := hS
  have c35 := specReached hS hR hI hl hn hws
  have HN : Hid _ := hn
  obtain ⟨a, cap, hv⟩ := hR.shape
  obtain ⟨a2, cap2, hu⟩ := hI.shape
  subst hv hu
  clear hR hI hS hn hst
  obtain ⟨L, hL⟩ : ∃ L, lostOf l ws = L := ⟨_, rfl⟩
  have HL : Hid (lostOf l ws = L) := hL
  obtain ⟨NS, hNS⟩ : ∃ NS, pickedOf l ws = NS := ⟨_, rfl⟩
  have HNS : Hid (pickedOf l ws = NS) := hNS
  obtain ⟨P, hP⟩ : ∃ P, picksOf l NS = P := ⟨_, rfl⟩
  have HP : Hid (picksOf l NS = P) := hP
  clear hL hNS hP
  obtain ⟨A, hA⟩ : ∃ A, choiceOf l ws = A := ⟨_, rfl⟩
  rw [hA]
  have HA : Hid (finish l ws L NS P = A) := (show finish l ws L NS P = A from by rw [← hA]; unfold choiceOf; rw [HL.out, HNS.out, HP.out])
  clear hA
  go_enter Tryz.func16, Tryz.ntmps16
  go_upto_region 2 with (go_at_call 36; go_must (refine c35.mono ?_; rintro e w1 ⟨⟨p1, q1, bs, N, lost, rfl, hbo, hos, hsr⟩, hb1⟩))
  have hall := hsr.all
  have hbs : bs = marksOf l ws := marks_eq hsr.len hall.1
  have hlo : sortB lost = L := (lost_eq hall.2).trans HL.out
  subst hbs
  rw [hlo] at hos
  clear hlo hall hsr c35
  have HBO : Hid _ := hbo
  have HOS : Hid (OwnS w.heap.size w1 q1 L) := hos
  obtain ⟨a8, c8, hv8, _⟩ := hos.value
  subst hv8
  clear hbo hos
  by_cases hL0 : L = []
  · have hL1 : L.length = 0 := by rw [hL0]; rfl
    have hA1 := HA.out
    unfold finish at hA1
    rw [if_neg (by rw [hL0]; simp)] at hA1
    have HA1 : Hid _ := hA1
    clear hA1 HA HOS
    rw [hL1]
    obtain ⟨gb, hgb, hp1, hbk⟩ := HBO.out
    rw [marks_len] at hp1
    subst hp1
    have hns : ∀ n ∈ NS, n < l.length := by rw [← HNS.out]; exact best_lt (marks_len l ws)
    have hnl : NS.length ≤ l.length := by rw [← HNS.out]; exact picked_len l _
    have c36 := specPicked (fun b hb => Nat.lt_of_lt_of_le (HS.out b hb) hb1.size) (RelsAt.keep HR.out (cells_below HS.out hb1)) (show Bools w.heap.size w1 (.slice (some ⟨gb, 0, none⟩) l.length l.length) (marksOf l ws) from by rw [← marks_len l ws]; exact ⟨gb, hgb, rfl, hbk⟩) (marks_len l ws) hl
    have hNSe : (sortB (namesUp l (marksOf l ws) l.length)).map (bestN l (marksOf l ws)) = NS := HNS.out
    rw [hNSe] at c36
    have c24 := fun (W : World) (hW : Below w.heap.size w W) (B : Nat) (p : Value) (hp : OwnN B W p NS) => specPicks (w := W) (fun b hb => Nat.lt_of_lt_of_le (HS.out b hb) hW.size) (RelsAt.keep HR.out (cells_below HS.out hW)) hp hns (by omega)
    rw [HP.out] at c24
    have hPl : P.length = NS.length := by rw [← HP.out]; simp [picksOf]
    have c37 := fun (W : World) (hW : Below w.heap.size w W) (B : Nat) (p : Value) (hp : OwnP B W p P) => specOver (w := W) (fun b hb => Nat.lt_of_lt_of_le (HS.out b hb) hW.size) hp (by omega) (ImpsAt.keep HI.out (cells_below HS.out hW)) (by omega)
    have HPL : Hid (P.length = NS.length) := hPl
    have HNSM : Hid (∀ n ∈ NS, n < l.length) := hns
    clear hbk HBO hNSe hns hPl
    obtain ⟨OV, hOV⟩ : ∃ OV, overB P ws = OV := ⟨_, rfl⟩
    have HOV : Hid (overB P ws = OV) := hOV
    rw [hOV] at c37
    clear hOV
    cases OV with
    | some t =>
      have hA2 := HA1.out
      rw [HOV.out] at hA2
      dsimp only at hA2
      subst hA2
      clear HA1
      simp only [textOf, Option.isSome_some] at c37
      go_wp2_with (first
        | (go_at_call 37; go_must (refine c36.mono ?_; rintro e w2 ⟨⟨p2, rfl, hn2⟩, b2⟩; have hb2 := good_below hb1 b2))
        | (go_at_call 17; go_must (refine (c24 _ hb2 _ _ hn2).mono ?_; rintro e w3 ⟨⟨p3, rfl, ho3⟩, b3⟩; have hb3 := good_below hb2 b3))
        | (go_at_call 38; go_must (refine (c37 _ hb3 _ _ ho3).mono ?_; rintro e w4 ⟨rfl, b4⟩; have hb4 := good_below hb3 b4)))
      have q2 := two_own w.heap.size (w4.alloc (.cells #[] 3)) (Nat.le_trans hb4.size (by simp)) ⟨#[]⟩ t
      rw [World.size_alloc] at q2
      go_ret3
      exact ⟨⟨_, _, rfl, (empty_num _ w4 hb4.size).below ((Below.refl _ _).alloc (Nat.le_refl _) _), q2⟩, (hb4.alloc hb4.size _).alloc (Nat.le_trans hb4.size (by simp)) _⟩
    | none =>
      have hA2 := HA1.out
      rw [HOV.out] at hA2
      dsimp only at hA2
      have HA2 : Hid _ := hA2
      clear HA1 hA2
      simp only [textOf, Option.isSome_none] at c37
      obtain ⟨FO, hFO⟩ : ∃ FO, firstOver l P NS = FO := ⟨_, rfl⟩
      have HFO : Hid (firstOver l P NS = FO) := hFO
      clear hFO
      go_wp2_with (first
        | (go_at_call 37; go_must (refine c36.mono ?_; rintro e w2 ⟨⟨p2, rfl, hn2⟩, b2⟩; have hb2 := good_below hb1 b2; obtain ⟨a9, c9, rfl, hs9⟩ := hn2.value; have HN2 : Hid (OwnN w1.heap.size w2 (.slice a9 NS.length c9) NS) := hn2; have HS9 : Hid _ := hs9; clear hn2 hs9))
        | (go_at_call 17; go_must (refine (c24 _ hb2 _ _ HN2.out).mono ?_; rintro e w3 ⟨⟨p3, rfl, ho3⟩, b3⟩; have hb3 := good_below hb2 b3; obtain ⟨a10, c10, rfl, hs10⟩ := ho3.value; have HO3 : Hid (OwnP w2.heap.size w3 (.slice a10 P.length c10) P) := ho3; have HS10 : Hid _ := hs10; clear ho3 hs10))
        | (go_at_call 38; go_must (refine (c37 _ hb3 _ _ HO3.out).mono ?_; rintro e w4 ⟨rfl, b4⟩; have hb4 := good_below hb3 b4)))
      clear c36 c24 c37
      go_loopw [13] (fun i13 wr => ∃ (k : Nat), i13 = .int .i64 (k : Int) ∧ k ≤ NS.length ∧ firstOver l P (NS.drop k) = FO ∧ Below w3.heap.size w3 wr) (fun i13 _ => NS.length - (intOf i13).toNat)
      case atStart => exact ⟨0, rfl, by omega, HFO.out, b4⟩
      case round =>
        obtain ⟨k, rfl, hk, hfo, hbr⟩ := hrel
        have hbR := good_below hb3 hbr
        by_cases hkn : k < NS.length
        · have hkn' : (k : Int) < (NS.length : Int) := by omega
          obtain ⟨g9, rfl, hg9, hc9⟩ := HS9.out (by omega)
          obtain ⟨n, hn⟩ : ∃ n, NS[k] = n := ⟨_, rfl⟩
          have hnk : n < l.length := hn ▸ HNSM.out NS[k] (List.getElem_mem hkn)
          have x9 := ((good_below b3 hbr).cell (p := ⟨g9, k, none⟩) hg9).trans (hc9 k hkn)
          rw [hn] at x9
          obtain ⟨r, hr⟩ : ∃ r, l[n]? = some r := ⟨_, List.getElem?_eq_getElem hnk⟩
          have hfd := firstOver_drop (P := P) hkn (show l[NS[k]]? = some r from by rw [hn]; exact hr)
          rw [hfo] at hfd
          have hpn : P[k]? = some ⟨r.name, r.ver⟩ := by
            rw [← HP.out]
            unfold picksOf
            rw [List.getElem?_map, List.getElem?_eq_getElem hkn, hn]
            simp [pickAt, hr]
          clear hn hc9 hfo
          obtain ⟨hlm, ra, rc, hrv, hrc⟩ := (show RelsAt S w (.slice a l.length cap) l from HR.out)
          simp only [Value.slice.injEq] at hrv
          obtain ⟨rfl, _, rfl⟩ := hrv
          obtain ⟨b, off, rfl, hbS, hrcell⟩ := hrc (by omega)
          obtain ⟨_, _, nv, z3, hnv⟩ := hrcell n hnk
          have hbw := HS.out b hbS
          have hr' : l[n] = r := (List.getElem?_eq_some_iff.1 hr).2
          have hn20 := HN.out r (hr' ▸ List.getElem_mem hnk)
          rw [hr'] at hnv
          clear hr hr' hrcell hrc hlm
          obtain ⟨na, nc, rfl⟩ := hnv.shape
          have z4 := (hbR.cell (p := ⟨b, off + n * 3 + 2, none⟩) hbw).trans z3
          have HNV : Hid (ImpsAt S w (.slice na r.needs.length nc) r.needs) := hnv
          have hnl' : (n : Int) < (l.length : Int) := by omega
          have HFD : Hid _ := hfd
          clear hnv hfd
          have c37 := specOver (w := wr) (fun b hb => Nat.lt_of_lt_of_le (HS.out b hb) hbR.size) (OwnP.below HO3.out hbr) (by have := HPL.out; omega) (ImpsAt.keep HNV.out (cells_below HS.out hbR)) (by omega)
          obtain ⟨g10, rfl, hc10⟩ := HS10.out (by have := HPL.out; omega)
          have hkP : k < P.length := by have := HPL.out; omega
          have hPk : P[k] = ⟨r.name, r.ver⟩ := by
            rw [List.getElem?_eq_getElem hkP] at hpn
            exact Option.some.inj hpn
          have x10 := (hbr.cell (p := ⟨g10, k * 2, none⟩) (cell_lt' (hc10 k hkP).1)).trans (hc10 k hkP).1
          rw [hPk] at x10
          dsimp only at x10
          have hkP' : (k : Int) < (P.length : Int) := by omega
          have hg10 := cell_lt' (hc10 k hkP).1
          clear hc10 hPk hpn
          obtain ⟨OV2, hOV2⟩ : ∃ OV, overB P r.needs = OV := ⟨_, rfl⟩
          rw [hOV2] at c37
          have HO2 : Hid (overB P r.needs = OV2) := hOV2
          clear hOV2
          cases OV2 with
          | none =>
            simp only [textOf, Option.isSome_none] at c37
            go_wp2_with (go_at_call 38; go_must (refine c37.mono ?_; rintro e w5 ⟨rfl, b5⟩))
            refine ⟨⟨k + 1, rfl, by omega, ?_, good_below hbr b5⟩, by simp [intOf]; omega⟩
            have h1 := HFD.out
            rw [HO2.out] at h1
            exact h1.symm
          | some t =>
            simp only [textOf, Option.isSome_some] at c37
            have h1 := HFD.out
            rw [HO2.out] at h1
            dsimp only at h1
            have hA3 := HA2.out
            rw [HFO.out, h1] at hA3
            dsimp only at hA3
            subst hA3
            clear h1 HA2
            go_wp2_with (go_at_call 38; go_must (refine c37.mono ?_; rintro e w5 ⟨rfl, b5⟩; have y10 := (b5.cell (p := ⟨g10, k * 2, none⟩) (Nat.lt_of_lt_of_le hg10 hbr.size)).trans x10))
            have hne5 := World.new_ne w5 ⟨g10, k * 2, none⟩ y10
            have hb5 := good_below hbR b5
            have hk0 : (0 : Int) ≤ (k : Int) := by omega
            have p1 := (empty_num w.heap.size w5 hb5.size).below ((Below.refl _ (w5.alloc (.cells #[] 3))).alloc (Nat.le_refl _) (.cells #[.string r.name, .string t] 9))
            have p2 := two_own w.heap.size (w5.alloc (.cells #[] 3)) (Nat.le_trans hb5.size (by simp)) r.name t
            have p3 := (hb5.alloc hb5.size (.cells #[] 3)).alloc (Nat.le_trans hb5.size (by simp)) (.cells #[.string r.name, .string t] 9)
            have r1 := empty_num w.heap.size (w5.alloc (.cells #[.string r.name, .string t] 9)) (Nat.le_trans hb5.size (by simp))
            have r2 := (two_own w.heap.size w5 hb5.size r.name t).below ((Below.refl _ (w5.alloc (.cells #[.string r.name, .string t] 9))).alloc (Nat.le_refl _) (.cells #[] 3))
            have r3 := (hb5.alloc hb5.size (.cells #[.string r.name, .string t] 9)).alloc (Nat.le_trans hb5.size (by simp)) (.cells #[] 3)
            rw [World.size_alloc] at p2 r1
            have P1 : Hid _ := p1
            have P2 : Hid _ := p2
            have R1 : Hid _ := r1
            have R2 : Hid _ := r2
            clear p1 p2 r1 r2
            go_region_held3 (fun w' => w'.cell? ⟨g10, k * 2, none⟩ = some (.string r.name)) (go_keep) (fail)
            all_goals go_wp2_with fail
            all_goals go_ret3
            all_goals first
              | exact ⟨⟨_, _, rfl, P1.out, P2.out⟩, p3.drew⟩
              | exact ⟨⟨_, _, rfl, R1.out, R2.out⟩, r3.drew⟩
        · obtain rfl : k = NS.length := by omega
          have hkn' : ¬ ((NS.length : Int) < (NS.length : Int)) := by omega
          rw [List.drop_length] at hfo
          simp only [firstOver] at hfo
          subst hfo
          have hA3 := HA2.out
          rw [HFO.out] at hA3
          dsimp only at hA3
          subst hA3
          clear HA2
          go_wp2_with fail
          go_ret3
          exact ⟨⟨_, _, rfl, (OwnN.mono (OwnN.below (OwnN.below HN2.out b3) hbr) hb1.size).below ((Below.refl _ _).alloc (Nat.le_refl _) _), empty_own _ wr hbR.size⟩, hbR.alloc hbR.size _⟩
  · have hL1 : (0 : Int) < (L.length : Int) := by
      have : L.length ≠ 0 := fun e => hL0 (List.length_eq_zero_iff.1 e)
      omega
    have hA1 := HA.out
    unfold finish at hA1
    rw [if_pos hL0] at hA1
    subst hA1
    clear HA
    go_wp2_with fail
    go_ret3
    exact ⟨⟨_, _, rfl, empty_num _ w1 hb1.size, OwnS.below HOS.out ((Below.refl _ _).alloc (Nat.le_refl _) _)⟩, hb1.alloc hb1.size _⟩
end Go.Proofs.YteokcdobapkkhaaGreatDoor
