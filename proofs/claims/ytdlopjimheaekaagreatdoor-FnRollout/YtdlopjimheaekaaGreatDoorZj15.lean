/-
  A drawn rollout: spec's RolloutOf; the law's own functions on texts. The law on rollouts over a drawn one: its walk. No statement of the seat is proved here.
-/
import Derived.Test.YtdlopjimheaekaaGreatDoorZj14
import Derived.Deep.Cut
import Derived.Deep.CutRange
import Derived.Deep.CutBlock
namespace Go.Proofs.YtdlopjimheaekaaGreatDoor
open Go.ChangeShapes Go.WideShapes Go.ChangeAt Go.RowKit
set_option linter.unusedVariables false
set_option linter.unusedSimpArgs false

set_option maxRecDepth 100000 in
theorem drawSource (a : Option Addr) (len cap : Nat) (w : World) (hl : len ≤ 1048576) (hc : ∀ i, i < len → ∃ cb co, a = some ⟨cb, co, none⟩ ∧ cb < w.heap.size ∧ ∃ b : Nat, b < 256 ∧ w.cell? ⟨cb, co + i, none⟩ = some (.int .u8 b)) :
    Calls Tryz.prog 9 #[.slice a len cap] w fun e w' => e = .returned (.pointer (some ⟨w.heap.size, 0, none⟩)) ∧ Src w.heap.size w.heap.size a len cap 0 w w' ∧ w'.heap.size = w.heap.size + 1 := by
  have HC : Hid _ := hc
  have hl' : (len : Int) ≤ 1048576 := by omega
  clear hc
  go_enter Tryz.func9, Tryz.ntmps9
  go_wp2_with fail
  go_ret
  refine ⟨rfl, ⟨⟨0, len % 1000, ?_, Nat.le_refl _, by omega⟩, Nat.le_refl _, (Below.refl _ w).alloc (Nat.le_refl _) _, HC.out⟩, by simp⟩
  have hq : ((len % 1000 : Nat) : Int) = (len : Int) % 1000 := by omega
  have := heap_alloc_last w (.cells #[.slice a len cap, .int .i64 0, .int .i64 ((len : Int) % 1000)] 60)
  rw [hq]
  exact this

set_option maxRecDepth 100000 in
set_option maxHeartbeats 4000000 in
theorem drawRolloutOf (a : Option Addr) (len cap : Nat) (w : World) (hl : len ≤ 1048576) (hc : ∀ i, i < len → ∃ cb co, a = some ⟨cb, co, none⟩ ∧ cb < w.heap.size ∧ ∃ b : Nat, b < 256 ∧ w.cell? ⟨cb, co + i, none⟩ = some (.int .u8 b)) :
    Calls Tryz.prog 4 #[.slice a len cap] w fun e w' => (∃ (lo : Nat) (v0 v1 n2 v3 v4 v5 : Value) (l0 : List Rule) (l1 : List Layer) (x2 : Layer) (l3 : List ByteArray) (l4 : List Int) (l5 : List ByteArray), e = .returned (.tuple #[v0, v1, .agg #[.string x2.name, .int .i64 x2.rank, n2], v3, v4, v5]) ∧ RollIn lo w' v0 v1 n2 v3 v4 v5 l0 l1 x2 l3 l4 l5) ∧ Below w.heap.size w w' := by
  have b0 : Below w.heap.size w (w.alloc (.cells #[.string ⟨#[]⟩, .int .i64 0, .slice none 0 0] 27)) := (Below.refl _ w).alloc (Nat.le_refl _) _
  have k4 : Blk (w.alloc (.cells #[.string ⟨#[]⟩, .int .i64 0, .slice none 0 0] 27)) w.heap.size 27 #[.string ⟨#[]⟩, .int .i64 0, .slice none 0 0] := heap_alloc_last w _
  have hz0 : (w.alloc (.cells #[.string ⟨#[]⟩, .int .i64 0, .slice none 0 0] 27)).heap.size = w.heap.size + 1 := by simp
  have c0 := drawSource a len cap (w.alloc (.cells #[.string ⟨#[]⟩, .int .i64 0, .slice none 0 0] 27)) hl (fun i hi => by
    obtain ⟨cb, co, ha, hcb, b, hb, hcell⟩ := hc i hi
    exact ⟨cb, co, ha, Nat.lt_of_lt_of_le hcb b0.size, b, hb, (b0.cell (p := ⟨cb, co + i, none⟩) hcb).trans hcell⟩)
  rw [hz0] at c0
  have HK4 : Hid (Blk (w.alloc (.cells #[.string ⟨#[]⟩, .int .i64 0, .slice none 0 0] 27)) w.heap.size 27 #[.string ⟨#[]⟩, .int .i64 0, .slice none 0 0]) := k4
  have H1 : Hid (∀ (B g : Nat) (W0 W : World), Src B g a len cap 0 W0 W → Calls Tryz.prog 10 #[.pointer (some ⟨g, 0, none⟩)] W fun e w' => (∃ (v0 v1 n2 v3 v4 v5 : Value) (l0 : List Rule) (l1 : List Layer) (x2 : Layer) (l3 : List ByteArray) (l4 : List Int) (l5 : List ByteArray), e = .returned (.tuple #[v0, v1, .agg #[.string x2.name, .int .i64 x2.rank, n2], v3, v4, v5]) ∧ RollIn W.heap.size w' v0 v1 n2 v3 v4 v5 l0 l1 x2 l3 l4 l5) ∧ Below B W0 w') := fun B g W0 W hs => drawRollout hl hs
  have HB0 : Hid (Below w.heap.size w (w.alloc (.cells #[.string ⟨#[]⟩, .int .i64 0, .slice none 0 0] 27))) := b0
  clear k4 hc b0
  go_enter Tryz.func4, Tryz.ntmps4
  go_wp2_with (first
    | (go_at_call 9; go_must (refine c0.mono ?_; rintro e w1 ⟨rfl, hs1, hz1⟩; have cr := H1.out _ _ _ w1 hs1))
    | (go_at_call 10; go_must (refine cr.mono ?_; rintro e w2 ⟨⟨v0, v1, n2, v3, v4, v5, l0, l1, x2, l3, l4, l5, rfl, hin⟩, hb2⟩; obtain ⟨na, nc, hn2⟩ := hin.r2.shape; subst hn2; have k2 := Blk.below' HK4.out hb2 (by omega); have f0 := k2.fro 0; have f1 := k2.fro 1; have f2 := k2.fro 2; have q0 := k2.cell 0; have q1 := k2.cell 1; have q2 := k2.cell 2; simp at q0 q1 q2)))
  have s1 := ((k2.set 0 (.string x2.name)).set 1 (.int .i64 x2.rank)).set 2 (.slice na x2.entries.length nc)
  have u0 := s1.cell 0
  have u1 := s1.cell 1
  have u2 := s1.cell 2
  simp at u0 u1 u2
  refine bodyPost_ret (v := .tuple #[v0, v1, .agg #[.string x2.name, .int .i64 x2.rank, .slice na x2.entries.length nc], v3, v4, v5]) (by simp [results, Tryz.results4, go_sem, u0, u1, u2]) rfl ?_
  have hw2 : Below w.heap.size w w2 := HB0.out.trans (hb2.mono (by omega))
  refine ⟨⟨_, v0, v1, .slice na x2.entries.length nc, v3, v4, v5, l0, l1, x2, l3, l4, l5, rfl, hin.move (fun b hb _ => heap_set3 w2 w.heap.size _ _ _ (by omega)) (by simp only [World.size_setCell]; exact Nat.le_refl _)⟩, ?_⟩
  exact ((hw2.setCell (p := ⟨w.heap.size, 0, none⟩) (Nat.le_refl _) _).setCell (p := ⟨w.heap.size, 1, none⟩) (Nat.le_refl _) _).setCell (p := ⟨w.heap.size, 2, none⟩) (Nat.le_refl _) _
set_option maxRecDepth 100000 in
set_option maxHeartbeats 400000 in
theorem lawHas {S : Nat → Prop} {ss : List ByteArray} {v : Value} {w : World} (h : TxtsAt S w v ss) (hl : ss.length ≤ 1000000) (t : ByteArray) :
    Calls Tryz.prog 8 #[v, .string t] w fun e w' => e = .returned (.bool (hasB ss t)) ∧ w' = w := by
  obtain ⟨_, a, cap, rfl, hc⟩ := h
  have HC : Hid _ := hc
  have hl' : (ss.length : Int) ≤ 1000000 := by omega
  clear hc
  go_enter Tryz.func8, Tryz.ntmps8
  go_wp2
  go_loop [5] (fun i => ∃ k : Nat, k ≤ ss.length ∧ i = .int .i64 (k : Int) ∧ (ss.take k).any (fun x => x.toList == t.toList) = false) (fun i => ss.length - (intOf i).toNat)
  case atStart => exact ⟨0, by omega, rfl, rfl⟩
  case round =>
    obtain ⟨k, hk, rfl, h0⟩ := hrel
    have H0 : Hid ((ss.take k).any (fun x => x.toList == t.toList) = false) := h0
    clear h0
    by_cases hkn : k < ss.length
    · have hkn' : (k : Int) < (ss.length : Int) := by omega
      obtain ⟨g, off, rfl, _, hcell0⟩ := HC.out (by omega)
      have hcell := hcell0 k hkn
      clear hcell0
      obtain ⟨x, hx⟩ : ∃ x, ss[k] = x := ⟨_, rfl⟩
      rw [hx] at hcell
      have HX : Hid (ss[k] = x) := hx
      clear hx
      go_wp2
      · have h1 : (x.toList == t.toList) = true := by assumption
        go_ret
        refine ⟨?_, rfl⟩
        have : hasB ss t = true := any_hit ss _ k hkn (by rw [HX.out]; exact h1)
        rw [this]; rfl
      · have h1 : (x.toList == t.toList) = false := by assumption
        go_round
        case rel => exact ⟨k + 1, by omega, by go_num, any_take_succ ss _ k hkn H0 (by rw [HX.out]; exact h1)⟩
        case measure => simp [intOf]; omega
    · have hkn' : ¬ ((k : Int) < (ss.length : Int)) := by omega
      go_wp2
      go_ret
      refine ⟨?_, rfl⟩
      have : hasB ss t = false := by
        have h1 := H0.out
        rw [List.take_of_length_le (by omega)] at h1
        exact h1
      rw [this]; rfl

/-! The paths of what is merged are right. -/

set_option maxRecDepth 100000 in
set_option maxHeartbeats 1000000 in
theorem lawSame {S S' : Nat → Prop} {ss : List ByteArray} {v v' : Value} {w : World} (h : TxtsAt S w v ss) (h' : TxtsAt S' w v' ss) (hl : ss.length ≤ 1000000) :
    Calls Tryz.prog 7 #[v, v'] w fun e w' => e = .returned (.bool true) ∧ Below w.heap.size w w' := by
  obtain ⟨_, a, cap, rfl, hc⟩ := h
  obtain ⟨_, a', cap', rfl, hc'⟩ := h'
  have HC : Hid _ := hc
  have HC' : Hid _ := hc'
  have hl' : (ss.length : Int) ≤ 1000000 := by omega
  clear hc hc'
  go_enter Tryz.func7, Tryz.ntmps7
  go_wp2_with fail
  go_loopw [5] (fun i5 wr => ∃ k : Nat, k ≤ ss.length ∧ i5 = .int .i64 (k : Int) ∧ Below w.heap.size w wr) (fun i5 _ => ss.length - (intOf i5).toNat)
  case atStart => exact ⟨0, by omega, rfl, Below.refl _ _⟩
  case round =>
    obtain ⟨k, hk, rfl, hb⟩ := hrel
    by_cases hkn : k < ss.length
    · have hkn' : (k : Int) < (ss.length : Int) := by omega
      obtain ⟨g, off, rfl, hg, hcell0⟩ := HC.out (by omega)
      obtain ⟨g', off', rfl, hg', hcell0'⟩ := HC'.out (by omega)
      have x0 := hcell0 k hkn
      have y0 := hcell0' k hkn
      have hgl := cell_lt x0
      have hgl' := cell_lt y0
      replace x0 := (hb.cell (p := ⟨g, off + k, none⟩) hgl).trans x0
      replace y0 := (hb.cell (p := ⟨g', off' + k, none⟩) hgl').trans y0
      obtain ⟨x, hx⟩ : ∃ x, ss[k] = x := ⟨_, rfl⟩
      rw [hx] at x0 y0
      clear hx hcell0 hcell0' hgl hgl'
      go_wp2_with fail
      go_quiet (fail)
      go_wp2_with fail
      exact ⟨⟨k + 1, by omega, by go_num, bel_drewN hb _⟩, by simp [intOf]; omega⟩
    · obtain rfl : k = ss.length := by omega
      have hkn' : ¬ ((ss.length : Int) < (ss.length : Int)) := by omega
      go_wp2_with fail
      go_ret
      exact ⟨rfl, hb⟩
end Go.Proofs.YtdlopjimheaekaaGreatDoor

namespace Go.Proofs.YtdlopjimheaekaaGreatDoor
open Go.ChangeShapes Go.WideShapes Go.ChangeAt Go.RowKit
set_option linter.unusedVariables false
set_option linter.unusedSimpArgs false

theorem stg_row {w : World} {a : Option Addr} {n c : Nat} {L : List Stage} (h : StagesAt (fun b => b < w.heap.size) w (.slice a n c) L) (h0 : 0 < L.length) : ∃ g off, a = some ⟨g, off, none⟩ ∧ g < w.heap.size ∧ ∀ wr, Below w.heap.size w wr → ∀ i (hi : i < L.length), ∃ na nc, wr.cell? ⟨g, off + i * 3, none⟩ = some (.int .i64 L[i].percent) ∧ wr.cell? ⟨g, off + i * 3 + 1, none⟩ = some (.int .i64 L[i].code) ∧ wr.cell? ⟨g, off + i * 3 + 2, none⟩ = some (.slice na L[i].nodes.length nc) ∧ TxtsAt (fun b => b < w.heap.size) wr (.slice na L[i].nodes.length nc) L[i].nodes := by
  obtain ⟨_, a', cap, hv, hc⟩ := h
  simp only [Value.slice.injEq] at hv
  obtain ⟨rfl, -, rfl⟩ := hv
  obtain ⟨g, off, rfl, hg, hcell⟩ := hc h0
  refine ⟨g, off, rfl, hg, fun wr hb i hi => ?_⟩
  obtain ⟨c0, c1, nv, c2, ht⟩ := hcell i hi
  obtain ⟨na, nc, rfl⟩ := ht.shape
  exact ⟨na, nc, (hb.cell (p := ⟨g, off + i * 3, none⟩) hg).trans c0, (hb.cell (p := ⟨g, off + i * 3 + 1, none⟩) hg).trans c1, (hb.cell (p := ⟨g, off + i * 3 + 2, none⟩) hg).trans c2, ht.keep (cells_below (fun b h => h) hb)⟩
set_option maxRecDepth 100000 in
set_option maxHeartbeats 64000000 in
theorem rolloutLaw (w : World) (a0 : Option Addr) (len0 cap0 : Nat)
    (hc0 : ∀ i, i < len0 → ∃ cb co, a0 = some ⟨cb, co, none⟩ ∧ cb < w.heap.size ∧ ∃ b : Nat, b < 256 ∧ w.cell? ⟨cb, co + i, none⟩ = some (.int .u8 b)) (hT : ∀ W, Below w.heap.size w W → Lib.Utf8Tabs 0 1 W) :
    Calls Tryz.prog 3 #[.slice a0 len0 cap0] w fun e w' => e = .returned (.bool true) ∧ Below w.heap.size w w' := by
  by_cases hb0 : 1048576 < len0
  · have hb0' : (1048576 : Int) < (len0 : Int) := by omega
    clear hc0 hT
    go_enter Tryz.func3, Tryz.ntmps3
    go_wp2_with fail
    go_ret
    exact ⟨rfl, Below.refl _ _⟩
  have hb0' : ¬ (1048576 : Int) < (len0 : Int) := by omega
  have c4 := drawRolloutOf a0 len0 cap0 w (by omega) hc0
  have HT : Hid (∀ W, Below w.heap.size w W → Lib.Utf8Tabs 0 1 W) := hT
  clear hc0 hT
  go_enter Tryz.func3, Tryz.ntmps3
  go_upto_region 4 with (go_at_call 4; go_must (refine c4.mono ?_; rintro e w1 ⟨⟨lo, v0, v1, n2, v3, v4, v5, l0, l1, x2, l3, l4, l5, rfl, hin⟩, hbw1⟩; obtain ⟨na, nc, hn2⟩ := hin.r2.shape; obtain ⟨ta, tc, hv3⟩ := hin.r3.shape; subst hn2 hv3))
  have bA : Below w1.heap.size w1 (w1.alloc (.cells #[.string x2.name, .int .i64 x2.rank, .slice na x2.entries.length nc] 27)) := (Below.refl _ w1).alloc (Nat.le_refl _) _
  have kA : Blk (w1.alloc (.cells #[.string x2.name, .int .i64 x2.rank, .slice na x2.entries.length nc] 27)) w1.heap.size 27 #[.string x2.name, .int .i64 x2.rank, .slice na x2.entries.length nc] := heap_alloc_last w1 _
  have hinA := hin.below bA
  have hbA : Below w.heap.size w (w1.alloc (.cells #[.string x2.name, .int .i64 x2.rank, .slice na x2.entries.length nc] 27)) := good_below hbw1 bA
  generalize w1.alloc (.cells #[.string x2.name, .int .i64 x2.rank, .slice na x2.entries.length nc] 27) = wA at bA kA hinA hbA ⊢
  generalize w1.heap.size = b5 at kA ⊢
  clear bA hin hbw1 c4
  have cS := specRollout (fun _ => True) (fun b => lo < b ∧ b < wA.heap.size) l0 l1 x2 l3 l4 l5 _ _ _ _ _ _ wA (fun b h => h.2) hinA.r0 (by have := hinA.n0; omega) hinA.k0 hinA.r1 (by have := hinA.n1; omega) hinA.k1 hinA.r2 hinA.k2 hinA.r3 hinA.o3 (by have := hinA.n3; omega) hinA.k3 hinA.r4 (by have := hinA.n4; omega) hinA.r5 (by have := hinA.n5; omega) hinA.k5 (fun _ _ => trivial)
  have cI := fun (W : World) (hW : Below wA.heap.size wA W) => implRolloutW (fun b => lo < b ∧ b < W.heap.size) l0 l1 x2 l3 l4 l5 _ _ _ _ _ _ W (fun b h => h.2) (hinA.below hW).r0 (by have := hinA.n0; omega) hinA.k0 (hinA.below hW).r1 (by have := hinA.n1; omega) hinA.k1 (hinA.below hW).r2 hinA.k2 (hinA.below hW).r3 hinA.o3 (by have := hinA.n3; omega) hinA.k3 (hinA.below hW).r4 (by have := hinA.n4; omega) (hinA.below hW).r5 (by have := hinA.n5; omega) hinA.k5 (fun W' hW' => HT.out W' (good_below (good_below hbA hW) hW'))
  have hLS := roll_law l0 l1 x2 l3 l4 l5
  have hRL := roll_len l0 l1 x2 l3 l4 l5
  have hn3 := hinA.n3
  have hn4 := hinA.n4
  obtain ⟨C, hC⟩ : ∃ C, rollC l0 l1 x2 l3 l4 l5 = C := ⟨_, rfl⟩
  obtain ⟨L, hL⟩ : ∃ L, rollL l0 l1 x2 l3 l4 l5 = L := ⟨_, rfl⟩
  simp only [hC, hL] at cS cI hLS hRL
  have HLS : Hid (LawSt l3.length L) := hLS
  have HNL : Hid (∀ s ∈ L, s.nodes.length ≤ l3.length) := hRL.2
  have hL6 : (L.length : Int) ≤ 6 := by have := hRL.1; omega
  have hn3' : (l3.length : Int) ≤ 11 := by omega
  have HBA : Hid (Below w.heap.size w wA) := hbA
  have q0 := kA.cell 0
  have q1 := kA.cell 1
  have q2 := kA.cell 2
  simp at q0 q1 q2
  clear hLS hRL hC hL hinA hbA HT
  go_upto_region 5 with (go_at_call 5; go_must (refine cS.mono ?_; rintro e w2 ⟨⟨p9, rfl, how9⟩, hb2⟩; obtain ⟨pa, pc, hp9, -⟩ := how9.value; subst hp9))
  have cJ := cI w2 hb2
  have k2 := kA.below hb2
  have r0 := k2.cell 0
  have r1 := k2.cell 1
  have r2 := k2.cell 2
  simp at r0 r1 r2
  clear q0 q1 q2 cS cI
  go_upto_region 6 with (go_at_call 6; go_must (refine cJ.mono ?_; rintro e w3 ⟨⟨p11, rfl, how11⟩, hb3⟩; obtain ⟨ra, rc, hp11, -⟩ := how11.value; subst hp11))
  have HS9 : Hid (StagesAt (fun b => b < w3.heap.size) w3 (.slice pa L.length pc) L) := (how9.below hb3).at.mono (fun b h => h.2)
  have HS11 : Hid (StagesAt (fun b => b < w3.heap.size) w3 (.slice ra L.length rc) L) := how11.at.mono (fun b h => h.2)
  have HB3 : Hid (Below w.heap.size w w3) := good_below HBA.out (good_below hb2 hb3)
  clear how9 how11 hb2 hb3 cJ k2 r0 r1 r2 kA HBA
  go_wp2_with fail
  go_loopw [13] (fun i13 wr => ∃ (k : Nat), i13 = .int .i64 (k : Int) ∧ k ≤ L.length ∧ Below w3.heap.size w3 wr) (fun i13 _ => L.length - (intOf i13).toNat)
  case atStart => exact ⟨0, rfl, by omega, Below.refl _ _⟩
  case round =>
    obtain ⟨k, rfl, hk, hb⟩ := hrel
    obtain ⟨wK, hwK⟩ : ∃ W, W = wr := ⟨_, rfl⟩
    subst hwK
    by_cases hkn : k < L.length
    · have hkn' : (k : Int) < (L.length : Int) := by omega
      obtain ⟨g9, o9, rfl, hg9, hc9⟩ := stg_row HS9.out (by omega)
      obtain ⟨g1, o1, rfl, hg1, hc1⟩ := stg_row HS11.out (by omega)
      have H9 : Hid _ := hc9
      have H1 : Hid _ := hc1
      obtain ⟨xa, xcp, x0, x1, x2', hxt⟩ := hc1 wK hb k hkn
      have hlast := HLS.out.last k hkn
      have hall := HLS.out.all k hkn
      have hxl := HNL.out L[k] (List.getElem_mem hkn)
      obtain ⟨x, hx⟩ : ∃ x, L[k] = x := ⟨_, rfl⟩
      rw [hx] at x0 x1 x2' hxt hlast hall hxl
      have HX : Hid (L[k] = x) := hx
      clear hx hc9 hc1
      obtain ⟨xp, xc, xn⟩ := x
      dsimp only at x0 x1 x2' hxt hlast hall hxl
      have HXT : Hid (TxtsAt (fun b => b < w3.heap.size) wK (.slice xa xn.length xcp) xn) := hxt
      have HLAST : Hid (xc ≠ 0 → k + 1 = L.length ∧ xn = []) := hlast
      have HALL : Hid (xc = 0 → xp = 100 → xn.length = l3.length) := hall
      have hxl' : (xn.length : Int) ≤ 11 := by omega
      clear hxt hlast hall
      go_upto_region 12 with fail
      have kB : Blk (wK.alloc (.cells #[.int .i64 xp, .int .i64 xc, .slice xa xn.length xcp] 36)) wK.heap.size 36 #[.int .i64 xp, .int .i64 xc, .slice xa xn.length xcp] := heap_alloc_last wK _
      have bB : Below wK.heap.size wK (wK.alloc (.cells #[.int .i64 xp, .int .i64 xc, .slice xa xn.length xcp] 36)) := (Below.refl _ wK).alloc (Nat.le_refl _) _
      have hbB : Below w3.heap.size w3 (wK.alloc (.cells #[.int .i64 xp, .int .i64 xc, .slice xa xn.length xcp] 36)) := good_below hb bB
      have hxB : TxtsAt (fun b => b < w3.heap.size) (wK.alloc (.cells #[.int .i64 xp, .int .i64 xc, .slice xa xn.length xcp] 36)) (.slice xa xn.length xcp) xn := HXT.out.keep (cells_below (fun b h => Nat.lt_of_lt_of_le h hb.size) bB)
      obtain ⟨ya, yc, d0, d1, d2, hyt⟩ := H9.out _ hbB k hkn
      rw [HX.out] at d0 d1 d2 hyt
      dsimp only at d0 d1 d2 hyt
      generalize wK.alloc (.cells #[.int .i64 xp, .int .i64 xc, .slice xa xn.length xcp] 36) = wB at kB hbB hxB d0 d1 d2 hyt ⊢
      generalize wK.heap.size = b14 at kB ⊢
      have hg9B : g9 < wB.heap.size := Nat.lt_of_lt_of_le hg9 hbB.size
      have y0 : ∀ N : GoodW (fun W => Below wB.heap.size wB W), N.W.cell? ⟨b14, 0, none⟩ = some (.int .i64 xp) := fun N => (kB.below N.ok).cell 0
      have y1 : ∀ N : GoodW (fun W => Below wB.heap.size wB W), N.W.cell? ⟨b14, 1, none⟩ = some (.int .i64 xc) := fun N => (kB.below N.ok).cell 1
      have y2 : ∀ N : GoodW (fun W => Below wB.heap.size wB W), N.W.cell? ⟨b14, 2, none⟩ = some (.slice xa xn.length xcp) := fun N => (kB.below N.ok).cell 2
      have z0 : ∀ N : GoodW (fun W => Below wB.heap.size wB W), N.W.cell? ⟨g9, o9 + k * 3, none⟩ = some (.int .i64 xp) := fun N => (N.ok.cell (p := ⟨g9, o9 + k * 3, none⟩) hg9B).trans d0
      have z1 : ∀ N : GoodW (fun W => Below wB.heap.size wB W), N.W.cell? ⟨g9, o9 + k * 3 + 1, none⟩ = some (.int .i64 xc) := fun N => (N.ok.cell (p := ⟨g9, o9 + k * 3 + 1, none⟩) hg9B).trans d1
      have z2 : ∀ N : GoodW (fun W => Below wB.heap.size wB W), N.W.cell? ⟨g9, o9 + k * 3 + 2, none⟩ = some (.slice ya xn.length yc) := fun N => (N.ok.cell (p := ⟨g9, o9 + k * 3 + 2, none⟩) hg9B).trans d2
      have cs := fun N : GoodW (fun W => Below wB.heap.size wB W) => lawSame (hxB.keep (cells_below (fun b h => Nat.lt_of_lt_of_le h hbB.size) N.ok)) (hyt.keep (cells_below (fun b h => Nat.lt_of_lt_of_le h hbB.size) N.ok)) (by omega)
      have HXB : Hid (TxtsAt (fun b => b < w3.heap.size) wB (.slice xa xn.length xcp) xn) := hxB
      have HBB : Hid (Below w3.heap.size w3 wB) := hbB
      have HKB : Hid (Blk wB b14 36 #[.int .i64 xp, .int .i64 xc, .slice xa xn.length xcp]) := kB
      clear bB HXT x0 x1 x2' d0 d1 d2 hyt hxB kB hbB hb
      haveI ne1 : Nonempty (GoodW (fun W => Below wB.heap.size wB W)) := ⟨⟨_, Below.refl _ wB⟩⟩
      refine wp_region_calm (fun W => Below wB.heap.size wB W) (by kernel_rfl) (by kernel_rfl) (Below.refl _ wB).drew ?_
      repeat (go_big_quiet_step ((go_at_call 7; exact Calls.calm _ (fun w2 hb => good_below (GoodW.ok _) hb) (cs _))))
      refine wpQuiet_nil ?_
      rintro WA ⟨⟨XA, hXA⟩, hEA⟩
      have hWA : Below wB.heap.size wB WA := by rw [hEA]; exact hXA
      clear hEA hXA XA cs y0 y1 y2 z0 z1 z2 ne1
      have kW := HKB.out.below hWA
      have e0 := kW.cell 0
      have e1 := kW.cell 1
      have e2 := kW.cell 2
      simp at e0 e1 e2
      have HKW : Hid (Blk WA b14 36 #[.int .i64 xp, .int .i64 xc, .slice xa xn.length xcp]) := kW
      have HXW : Hid (TxtsAt (fun b => b < w3.heap.size) WA (.slice xa xn.length xcp) xn) := HXB.out.keep (cells_below (fun b h => Nat.lt_of_lt_of_le h HBB.out.size) hWA)
      have HBW : Hid (Below w3.heap.size w3 WA) := good_below HBB.out hWA
      clear HXB HKB HBB hWA kW
      by_cases hc0 : xc = 0
      · subst hc0
        have hend : ((xp == 100) = true → ((xn.length : Int) != (l3.length : Int)) = false) := fun q => by
          have q1 := HALL.out rfl (by simpa using q)
          rw [bne_eq_false_iff_eq]; omega
        have HEND : Hid ((xp == 100) = true → ((xn.length : Int) != (l3.length : Int)) = false) := hend
        clear hend HLAST HALL
        by_cases hk0 : 0 < k
        · obtain ⟨m, hm⟩ : ∃ m, k = m + 1 := ⟨k - 1, by omega⟩
          have hkm : (k : Int) - 1 = (m : Int) := by omega
          have hk0' : (0 : Int) < (k : Int) := by omega
          have hmL : (m : Int) < (L.length : Int) := by omega
          have hmN : m < L.length := by omega
          have hsub : ∀ t ∈ L[m].nodes, hasB xn t = true := by
            have h1 := HLS.out.sub m (by omega)
            have h2 : L[m + 1]'(by omega) = ⟨xp, 0, xn⟩ := by
              have := HX.out
              subst hm
              exact this
            rw [h2] at h1
            exact h1 rfl
          obtain ⟨za, zc, _, _, t2, hzt⟩ := H1.out WA HBW.out m hmN
          have hzl := HNL.out L[m] (List.getElem_mem hmN)
          generalize L[m].nodes = zn at hsub t2 hzt hzl
          have HSUB : Hid (∀ t ∈ zn, hasB xn t = true) := hsub
          have HZT : Hid (TxtsAt (fun b => b < w3.heap.size) WA (.slice za zn.length zc) zn) := hzt
          have HT2 : Hid (WA.cell? ⟨g1, o1 + m * 3 + 2, none⟩ = some (.slice za zn.length zc)) := t2
          have HM : Hid (k = m + 1) := hm
          have hzl' : (zn.length : Int) ≤ 11 := by omega
          have hg1W : g1 < WA.heap.size := Nat.lt_of_lt_of_le hg1 HBW.out.size
          clear hsub hzt t2 hm
          go_wp2_with fail
          go_loopw [15] (fun i15 wr => ∃ (j : Nat), i15 = .int .i64 (j : Int) ∧ j ≤ zn.length ∧ Below WA.heap.size WA wr) (fun i15 _ => zn.length - (intOf i15).toNat)
          case atStart => exact ⟨0, rfl, by omega, Below.refl _ _⟩
          case round =>
            obtain ⟨j, rfl, hj, hbj⟩ := hrel
            obtain ⟨wJ, hwJ⟩ : ∃ W, W = wr := ⟨_, rfl⟩
            subst hwJ
            have kJ := HKW.out.below hbj
            have u0 := kJ.cell 0
            have u2 := kJ.cell 2
            simp at u0 u2
            have t2 := (hbj.cell (p := ⟨g1, o1 + m * 3 + 2, none⟩) hg1W).trans HT2.out
            by_cases hjn : j < zn.length
            · have hjn' : (j : Int) < (zn.length : Int) := by omega
              have hzJ := HZT.out.keep (cells_below (fun b h => Nat.lt_of_lt_of_le h HBW.out.size) hbj)
              obtain ⟨_, za', zc', hzv, hzc⟩ := hzJ
              simp only [Value.slice.injEq] at hzv
              obtain ⟨rfl, -, rfl⟩ := hzv
              obtain ⟨zg, zo, rfl, hzg, hzcell⟩ := hzc (by omega)
              have r0 := hzcell j hjn
              have hh := HSUB.out zn[j] (List.getElem_mem hjn)
              obtain ⟨t, ht⟩ : ∃ t, zn[j] = t := ⟨_, rfl⟩
              rw [ht] at r0 hh
              have hzgJ : zg < wJ.heap.size := cell_lt r0
              have hg1J : g1 < wJ.heap.size := cell_lt t2
              have y2 : ∀ N : GoodW (fun W => Below wJ.heap.size wJ W), N.W.cell? ⟨b14, 2, none⟩ = some (.slice xa xn.length xcp) := fun N => (kJ.below N.ok).cell 2
              have z2 : ∀ N : GoodW (fun W => Below wJ.heap.size wJ W), N.W.cell? ⟨g1, o1 + m * 3 + 2, none⟩ = some (.slice (some ⟨zg, zo, none⟩) zn.length zc) := fun N => (N.ok.cell (p := ⟨g1, o1 + m * 3 + 2, none⟩) hg1J).trans t2
              have z3 : ∀ N : GoodW (fun W => Below wJ.heap.size wJ W), N.W.cell? ⟨zg, zo + j, none⟩ = some (.string t) := fun N => (N.ok.cell (p := ⟨zg, zo + j, none⟩) hzgJ).trans r0
              have hxJ := HXW.out.keep (cells_below (fun b h => Nat.lt_of_lt_of_le h HBW.out.size) hbj)
              have hsJ : w3.heap.size ≤ wJ.heap.size := Nat.le_trans HBW.out.size hbj.size
              have ch : ∀ N : GoodW (fun W => Below wJ.heap.size wJ W), Calls Tryz.prog 8 #[.slice xa xn.length xcp, .string t] N.W fun e w' => e = .returned (.bool true) ∧ Below N.W.heap.size N.W w' := fun N => by
                have := lawHas (hxJ.keep (cells_below (fun b h => Nat.lt_of_lt_of_le h hsJ) N.ok)) (by omega) t
                rw [hh] at this
                exact this.mono fun e w' q => ⟨q.1, by rw [q.2]; exact Below.refl _ _⟩
              clear hzc hzcell ht hh hxJ hzg
              go_upto_region 19 with fail
              haveI ne1 : Nonempty (GoodW (fun W => Below wJ.heap.size wJ W)) := ⟨⟨_, Below.refl _ wJ⟩⟩
              refine wp_region_calm (fun W => Below wJ.heap.size wJ W) (by kernel_rfl) (by kernel_rfl) (Below.refl _ wJ).drew ?_
              repeat (go_big_quiet_step ((go_at_call 8; exact Calls.calm _ (fun w2 hb => good_below (GoodW.ok _) hb) (ch _))))
              refine wpQuiet_nil ?_
              rintro WX ⟨⟨XA, hXA⟩, hEA⟩
              have hWX : Below wJ.heap.size wJ WX := by rw [hEA]; exact hXA
              clear hEA hXA XA ch y2 z2 z3 ne1
              go_wp2_with fail
              exact ⟨⟨j + 1, by go_num, by omega, good_below hbj hWX⟩, by simp [intOf]; omega⟩
            · obtain rfl : j = zn.length := by omega
              have hjn' : ¬ ((zn.length : Int) < (zn.length : Int)) := by omega
              cases hq : (xp == 100)
              · go_wp2_with fail
                have hm := HM.out
                exact ⟨⟨k + 1, by go_num, by omega, good_below HBW.out hbj⟩, by simp [intOf]; omega⟩
              · have he := HEND.out hq
                go_wp2_with fail
                have hm := HM.out
                exact ⟨⟨k + 1, by go_num, by omega, good_below HBW.out hbj⟩, by simp [intOf]; omega⟩
        · obtain rfl : k = 0 := by omega
          go_wp2_with fail
          go_loopw [15] (fun i15 wr => i15 = .int .i64 0 ∧ wr = WA) (fun i15 _ => 0)
          case atStart => exact ⟨rfl, rfl⟩
          case round =>
            obtain ⟨rfl, hwr⟩ := hrel
            have hwr' := hwr.symm
            clear hwr
            subst hwr'
            cases hq : (xp == 100)
            · go_wp2_with fail
              exact ⟨⟨1, by go_num, by omega, HBW.out⟩, by simp [intOf]; omega⟩
            · have he := HEND.out hq
              go_wp2_with fail
              exact ⟨⟨1, by go_num, by omega, HBW.out⟩, by simp [intOf]; omega⟩
      · obtain ⟨hl1, rfl⟩ := HLAST.out hc0
        have hcb : (xc != 0) = true := by rw [bne_iff_ne]; exact hc0
        have hlb : ((k : Int) == (L.length : Int) - 1) = true := by rw [beq_iff_eq]; omega
        go_wp2_with fail
        go_ret
        exact ⟨rfl, good_below HB3.out HBW.out⟩
    · obtain rfl : k = L.length := by omega
      have hkn' : ¬ ((L.length : Int) < (L.length : Int)) := by omega
      go_wp2_with fail
      go_ret
      exact ⟨rfl, good_below HB3.out hb⟩
end Go.Proofs.YtdlopjimheaekaaGreatDoor
