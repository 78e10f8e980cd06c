/-
  The copies of a program. A program is copied; the laws' walks. No statement of the seat is proved here.
-/
import Derived.Test.YthopmdfichfhdaaGreatDoorE4
import Derived.Test.YthopmdfichfhdaaGreatDoorX11
namespace Go.Proofs.YthopmdfichfhdaaGreatDoor
open Go.ChangeShapes Go.WideShapes Go.ChangeAt Go.RowKit
set_option linter.unusedVariables false
set_option linter.unusedSimpArgs false

theorem RowInss.thr {S : Nat → Prop} {w : World} {g : Nat} {v : Value} {l : List Ins} (h : RowInss w g v l) (hS : S g) : InssAt S w v l := h.at hS
/-- The first k rows of instructions are laid, out of blocks of S. -/
def ThrC (S : Nat → Prop) (w : World) (cur : Array Value) (l : List (List Ins)) (k : Nat) : Prop := ∀ i (h : i < l.length), i < k → ∃ x, cur[i]? = some x ∧ InssAt S w x l[i]
set_option maxRecDepth 100000 in
set_option maxHeartbeats 4000000 in
theorem toInsSS {S : Nat → Prop} {l : List (List Ins)} {v : Value} {w : World} (hS : ∀ b, S b → b < w.heap.size) (h : ThrAt S w v l) (hl : l.length ≤ 1048576) (hcl : ∀ c ∈ l, c.length ≤ 1048576) :
    Calls Tryz.prog 17 #[v] w fun e w' => (∃ v', e = .returned v' ∧ ThrAt (fun b => w.heap.size ≤ b ∧ b < w'.heap.size) w' v' l) ∧ Below w.heap.size w w' := by
  obtain ⟨hlm, a, cap, rfl, hc⟩ := h
  have HC : Hid _ := hc
  have HL : Hid (∀ c ∈ l, c.length ≤ 1048576) := hcl
  clear hc hcl
  obtain ⟨n, hn⟩ : ∃ n, l.length = n := ⟨_, rfl⟩
  obtain ⟨cur0, hcs, hmk0⟩ := makeN 1 28 39 24 n Tryz.underlying28 (by kernel_rfl) (by omega) (by omega) w
  rw [hn] at hl hlm ⊢
  go_enter Tryz.func17, Tryz.ntmps17
  go_wp2_with fail
  go_loopw [4] (fun i4 wr => ∃ (k : Nat) (cur : Array Value), i4 = .int .i64 (k : Int) ∧ k ≤ n ∧ Blk wr w.heap.size 39 cur ∧ cur.size = n * 1 ∧ ThrC (fun b => w.heap.size < b ∧ b < wr.heap.size) wr cur l k ∧ Below w.heap.size w wr) (fun i4 _ => n - (intOf i4).toNat)
  case atStart => exact ⟨0, cur0, rfl, by omega, heap_alloc_last w _, hcs, fun i _ h => by omega, (Below.refl _ w).alloc (Nat.le_refl _) _⟩
  case round =>
    obtain ⟨k, cur, rfl, hk, hblk, hsz, hic, hb⟩ := hrel
    have HI : Hid (ThrC (fun b => w.heap.size < b ∧ b < wr.heap.size) wr cur l k) := hic
    have HB : Hid (Blk wr w.heap.size 39 cur) := hblk
    have hwl : w.heap.size < wr.heap.size := hblk.lt
    clear hic hblk
    by_cases hkn : k < n
    · have hkn' : (k : Int) < (n : Int) := by omega
      have hkl : k < l.length := by omega
      obtain ⟨b, off, rfl, hbB, hcell⟩ := HC.out (by omega)
      obtain ⟨x, c0, e2⟩ := hcell k hkl
      have hbw : b < w.heap.size := hS b hbB
      have d0 := (hb.cell (p := ⟨b, off + k, none⟩) hbw).trans c0
      have z0 : k < cur.size := by rw [hsz]; omega
      have ct := toInsS (w := wr) (fun b hb' => Nat.lt_of_lt_of_le (hS b hb') hb.size) (e2.keep (cells_below hS hb)) (HL.out _ (List.getElem_mem hkl))
      obtain ⟨xa, xc, rfl⟩ := e2.shape
      obtain ⟨c, hlk⟩ : ∃ c, l[k] = c := ⟨_, rfl⟩
      rw [hlk] at ct d0
      have HLK : Hid (l[k] = c) := hlk
      obtain ⟨m, hm⟩ : ∃ m, c.length = m := ⟨_, rfl⟩
      rw [hm] at ct d0
      have HM : Hid (c.length = m) := hm
      clear hlk hm c0 hcell e2
      go_wp2_with (go_at_call 28; go_must (refine ct.mono ?_; rintro e w1 ⟨⟨v1, rfl, hv1⟩, hb1⟩; have hbk := HB.out.below hb1; have e0 := hbk.cell k; rw [Array.getElem?_eq_getElem z0] at e0; have f0 := hbk.fro k; have HV : Hid (RowInss w1 wr.heap.size v1 c) := hv1; obtain rfl := hv1.2.1; clear hv1))
      have hne : ∀ b i, (w.heap.size < b ∧ b < w1.heap.size) → (w1.setCell ⟨w.heap.size, k, none⟩ (.slice (some ⟨wr.heap.size, 0, none⟩) c.length c.length)).cell? ⟨b, i, none⟩ = w1.cell? ⟨b, i, none⟩ := fun b i hb => cell_other i (by show b ≠ w.heap.size; omega)
      refine ⟨⟨k + 1, _, rfl, by omega, hbk.set k _, by simp [hsz], ?_, (good_below hb hb1).setCell (Nat.le_refl _) _⟩, by simp [intOf]; omega⟩
      intro i hi hik
      have hsz1 := hb1.size
      by_cases hik2 : i = k
      · subst hik2
        refine ⟨_, by rw [Array.getElem?_setIfInBounds, if_pos rfl, if_pos z0], ?_⟩
        rw [HLK.out]
        refine ((HV.out.at (S := fun b => w.heap.size < b ∧ b < w1.heap.size) ⟨hwl, HV.out.lt⟩).keep hne).mono (fun b hb => ⟨hb.1, ?_⟩)
        simp only [World.size_setCell]
        exact hb.2
      · obtain ⟨x, h1, h2⟩ := HI.out i hi (by omega)
        refine ⟨x, by rw [Array.getElem?_setIfInBounds, if_neg (by omega)]; exact h1, ?_⟩
        refine (((h2.keep (cells_below (fun b hb => hb.2) hb1)).mono (S' := fun b => w.heap.size < b ∧ b < w1.heap.size) (fun b hb => ⟨hb.1, by omega⟩)).keep hne).mono (fun b hb => ⟨hb.1, ?_⟩)
        simp only [World.size_setCell]
        exact hb.2
    · have hkn' : ¬ ((k : Int) < (n : Int)) := by omega
      go_wp2_with fail
      go_ret
      obtain rfl : k = n := by omega
      refine ⟨⟨.slice (some ⟨w.heap.size, 0, none⟩) k k, rfl, by omega, some ⟨w.heap.size, 0, none⟩, k, by rw [hn], fun _ => ⟨w.heap.size, 0, rfl, ⟨Nat.le_refl _, hwl⟩, fun i hi => ?_⟩⟩, hb⟩
      obtain ⟨x, h1, h2⟩ := HI.out i hi (by omega)
      exact ⟨x, by rw [Nat.zero_add, HB.out.cell]; exact h1, h2.mono (fun b hb => ⟨Nat.le_of_lt hb.1, hb.2⟩)⟩
end Go.Proofs.YthopmdfichfhdaaGreatDoor

namespace Go.Proofs.YthopmdfichfhdaaGreatDoor
open Go.ChangeShapes Go.WideShapes Go.ChangeAt Go.RowKit
set_option linter.unusedVariables false
set_option linter.unusedSimpArgs false

set_option maxRecDepth 100000 in
set_option maxHeartbeats 4000000 in
theorem toProg {S : Nat → Prop} {ini : List Int} {thr : List (List Ins)} {iv tv : Value} {w : World} (hS : ∀ b, S b → b < w.heap.size) (h : PAt S w iv tv ini thr) (hl : PLim 1048576 ini thr) :
    Calls Tryz.prog 7 #[.agg #[iv, tv]] w fun e w' => (∃ iv' tv', e = .returned (.agg #[iv', tv']) ∧ PAt (fun b => w.heap.size ≤ b ∧ b < w'.heap.size) w' iv' tv' ini thr) ∧ Below w.heap.size w w' := by
  have HA : Hid (∀ W, (∀ b i, S b → W.cell? ⟨b, i, none⟩ = w.cell? ⟨b, i, none⟩) → PAt S W iv tv ini thr) := fun W hW => h.keep hW
  have HS : Hid (∀ b, S b → b < w.heap.size) := hS
  have hli : ini.length ≤ 1048576 := by have := hl.i; omega
  have hlt : thr.length ≤ 1048576 := by have := hl.t; omega
  have HLC : Hid (∀ c ∈ thr, c.length ≤ 1048576) := fun c hc => by have := hl.c c hc; omega
  have ct := fun W (hS' : ∀ b, S b → b < W.heap.size) (hW : ∀ b i, S b → W.cell? ⟨b, i, none⟩ = w.cell? ⟨b, i, none⟩) => toInsSS (w := W) hS' (HA.out W hW).t hlt HLC.out
  have cn := fun W (hS' : ∀ b, S b → b < W.heap.size) (hW : ∀ b i, S b → W.cell? ⟨b, i, none⟩ = w.cell? ⟨b, i, none⟩) => toIntS (w := W) hS' (HA.out W hW).i hli
  obtain ⟨a1, c1, rfl⟩ := h.i.shape
  obtain ⟨a2, c2, rfl⟩ := h.t.shape
  clear h hl hS hli hlt
  have HCT : Hid (∀ W : World, (∀ b, S b → b < W.heap.size) → _) := ct
  have HCN : Hid (∀ W : World, (∀ b, S b → b < W.heap.size) → _) := cn
  clear ct cn
  go_enter Tryz.func7, Tryz.ntmps7
  go_upto_region 2 with fail
  obtain ⟨wA, hwA⟩ : ∃ W, ((w.alloc (.cells #[.slice a1 ini.length c1, .slice a2 thr.length c2] 25)).alloc (.cells #[.slice none 0 0, .slice none 0 0] 30)).alloc (.cells #[.slice none 0 0, .slice none 0 0] 30) = W := ⟨_, rfl⟩
  have hb : Below w.heap.size w wA := by rw [← hwA]; exact bel3 w _ _ _
  have hsz : wA.heap.size = w.heap.size + 1 + 1 + 1 := by rw [← hwA]; simp
  have k0 : Blk wA w.heap.size 25 #[.slice a1 ini.length c1, .slice a2 thr.length c2] := by rw [← hwA]; exact last30 w _ _ _
  have k1 : Blk wA (w.heap.size + 1) 30 #[.slice none 0 0, .slice none 0 0] := by rw [← hwA]; exact last3 w _ _ _
  have k2 : Blk wA (w.heap.size + 1 + 1) 30 #[.slice none 0 0, .slice none 0 0] := by rw [← hwA]; exact last3' w _ _ _
  have HB : Hid (Below w.heap.size w wA) := hb
  rw [hwA]
  clear hwA hb
  obtain ⟨g, hg⟩ : ∃ g, w.heap.size = g := ⟨_, rfl⟩
  have hgl : w.heap.size ≤ g + 1 + 1 := by omega
  have hgl1 : w.heap.size ≤ g + 1 := by omega
  rw [hg] at k0 k1 k2 hsz ⊢
  have s0 := k0.cell 0
  simp at s0
  have HK : Hid (Blk wA g 25 #[.slice a1 ini.length c1, .slice a2 thr.length c2] ∧ Blk wA (g + 1) 30 #[.slice none 0 0, .slice none 0 0] ∧ Blk wA (g + 1 + 1) 30 #[.slice none 0 0, .slice none 0 0]) := ⟨k0, k1, k2⟩
  clear k0 k1 k2
  have c1' := HCN.out wA (fun b hb => Nat.lt_of_lt_of_le (HS.out b hb) HB.out.size) (cells_below HS.out HB.out)
  go_upto_region 3 with (go_at_call 16; go_must (refine c1'.mono ?_; rintro e w1 ⟨⟨v1, rfl, hv1⟩, hb1⟩; have HV1 : Hid (RowNums w1 wA.heap.size v1 ini) := hv1; obtain rfl := hv1.2.1; clear hv1; have q2 := HK.out.2.2.below hb1; have t0 := q2.cell 0; simp at t0; have f0 := q2.fro 0; clear q2))
  obtain ⟨gn, hgn⟩ : ∃ b, wA.heap.size = b := ⟨_, rfl⟩
  have HGN : Hid (gn = g + 1 + 1 + 1) := by show gn = g + 1 + 1 + 1; omega
  have HV2 : Hid (NumsAt (fun b => b = gn) w1 (.slice (some ⟨gn, 0, none⟩) ini.length ini.length) ini) := by have := HV1.out; rw [hgn] at this; exact this.at rfl
  have HL1 : Hid (gn < w1.heap.size) := by have := HV1.out.lt; rw [hgn] at this; exact this
  have hq : g + 1 + 1 + 1 = gn := by omega
  rw [hq]
  clear hgn c1' hq hsz
  obtain ⟨wB, hwB⟩ : ∃ W, w1.setCell ⟨g + 1 + 1, 0, none⟩ (.slice (some ⟨gn, 0, none⟩) ini.length ini.length) = W := ⟨_, rfl⟩
  have hszB : wB.heap.size = w1.heap.size := by rw [← hwB]; simp
  have k0 : Blk wB g 25 #[.slice a1 ini.length c1, .slice a2 thr.length c2] := by rw [← hwB]; exact (HK.out.1.below hb1).other (by omega) _ _
  have k1 : Blk wB (g + 1) 30 #[.slice none 0 0, .slice none 0 0] := by rw [← hwB]; exact (HK.out.2.1.below hb1).other (by omega) _ _
  have k2 : Blk wB (g + 1 + 1) 30 #[.slice (some ⟨gn, 0, none⟩) ini.length ini.length, .slice none 0 0] := by rw [← hwB]; exact (HK.out.2.2.below hb1).set 0 _
  have HB2 : Hid (Below w.heap.size w wB) := by rw [← hwB]; exact (HB.out.trans (hb1.mono HB.out.size)).setCell hgl _
  have HN2 : Hid (NumsAt (fun b => b = gn) wB (.slice (some ⟨gn, 0, none⟩) ini.length ini.length) ini) := by rw [← hwB]; exact HV2.out.keep (fun b i hb => cell_other i (by show b ≠ g + 1 + 1; rw [hb, HGN.out]; omega))
  have HLB : Hid (gn < wB.heap.size) := by rw [hszB]; exact HL1.out
  rw [hwB]
  clear hwB s0 t0 f0 hszB
  have s1 := k0.cell 1
  simp at s1
  have HK2 : Hid (Blk wB (g + 1) 30 #[.slice none 0 0, .slice none 0 0] ∧ Blk wB (g + 1 + 1) 30 #[.slice (some ⟨gn, 0, none⟩) ini.length ini.length, .slice none 0 0]) := ⟨k1, k2⟩
  clear k0 k1 k2
  have c2' := HCT.out wB (fun b hb => Nat.lt_of_lt_of_le (HS.out b hb) HB2.out.size) (cells_below HS.out HB2.out)
  go_upto_region 4 with (go_at_call 17; go_must (refine c2'.mono ?_; rintro e w2 ⟨⟨v2, rfl, hv2⟩, hb2⟩; have HV3 : Hid (ThrAt (fun b => wB.heap.size ≤ b ∧ b < w2.heap.size) w2 v2 thr) := hv2; obtain ⟨a4, c4, rfl⟩ := hv2.shape; clear hv2; have q2 := HK2.out.2.below hb2; have t1 := q2.cell 1; simp at t1; have f1 := q2.fro 1; clear q2))
  obtain ⟨wC, hwC⟩ : ∃ W, w2.setCell ⟨g + 1 + 1, 1, none⟩ (.slice a4 thr.length c4) = W := ⟨_, rfl⟩
  have hszC : wC.heap.size = w2.heap.size := by rw [← hwC]; simp
  have HLW : Hid (g + 1 + 1 < wB.heap.size) := HK2.out.2.lt
  have HSC : Hid (wC.heap.size = w2.heap.size) := hszC
  have k1 : Blk wC (g + 1) 30 #[.slice none 0 0, .slice none 0 0] := by rw [← hwC]; exact (HK2.out.1.below hb2).other (by omega) _ _
  have k2 : Blk wC (g + 1 + 1) 30 #[.slice (some ⟨gn, 0, none⟩) ini.length ini.length, .slice a4 thr.length c4] := by rw [← hwC]; exact (HK2.out.2.below hb2).set 1 _
  have HB3 : Hid (Below w.heap.size w wC) := by rw [← hwC]; exact (HB2.out.trans (hb2.mono HB2.out.size)).setCell hgl _
  have HN3 : Hid (NumsAt (fun b => b = gn) wC (.slice (some ⟨gn, 0, none⟩) ini.length ini.length) ini) := by
    rw [← hwC]
    exact (HN2.out.keep (cells_below (fun b hb => by rw [hb]; exact HLB.out) hb2)).keep (fun b i hb => cell_other i (by show b ≠ g + 1 + 1; rw [hb, HGN.out]; omega))
  have HT3 : Hid (ThrAt (fun b => wB.heap.size ≤ b ∧ b < w2.heap.size) wC (.slice a4 thr.length c4) thr) := by
    rw [← hwC]
    exact HV3.out.keep (fun b i hb => cell_other i (by show b ≠ g + 1 + 1; have := HLW.out; have := hb.1; omega))
  have HSB : Hid (wB.heap.size ≤ w2.heap.size) := hb2.size
  rw [hwC]
  clear hwC s1 t1 f1 hszC c2'
  have HK4 : Hid (Blk wC (g + 1) 30 #[.slice none 0 0, .slice none 0 0] ∧ Blk wC (g + 1 + 1) 30 #[.slice (some ⟨gn, 0, none⟩) ini.length ini.length, .slice a4 thr.length c4]) := ⟨k1, k2⟩
  clear k1 k2
  go_wp2_with (first
    | (refine wpList_load_row rfl 30 _ rfl (g + 1 + 1) rfl 30 #[.slice (some ⟨gn, 0, none⟩) ini.length ini.length, .slice a4 thr.length c4] (0, 0) _ HK4.out.2 Tryz.underlying30 rfl (by first | kernel_rfl | rfl) ?_)
    | (refine wpList_store_row rfl 30 _ _ rfl (g + 1) #[.slice (some ⟨gn, 0, none⟩) ini.length ini.length, .slice a4 thr.length c4] rfl rfl 30 _ HK4.out.1 (by first | kernel_rfl | rfl) (by first | kernel_rfl | rfl) (by first | kernel_rfl | rfl) ?_; simp only [Act.put]))
  refine bodyPost_ret (v := .agg #[.slice (some ⟨gn, 0, none⟩) ini.length ini.length, .slice a4 thr.length c4]) (results_cell_row rfl _ _ (g + 1) 30 #[.slice (some ⟨gn, 0, none⟩) ini.length ini.length, .slice a4 thr.length c4] (0, 0) _ rfl (setRow_heap _ _ _ _ _ _ HK4.out.1) Tryz.underlying30 rfl (by kernel_rfl)) rfl ?_
  refine ⟨⟨_, _, rfl, ?_, ?_⟩, below_setRow HB3.out hgl1 _⟩
  · refine (HN3.out.keep (fun b i hb => cell_setRow_other _ _ _ _ (by show b ≠ g + 1; rw [hb, HGN.out]; omega))).mono (fun b hb => ?_)
    have h1 := HGN.out
    have h2 := HLB.out
    have h3 := HSB.out
    have h4 := HSC.out
    simp only [size_setRow]
    constructor <;> omega
  · refine (HT3.out.keep (fun b i hb => cell_setRow_other _ _ _ _ (by show b ≠ g + 1; have := HLW.out; have := hb.1; omega))).mono (fun b hb => ?_)
    have h1 := HLW.out
    have h4 := HSC.out
    simp only [size_setRow]
    have := hb.1
    have := hb.2
    constructor <;> omega
end Go.Proofs.YthopmdfichfhdaaGreatDoor
