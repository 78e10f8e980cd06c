/-
  Drawn right layers: spec's LayersOf. No statement of the seat is proved here.
-/
import Derived.Test.YtnlakebhkfbpfaaGreatDoorD3
import Derived.Test.YtnlakebhkfbpfaaGreatDoorM0
import Derived.Test.YtnlakebhkfbpfaaGreatDoorH7
namespace Go.Proofs.YtnlakebhkfbpfaaGreatDoor
open Go.ChangeShapes Go.WideShapes Go.ChangeAt Go.RowKit
set_option linter.unusedVariables false
set_option linter.unusedSimpArgs false

theorem Drawn.below {B : Nat} {w w' : World} {v : Value} {l : List LayV} (h : Drawn B w v l) (hb : Below w.heap.size w w') : Drawn B w' v l := ⟨OwnLayVs.below h.1 hb, fun y hy => ⟨OwnEntrys.below (h.2 y hy).1 hb, (h.2 y hy).2⟩⟩
theorem Drawn.mono {B B' : Nat} {w : World} {v : Value} {l : List LayV} (h : Drawn B w v l) (hB : B' ≤ B) : Drawn B' w v l := ⟨OwnLayVs.mono h.1 hB, fun y hy => ⟨OwnEntrys.mono (h.2 y hy).1 hB, (h.2 y hy).2⟩⟩
theorem Drawn.at {B : Nat} {w : World} {v : Value} {l : List LayV} (h : Drawn B w v l) : LayersAt (fun b => B ≤ b ∧ b < w.heap.size) w v (l.map (·.x)) := by
  obtain ⟨h1, a, cap, hv, hc⟩ := h.1.at
  refine ⟨by simpa using h1, a, cap, by simpa using hv, fun h0 => ?_⟩
  obtain ⟨b, off, ha, hb, hcell⟩ := hc (by simpa using h0)
  refine ⟨b, off, ha, hb, fun i hi => ?_⟩
  have hi' : i < l.length := by simpa using hi
  obtain ⟨c0, c1, c2⟩ := hcell i hi'
  simp only [List.getElem_map]
  exact ⟨c0, c1, l[i].nv, c2, (h.2 l[i] (List.getElem_mem hi')).1.at⟩
theorem lay_fits {x : Layer} (h : LayN x) : LayersOK 1048576 x := by
  obtain ⟨h1, _, _, h4, h5⟩ := h
  have h2 := short_size h1
  unfold LayersOK
  refine ⟨by omega, by omega, fun y hy => ?_⟩
  have := h5 y hy
  unfold EntD at this
  unfold EntrysOK
  omega
set_option maxRecDepth 100000 in
theorem drawSource (a : Option Addr) (len cap : Nat) (w : World) (hl : len ≤ 1048576) (hc : ∀ i, i < len → ∃ cb co, a = some ⟨cb, co, none⟩ ∧ cb < w.heap.size ∧ ∃ b : Nat, b < 256 ∧ w.cell? ⟨cb, co + i, none⟩ = some (.int .u8 b)) :
    Calls Tryz.prog 9 #[.slice a len cap] w fun e w' => e = .returned (.pointer (some ⟨w.heap.size, 0, none⟩)) ∧ Src w.heap.size w.heap.size a len cap 0 w w' ∧ w'.heap.size = w.heap.size + 1 := by
  have HC : Hid _ := hc
  have hl' : (len : Int) ≤ 1048576 := by omega
  clear hc
  go_enter Tryz.func9, Tryz.ntmps9
  go_wp2_with fail
  go_ret
  refine ⟨rfl, ⟨⟨0, len % 1000, ?_, Nat.le_refl _, by omega⟩, Nat.le_refl _, (Below.refl _ w).alloc (Nat.le_refl _) _, HC.out⟩, by simp⟩
  have hq : ((len % 1000 : Nat) : Int) = (len : Int) % 1000 := by omega
  have := heap_alloc_last w (.cells #[.slice a len cap, .int .i64 0, .int .i64 ((len : Int) % 1000)] 56)
  rw [hq]
  exact this
def baseT : ByteArray := ⟨#[98, 97, 115, 101]⟩
def abT : ByteArray := ⟨#[97, 46, 98]⟩
def sevT : ByteArray := ⟨#[55]⟩
theorem base_ok : layersB nameOK [⟨⟨#[98, 97, 115, 101]⟩, 0, [⟨⟨#[97, 46, 98]⟩, ⟨#[55]⟩⟩]⟩] = true := by kernel_rfl
/-- What LayersOf gives. -/
def GoodL (l : List Layer) : Prop := layersB nameOK l = true ∧ (∀ x ∈ l, LayN x) ∧ l.length ≤ 4 ∧ 0 < l.length
set_option maxRecDepth 100000 in
set_option maxHeartbeats 4000000 in
theorem drawLayersOf (a : Option Addr) (len cap : Nat) (w : World) (hl : len ≤ 1048576) (hc : ∀ i, i < len → ∃ cb co, a = some ⟨cb, co, none⟩ ∧ cb < w.heap.size ∧ ∃ b : Nat, b < 256 ∧ w.cell? ⟨cb, co + i, none⟩ = some (.int .u8 b)) :
    Calls Tryz.prog 4 #[.slice a len cap] w fun e w' => (∃ (v : Value) (l : List Layer), e = .returned v ∧ LayersAt (fun b => w.heap.size ≤ b ∧ b < w'.heap.size) w' v l ∧ GoodL l) ∧ Below w.heap.size w w' := by
  have c0 := drawSource a len cap w hl hc
  have c1 := fun (A' : Nat) (hA' : A' ≤ 60000) (W : World) (hs : Src w.heap.size w.heap.size a len cap A' w W) => drawLayers hA' hl hs
  have H1 : Hid _ := c1
  clear c1 hc
  go_enter Tryz.func4, Tryz.ntmps4
  go_wp2_with (go_at_call 9; go_must (refine c0.mono ?_; rintro e w1 ⟨rfl, hs1, hz1⟩))
  go_loopw [4] (fun i4 wr => ∃ (k : Nat), i4 = .int .i64 (k : Int) ∧ k ≤ 4 ∧ Src w.heap.size w.heap.size a len cap (2000 * k) w wr) (fun i4 _ => 4 - (intOf i4).toNat)
  case atStart => exact ⟨0, rfl, by omega, hs1⟩
  case round =>
    obtain ⟨k, rfl, hk, hs⟩ := hrel
    have hbw := hs.below
    by_cases hk4 : k < 4
    · have hk4' : (k : Int) < 4 := by omega
      have cd := H1.out (2000 * k) (by omega) wr hs
      have hgl := hs.lt
      go_upto_region 6 with (go_at_call 10; go_must (refine cd.mono ?_; rintro e w2 ⟨v2, l2, rfl, hd2, hl2, hs2, ho2⟩; obtain ⟨va, vc, hv2, -⟩ := hd2.1.value; subst hv2))
      have hat := hd2.at
      have cs := specLayers nameSpec (w := w2) (fun b hb => hb.2) hat (fun x hx => by
        obtain ⟨y, hy, rfl⟩ := List.mem_map.1 hx
        exact lay_fits (hd2.2 y hy).2)
      obtain ⟨OK, hOK⟩ : ∃ OK, layersB nameOK (l2.map (·.x)) = OK := ⟨_, rfl⟩
      rw [hOK] at cs
      have HOK : Hid (layersB nameOK (l2.map (·.x)) = OK) := hOK
      have HD2 : Hid (Drawn wr.heap.size w2 (.slice va l2.length vc) l2) := hd2
      have hl2' : (l2.length : Int) ≤ 4 := by omega
      have hwr := hbw.size
      clear hat hOK hd2 cd ho2
      cases OK
      · go_wp2_with (go_at_call 11; go_must (refine cs.mono ?_; rintro e w3 ⟨rfl, hb3⟩))
        exact ⟨⟨k + 1, by go_num, by omega, (hs2.bel hb3).mono (by omega)⟩, by simp [intOf]; omega⟩
      · by_cases h0 : 0 < l2.length
        · have h0' : (0 : Int) < (l2.length : Int) := by omega
          go_wp2_with (go_at_call 11; go_must (refine cs.mono ?_; rintro e w3 ⟨rfl, hb3⟩))
          go_ret
          have hd3 := HD2.out.below hb3
          refine ⟨⟨_, l2.map (·.x), rfl, hd3.at.mono (fun b hb => ⟨by omega, hb.2⟩), HOK.out, fun x hx => ?_, by simp; omega, by simp; omega⟩, (hs2.bel hb3).below⟩
          obtain ⟨y, hy, rfl⟩ := List.mem_map.1 hx
          exact (hd3.2 y hy).2
        · have h0' : ¬ ((0 : Int) < (l2.length : Int)) := by omega
          go_wp2_with (go_at_call 11; go_must (refine cs.mono ?_; rintro e w3 ⟨rfl, hb3⟩))
          exact ⟨⟨k + 1, by go_num, by omega, (hs2.bel hb3).mono (by omega)⟩, by simp [intOf]; omega⟩
    · have hk4' : ¬ ((k : Int) < 4) := by omega
      have hwr := hbw.size
      have b1 : Below wr.heap.size wr ((wr.alloc (.cells #[.string ⟨#[97, 46, 98]⟩, .string ⟨#[55]⟩] 35)).alloc (.cells #[.string ⟨#[98, 97, 115, 101]⟩, .int .i64 0, .slice (some ⟨wr.heap.size, 0, none⟩) 1 1] 30)) := ((Below.refl _ wr).alloc (Nat.le_refl _) _).alloc (by simp) _
      have he := (EntrysAt.new wr ⟨#[97, 46, 98]⟩ ⟨#[55]⟩).keep (w' := (wr.alloc (.cells #[.string ⟨#[97, 46, 98]⟩, .string ⟨#[55]⟩] 35)).alloc (.cells #[.string ⟨#[98, 97, 115, 101]⟩, .int .i64 0, .slice (some ⟨wr.heap.size, 0, none⟩) 1 1] 30)) (fun b i hb => by
        subst hb
        exact (((Below.refl _ (wr.alloc (.cells #[.string ⟨#[97, 46, 98]⟩, .string ⟨#[55]⟩] 35))).alloc (Nat.le_refl _) _).cell (p := ⟨wr.heap.size, i, none⟩) (by simp)))
      have hy := LayVsAt.newAt (wr.alloc (.cells #[.string ⟨#[97, 46, 98]⟩, .string ⟨#[55]⟩] 35)) ⟨#[98, 97, 115, 101]⟩ 0 [⟨⟨#[97, 46, 98]⟩, ⟨#[55]⟩⟩] (.slice (some ⟨wr.heap.size, 0, none⟩) 1 1) (wr.heap.size + 1) (by simp)
      have HE : Hid (EntrysAt (fun b => b = wr.heap.size) ((wr.alloc (.cells #[.string ⟨#[97, 46, 98]⟩, .string ⟨#[55]⟩] 35)).alloc (.cells #[.string ⟨#[98, 97, 115, 101]⟩, .int .i64 0, .slice (some ⟨wr.heap.size, 0, none⟩) 1 1] 30)) (.slice (some ⟨wr.heap.size, 0, none⟩) 1 1) [⟨⟨#[97, 46, 98]⟩, ⟨#[55]⟩⟩]) := he
      have HY : Hid _ := hy
      have HB1 : Hid _ := b1
      clear he hy b1
      go_wp2_with fail
      go_ret
      have b2 := good_below hbw HB1.out
      refine ⟨⟨_, rfl, [⟨⟨#[98, 97, 115, 101]⟩, 0, [⟨⟨#[97, 46, 98]⟩, ⟨#[55]⟩⟩]⟩], ⟨by simp [maxLen], _, 1, rfl, fun _ => ⟨wr.heap.size + 1, 0, rfl, ⟨by omega, by simp⟩, fun i hi => ?_⟩⟩, base_ok, fun x hx => ?_, by simp, by simp⟩, b2⟩
      · have hi0 : i = 0 := by simpa using hi
        subst hi0
        obtain ⟨_, a1, cap1, hv1, hc1⟩ := HY.out
        simp only [Value.slice.injEq] at hv1
        obtain ⟨rfl, -, rfl⟩ := hv1
        obtain ⟨bb, off, e1, -, hcell⟩ := hc1 (by simp)
        simp only [Option.some.injEq, Addr.mk.injEq, and_true] at e1
        obtain ⟨rfl, rfl⟩ := e1
        obtain ⟨q0, q1, q2⟩ := hcell 0 (by simp)
        exact ⟨q0, q1, _, q2, EntrysAt.mono HE.out (fun b hb => by subst hb; exact ⟨by omega, by simp; omega⟩)⟩
      · rw [List.mem_singleton] at hx
        subst hx
        refine ⟨by decide, by decide, by decide, by simp, fun e he => ?_⟩
        rw [List.mem_singleton] at he
        subst he
        exact ⟨by decide, by decide⟩
end Go.Proofs.YtnlakebhkfbpfaaGreatDoor
